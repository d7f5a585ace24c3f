/-
  The law InsPrints: true at every input.
-/
import Derived.Test.YtlebmmlkckilfaaDoorRefPrtJ
import Derived.Test.YtlebmmlkckilfaaDoorRefChkJ
import Derived.Test.YtlebmmlkckilfaaDoorInsKnows
namespace Go.Proofs.YtlebmmlkckilfaaDoor
open Go.RowKit

set_option maxHeartbeats 2000000 in
set_option maxRecDepth 100000 in
theorem insPrints_bad (o d a b n t : Int) (hx : In64I ⟨o, d, a, b, n, t⟩) (hc : ¬ chkV ⟨o, d, a, b, n, t⟩ 200 = 0) (w : World) (hl : Laid w) :
    Calls Tryd.prog 4 #[.agg #[.int .i64 o, .int .i64 d, .int .i64 a, .int .i64 b, .int .i64 n, .int .i64 t]] w fun e w' => e = .returned (.bool true) ∧ New w w' := by
  have HL := Lib.hid hl
  have HX := Lib.hid hx
  have hx0 := Lib.hid (Has.box w ⟨o, d, a, b, n, t⟩)
  have t1 := prtT_bad hc
  have t2 := prtE_bad hc
  have q := bneq_of hc
  clear hl hx hc
  go_enter Tryd.func4, Tryd.ntmps4
  go_wp2_with (first
    | (go_at_call 15; refine (print_any o d a b n t HX.out _ (HL.out.alloc _)).mono ?_; rintro e w1 ⟨rfl, hn⟩; have hcur := (alloc_new _ _).trans hn; have hx := hx0.out.new hn)
    | (refine wpList_ldI rfl (.tmp 1) rfl _ rfl hx ?_)
    | (go_at_call 13; refine (refCheck_any o d a b n t 200 _).mono ?_; rintro e w1 ⟨rfl, hn⟩; have hcur := hcur.trans hn; have hx := hx.new hn)
    | (go_at_call 14; refine (knows_from _ HL hcur).mono ?_; rintro e w2 ⟨rfl, h2⟩))
  go_ret
  exact ⟨rfl, h2⟩
set_option maxHeartbeats 2000000 in
set_option maxRecDepth 100000 in
theorem insPrints_good (o d a b n t : Int) (hx : In64I ⟨o, d, a, b, n, t⟩) (hc : chkV ⟨o, d, a, b, n, t⟩ 200 = 0) (w : World) (hl : Laid w) :
    Calls Tryd.prog 4 #[.agg #[.int .i64 o, .int .i64 d, .int .i64 a, .int .i64 b, .int .i64 n, .int .i64 t]] w fun e w' => e = .returned (.bool true) ∧ New w w' := by
  have HL := Lib.hid hl
  have HX := Lib.hid hx
  have HC := Lib.hid hc
  have hx0 := Lib.hid (Has.box w ⟨o, d, a, b, n, t⟩)
  have t2 := prtE_good hc
  have t1 : prtT ⟨o, d, a, b, n, t⟩ = prtB ⟨o, d, a, b, n, t⟩ := bytes_eq (by rw [prtT_good hc, prtB_toList])
  clear hl hx
  go_enter Tryd.func4, Tryd.ntmps4
  go_wp2_with (first
    | (go_at_call 15; refine (print_any o d a b n t HX.out _ (HL.out.alloc _)).mono ?_; rintro e w1 ⟨rfl, hn⟩; have hcur := (alloc_new _ _).trans hn; have hx := hx0.out.new hn)
    | (refine wpList_ldI rfl (.tmp 1) rfl _ rfl hx ?_)
    | (go_at_call 13; refine (refCheck_any o d a b n t 200 _).mono ?_; rintro e w1 ⟨rfl, hn⟩; have hcur := hcur.trans hn; have hx := hx.new hn)
    | (go_at_call 16; refine (refPrint_any o d a b n t HX.out HC.out _).mono ?_; rintro e w1 ⟨rfl, hn⟩; have hcur := hcur.trans hn; have hx := hx.new hn)
    | (go_at_call 14; refine (knows_from _ HL hcur).mono ?_; rintro e w2 ⟨rfl, h2⟩))
  go_ret
  exact ⟨rfl, h2⟩
theorem insPrints_law (o d a b n t : Int) (hx : In64I ⟨o, d, a, b, n, t⟩) (w : World) (hl : Laid w) :
    Calls Tryd.prog 4 #[.agg #[.int .i64 o, .int .i64 d, .int .i64 a, .int .i64 b, .int .i64 n, .int .i64 t]] w fun e w' => e = .returned (.bool true) ∧ New w w' := by
  by_cases hc : chkV ⟨o, d, a, b, n, t⟩ 200 = 0
  · exact insPrints_good o d a b n t hx hc w hl
  · exact insPrints_bad o d a b n t hx hc w hl
end Go.Proofs.YtlebmmlkckilfaaDoor
