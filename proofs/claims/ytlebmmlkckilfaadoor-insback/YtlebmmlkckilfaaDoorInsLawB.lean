/-
  The law InsBack: true at every input.
-/
import Derived.Test.YtlebmmlkckilfaaDoorInsKnows
namespace Go.Proofs.YtlebmmlkckilfaaDoor
open Go.RowKit

theorem parse_prt {x : I} (hx : In64I x) (hc : chkV x 200 = 0) (w : World) (hl : Laid w) :
    Calls Tryd.prog 17 #[.string (prtT x)] w fun e w' => e = .returned (.tuple #[.agg #[.int .i64 (x).op, .int .i64 (x).d, .int .i64 (x).a, .int .i64 (x).b, .int .i64 (x).n, .int .i64 (x).t], .int .i64 0]) ∧ New w w' := by
  have h := parse_yes (prtL x) x hx hc rfl (by have := prt_len hx (chk_zero hc).1; omega) w hl
  rw [show prtT x = ⟨(prtL x).toArray⟩ from bytes_eq (by rw [prtT_good hc])]
  exact h
theorem parse_some_at {s : ByteArray} {x : I} (h : prs s.data.toList = some x) (hs : s.size ≤ 1000) (w : World) (hl : Laid w) :
    Calls Tryd.prog 17 #[.string s] w fun e w' => e = .returned (.tuple #[.agg #[.int .i64 (x).op, .int .i64 (x).d, .int .i64 (x).a, .int .i64 (x).b, .int .i64 (x).n, .int .i64 (x).t], .int .i64 0]) ∧ New w w' := by
  have := insParse_any s (by omega) w hl
  rw [prsX_some h, prsE_some h] at this
  exact this
theorem parse_none_at {s : ByteArray} (h : prs s.data.toList = none) (hs : s.size ≤ 1000) (w : World) (hl : Laid w) :
    Calls Tryd.prog 17 #[.string s] w fun e w' => e = .returned (.tuple #[.agg #[.int .i64 0, .int .i64 0, .int .i64 0, .int .i64 0, .int .i64 0, .int .i64 0], .int .i64 2]) ∧ New w w' := by
  have := insParse_any s (by omega) w hl
  rw [prsX_none h, prsE_none h] at this
  exact this

set_option maxHeartbeats 1000000 in
set_option maxRecDepth 100000 in
theorem insBack_long (o d a b n t : Int) (s : ByteArray) (h : (1000 : Int) < (s.size : Int)) (w : World) (hl : Laid w) :
    Calls Tryd.prog 7 #[.agg #[.int .i64 o, .int .i64 d, .int .i64 a, .int .i64 b, .int .i64 n, .int .i64 t], .string s] w fun e w' => e = .returned (.bool true) ∧ New w w' := by
  have HL := Lib.hid hl
  clear hl
  go_enter Tryd.func7, Tryd.ntmps7
  go_wp2_with (go_at_call 14; refine (knows_from _ HL (alloc_new _ _)).mono ?_; rintro e w1 ⟨rfl, h1⟩)
  go_ret
  exact ⟨rfl, h1⟩

set_option maxHeartbeats 2000000 in
set_option maxRecDepth 100000 in
theorem insBack_good_none (o d a b n t : Int) (hx : In64I ⟨o, d, a, b, n, t⟩) (hc : chkV ⟨o, d, a, b, n, t⟩ 200 = 0) (s : ByteArray) (h : s.size ≤ 1000) (hp : prs s.data.toList = none) (w : World) (hl : Laid w) :
    Calls Tryd.prog 7 #[.agg #[.int .i64 o, .int .i64 d, .int .i64 a, .int .i64 b, .int .i64 n, .int .i64 t], .string s] w fun e w' => e = .returned (.bool true) ∧ New w w' := by
  have HL := Lib.hid hl
  have HX := Lib.hid hx
  have hx0 := Lib.hid (Has.box w ⟨o, d, a, b, n, t⟩)
  have PT := Lib.hid (parse_prt hx hc)
  have PN := Lib.hid (parse_none_at hp h)
  have ex := prtE_good hc
  have hlen : ¬ (1000 : Int) < (s.size : Int) := by omega
  clear hl hx hc hp h
  go_enter Tryd.func7, Tryd.ntmps7
  go_wp2_with (go_at_call 15; refine (print_any o d a b n t HX.out _ (HL.out.alloc _)).mono ?_; rintro e w1 ⟨rfl, hn1⟩)
  refine (PT.out _ ((HL.out.alloc _).new hn1)).mono ?_
  rintro e w2 ⟨rfl, hn2⟩
  have hcur := ((alloc_new w (.cells #[.int .i64 o, .int .i64 d, .int .i64 a, .int .i64 b, .int .i64 n, .int .i64 t] 23)).trans hn1).trans hn2
  have hx2 := ((hx0.out.new hn1).new hn2).new (alloc_new _ (.cells #[.int .i64 o, .int .i64 d, .int .i64 a, .int .i64 b, .int .i64 n, .int .i64 t] 23))
  go_wp2_with (refine wpList_ldI rfl (.tmp 2) rfl _ rfl hx2 ?_)
  refine (PN.out _ ((HL.out.new hcur).alloc _)).mono ?_
  rintro e w3 ⟨rfl, hn3⟩
  have hcur := (hcur.alloc _).trans hn3
  go_wp2_with (go_at_call 14; refine (knows_from _ HL (hcur.alloc _)).mono ?_; rintro e w4 ⟨rfl, h4⟩)
  go_ret
  exact ⟨rfl, h4⟩
set_option maxHeartbeats 2000000 in
set_option maxRecDepth 100000 in
theorem insBack_good_some (o d a b n t o' d' a' b' n' t' : Int) (hx : In64I ⟨o, d, a, b, n, t⟩) (hc : chkV ⟨o, d, a, b, n, t⟩ 200 = 0) (s : ByteArray) (h : s.size ≤ 1000) (hp : prs s.data.toList = some ⟨o', d', a', b', n', t'⟩) (w : World) (hl : Laid w) :
    Calls Tryd.prog 7 #[.agg #[.int .i64 o, .int .i64 d, .int .i64 a, .int .i64 b, .int .i64 n, .int .i64 t], .string s] w fun e w' => e = .returned (.bool true) ∧ New w w' := by
  have HL := Lib.hid hl
  have HX := Lib.hid hx
  have hx0 := Lib.hid (Has.box w ⟨o, d, a, b, n, t⟩)
  have PT := Lib.hid (parse_prt hx hc)
  have ex := prtE_good hc
  have hlen : ¬ (1000 : Int) < (s.size : Int) := by omega
  obtain ⟨cz, pz, iz⟩ := prt_prs hp
  have HZ := Lib.hid iz
  have PS := Lib.hid (parse_some_at hp h)
  have ez := prtE_good cz
  have hq : ((prtT ⟨o', d', a', b', n', t'⟩).toList == s.toList) = true := str_beq (by rw [prtT_good cz, pz]; simp)
  clear hl hx hc hp h iz pz
  go_enter Tryd.func7, Tryd.ntmps7
  go_wp2_with (go_at_call 15; refine (print_any o d a b n t HX.out _ (HL.out.alloc _)).mono ?_; rintro e w1 ⟨rfl, hn1⟩)
  refine (PT.out _ ((HL.out.alloc _).new hn1)).mono ?_
  rintro e w2 ⟨rfl, hn2⟩
  have hcur := ((alloc_new w (.cells #[.int .i64 o, .int .i64 d, .int .i64 a, .int .i64 b, .int .i64 n, .int .i64 t] 23)).trans hn1).trans hn2
  have hx2 := ((hx0.out.new hn1).new hn2).new (alloc_new _ (.cells #[.int .i64 o, .int .i64 d, .int .i64 a, .int .i64 b, .int .i64 n, .int .i64 t] 23))
  go_wp2_with (refine wpList_ldI rfl (.tmp 2) rfl _ rfl hx2 ?_)
  have hcur0 := hcur.alloc (.cells #[.int .i64 o, .int .i64 d, .int .i64 a, .int .i64 b, .int .i64 n, .int .i64 t] 23)
  refine (PS.out _ (HL.out.new hcur0)).mono ?_
  rintro e w3 ⟨rfl, hn3⟩
  have hcur := hcur0.trans hn3
  have hz := Has.box w3 ⟨o', d', a', b', n', t'⟩
  dsimp only at hz
  have hcur := hcur.alloc (.cells #[.int .i64 o', .int .i64 d', .int .i64 a', .int .i64 b', .int .i64 n', .int .i64 t'] 23)
  go_wp2_with (first
    | (go_at_call 15; refine (print_any o' d' a' b' n' t' HZ.out _ (HL.out.new hcur)).mono ?_; rintro e w4 ⟨rfl, hn⟩; have hcur := hcur.trans hn; have hz := hz.new hn)
    | (refine wpList_ldG rfl (.tmp 9) rfl _ rfl hz ?_)
    | (go_at_call 12; refine (check_any o' d' a' b' n' t' 200 _ (HL.out.new hcur)).mono ?_; rintro e w4 ⟨rfl, hn⟩; have hcur := hcur.trans hn; have hz := hz.new hn)
    | (go_at_call 14; refine (knows_from _ HL hcur).mono ?_; rintro e w5 ⟨rfl, h5⟩))
  go_ret
  exact ⟨rfl, h5⟩
set_option maxHeartbeats 2000000 in
set_option maxRecDepth 100000 in
theorem insBack_bad_none (o d a b n t : Int) (hx : In64I ⟨o, d, a, b, n, t⟩) (ex : (prtE ⟨o, d, a, b, n, t⟩ == 0) = false) (s : ByteArray) (h : s.size ≤ 1000) (hp : prs s.data.toList = none) (w : World) (hl : Laid w) :
    Calls Tryd.prog 7 #[.agg #[.int .i64 o, .int .i64 d, .int .i64 a, .int .i64 b, .int .i64 n, .int .i64 t], .string s] w fun e w' => e = .returned (.bool true) ∧ New w w' := by
  have HL := Lib.hid hl
  have HX := Lib.hid hx
  have PN := Lib.hid (parse_none_at hp h)
  have hlen : ¬ (1000 : Int) < (s.size : Int) := by omega
  clear hl hx hp h
  go_enter Tryd.func7, Tryd.ntmps7
  go_wp2_with (go_at_call 15; refine (print_any o d a b n t HX.out _ (HL.out.alloc _)).mono ?_; rintro e w1 ⟨rfl, hn1⟩)
  have hcur0 := (alloc_new w (.cells #[.int .i64 o, .int .i64 d, .int .i64 a, .int .i64 b, .int .i64 n, .int .i64 t] 23)).trans hn1
  refine (PN.out _ (HL.out.new hcur0)).mono ?_
  rintro e w3 ⟨rfl, hn3⟩
  have hcur := hcur0.trans hn3
  go_wp2_with (go_at_call 14; refine (knows_from _ HL (hcur.alloc _)).mono ?_; rintro e w4 ⟨rfl, h4⟩)
  go_ret
  exact ⟨rfl, h4⟩
set_option maxHeartbeats 2000000 in
set_option maxRecDepth 100000 in
theorem insBack_bad_some (o d a b n t o' d' a' b' n' t' : Int) (hx : In64I ⟨o, d, a, b, n, t⟩) (ex : (prtE ⟨o, d, a, b, n, t⟩ == 0) = false) (s : ByteArray) (h : s.size ≤ 1000) (hp : prs s.data.toList = some ⟨o', d', a', b', n', t'⟩) (w : World) (hl : Laid w) :
    Calls Tryd.prog 7 #[.agg #[.int .i64 o, .int .i64 d, .int .i64 a, .int .i64 b, .int .i64 n, .int .i64 t], .string s] w fun e w' => e = .returned (.bool true) ∧ New w w' := by
  have HL := Lib.hid hl
  have HX := Lib.hid hx
  have hlen : ¬ (1000 : Int) < (s.size : Int) := by omega
  obtain ⟨cz, pz, iz⟩ := prt_prs hp
  have HZ := Lib.hid iz
  have PS := Lib.hid (parse_some_at hp h)
  have ez := prtE_good cz
  have hq : ((prtT ⟨o', d', a', b', n', t'⟩).toList == s.toList) = true := str_beq (by rw [prtT_good cz, pz]; simp)
  clear hl hx hp h iz pz
  go_enter Tryd.func7, Tryd.ntmps7
  go_wp2_with (go_at_call 15; refine (print_any o d a b n t HX.out _ (HL.out.alloc _)).mono ?_; rintro e w1 ⟨rfl, hn1⟩)
  have hcur0 := (alloc_new w (.cells #[.int .i64 o, .int .i64 d, .int .i64 a, .int .i64 b, .int .i64 n, .int .i64 t] 23)).trans hn1
  refine (PS.out _ (HL.out.new hcur0)).mono ?_
  rintro e w3 ⟨rfl, hn3⟩
  have hcur := hcur0.trans hn3
  have hz := Has.box w3 ⟨o', d', a', b', n', t'⟩
  dsimp only at hz
  have hcur := hcur.alloc (.cells #[.int .i64 o', .int .i64 d', .int .i64 a', .int .i64 b', .int .i64 n', .int .i64 t'] 23)
  go_wp2_with (first
    | (go_at_call 15; refine (print_any o' d' a' b' n' t' HZ.out _ (HL.out.new hcur)).mono ?_; rintro e w4 ⟨rfl, hn⟩; have hcur := hcur.trans hn; have hz := hz.new hn)
    | (refine wpList_ldG rfl (.tmp 9) rfl _ rfl hz ?_)
    | (go_at_call 12; refine (check_any o' d' a' b' n' t' 200 _ (HL.out.new hcur)).mono ?_; rintro e w4 ⟨rfl, hn⟩; have hcur := hcur.trans hn; have hz := hz.new hn)
    | (go_at_call 14; refine (knows_from _ HL hcur).mono ?_; rintro e w5 ⟨rfl, h5⟩))
  go_ret
  exact ⟨rfl, h5⟩
theorem insBack_law (o d a b n t : Int) (s : ByteArray) (hx : In64I ⟨o, d, a, b, n, t⟩) (_hs : s.size ≤ maxLen) (w : World) (hl : Laid w) :
    Calls Tryd.prog 7 #[.agg #[.int .i64 o, .int .i64 d, .int .i64 a, .int .i64 b, .int .i64 n, .int .i64 t], .string s] w fun e w' => e = .returned (.bool true) ∧ New w w' := by
  by_cases h : s.size ≤ 1000
  · by_cases hc : chkV ⟨o, d, a, b, n, t⟩ 200 = 0
    · cases hp : prs s.data.toList with
      | none => exact insBack_good_none o d a b n t hx hc s h hp w hl
      | some z =>
        obtain ⟨o', d', a', b', n', t'⟩ := z
        exact insBack_good_some o d a b n t o' d' a' b' n' t' hx hc s h hp w hl
    · have ex : (prtE ⟨o, d, a, b, n, t⟩ == 0) = false := by rw [prtE_bad hc]; rfl
      cases hp : prs s.data.toList with
      | none => exact insBack_bad_none o d a b n t hx ex s h hp w hl
      | some z =>
        obtain ⟨o', d', a', b', n', t'⟩ := z
        exact insBack_bad_some o d a b n t o' d' a' b' n' t' hx ex s h hp w hl
  · exact insBack_long o d a b n t s (by omega) w hl
end Go.Proofs.YtlebmmlkckilfaaDoor
