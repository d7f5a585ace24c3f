/-
  What the laws of layer 9 use: the reference's Fair; quiet loads of a path's table; tables that are alike.
-/
import Derived.Test.YtfjlglnjonijdaaDoorPathFrom
import Derived.Test.YtfjlglnjonijdaaDoorEnvChM
import Derived.Test.YtfjlglnjonijdaaDoorRefAsmA
import Derived.Test.YtfjlglnjonijdaaDoorOrders
namespace Go.Proofs.YtfjlglnjonijdaaDoor
open Go.RowKit

def inP (f : List I) (p : Int) : Bool := decide ((chkF f).2 = 0 ∧ 0 ≤ p ∧ p < f.length)
theorem inP_iff {f : List I} {p : Int} : inP f p = true ↔ InF f p := by
  unfold inP InF
  rw [decide_eq_true_iff]
theorem inP_no {f : List I} {p : Int} (h : inP f p = false) : ¬ InF f p := fun k => by
  rw [inP_iff.mpr k] at h
  cases h
theorem inP_ok {f : List I} {p : Int} (h : InF f p) : inP f p = true := inP_iff.mpr h
theorem inP_out {f : List I} {p : Int} (h : ¬ InF f p) : inP f p = false := by
  cases e : inP f p with
  | false => rfl
  | true => exact absurd (inP_iff.mp e) h
set_option maxHeartbeats 1000000 in
theorem fair9_in (ao : Option Addr) (n cap : Nat) (f : List I) (p : Int) (w : World) (hf : FunAt w (.slice ao n cap) f) :
    Calls Tryd.prog 9 #[.slice ao n cap, .int .i64 p] w fun e w' => e = .returned (.bool (inP f p)) ∧ New w w' := by
  have HF := Lib.hid hf
  have HL := Lib.hid hf.len
  clear hf
  by_cases hi : InF f p
  · rw [inP_ok hi]
    have q1 : ((chkF f).2 == 0) = true := beq_of hi.1
    have d1 : decide (0 ≤ p) = true := decide_eq_true hi.2.1
    have d2 : decide (p < (n : Int)) = true := decide_eq_true (by rw [HL.out]; exact hi.2.2)
    clear hi
    go_enter Tryd.func9, Tryd.ntmps9
    go_wp2_with (go_at_call 23; refine (rasmRight_any _ f _ HF.out).mono ?_; rw [q1]; rintro e w1 ⟨rfl, hn1⟩)
    go_ret
    exact ⟨rfl, hn1⟩
  · rw [inP_out hi]
    have hc := notIn hi
    rw [← HL.out] at hc
    clear hi
    rcases hc with q1 | ⟨q1, q2⟩ | ⟨q1, q2, q3⟩
    · go_enter Tryd.func9, Tryd.ntmps9
      go_wp2_with (go_at_call 23; refine (rasmRight_any _ f _ HF.out).mono ?_; rw [q1]; rintro e w1 ⟨rfl, hn1⟩)
      go_ret
      exact ⟨rfl, hn1⟩
    · have d1 : decide (0 ≤ p) = false := decide_eq_false (by omega)
      clear q2
      go_enter Tryd.func9, Tryd.ntmps9
      go_wp2_with (go_at_call 23; refine (rasmRight_any _ f _ HF.out).mono ?_; rw [q1]; rintro e w1 ⟨rfl, hn1⟩)
      go_ret
      exact ⟨rfl, hn1⟩
    · have d1 : decide (0 ≤ p) = true := decide_eq_true (by omega)
      have d2 : decide (p < (n : Int)) = false := decide_eq_false (by omega)
      clear q2 q3
      go_enter Tryd.func9, Tryd.ntmps9
      go_wp2_with (go_at_call 23; refine (rasmRight_any _ f _ HF.out).mono ?_; rw [q1]; rintro e w1 ⟨rfl, hn1⟩)
      go_ret
      exact ⟨rfl, hn1⟩
theorem fair9_is {w0 : World} {v : Value} {f : List I} {p : Int} {w : World} (h0 : New w0 w) (hf : FunAt w v f) {b : Bool} (hb : inP f p = b) :
    Calls Tryd.prog 9 #[v, .int .i64 p] w fun e w' => e = .returned (.bool b) ∧ New w0 w' := by
  obtain ⟨ao, cap, rfl⟩ := hf.form
  rw [← hb]
  exact (fair9_in ao _ cap f p w hf).mono fun _ _ ⟨he, hw⟩ => ⟨he, h0.trans hw⟩
theorem wpQuiet_ldPt {ops : Array Oper} {C : World → Prop} {Q : Act → Prop} {op : Oper} {rest : List Oper} {act : Act} (hw : Region.wanted op (yielded ops act.tmps) = true) (p : Operand) (ho : op.op = .load 27 p)
    (g : Nat) (hx : act.eval p = .pointer (some ⟨g, 1, none⟩)) {to : Int} {t : Tb} {n : Int} (h : ∀ w, C w → HasP w g to t n)
    (hk : wpQuiet Tryd.prog ops C Q rest (act.put op.dst (.agg (cellsT t)))) : wpQuiet Tryd.prog ops C Q (op :: rest) act :=
  wpQuiet_valG hw _ (fun w hw => by
    unfold execOp
    have := run_loadAt_mid (P := Tryd.prog) w g 1 27 (cellsT t).toList _ (HasP.tb (h w hw)) Tryd.underlying27 rfl (by rw [cellsT_len]; exact infoTb)
    simp only [ho, hx, this, Array.toArray_toList, Sem.run_bind, Sem.run_pure, Result.andThen_ok]) hk
/-- Two paths' tables are held against one another. -/
theorem eq_T {t u : Tb} (ht : goodT t = true) (hu : goodT u = true) (h : ∀ i < 24, t i = u i) : (∀ w, (binOp .eql 27 (.agg (cellsT t)) (.agg (cellsT u))).run Tryd.prog w = .ok (.bool true) w) ∧ (∀ x y w, (eqGuard .eql 27 x y (.agg (cellsT t)) (.agg (cellsT u))).run Tryd.prog w = .ok () w) :=
  ⟨fun w => by rw [eql_T ht hu, eqT_iff.mpr h], fun x y w => guard_T ht hu _ x y w⟩
theorem envNew_from {w0 : World} (w : World) (h : New w0 w) :
    Calls Tryd.prog 13 #[] w fun e w' => e = .returned (.agg (cellsT newT)) ∧ New w0 w' := (envNew_any w).mono fun _ _ ⟨he, hw⟩ => ⟨he, h.trans hw⟩
/-- With an instruction ahead. -/
theorem tb_ahead (f : List I) (p : Int) : ∀ k, tbA f p (k + 1) = thn (aft newT (insA f p)) (tbA f (nxA f p) k)
  | 0 => (thn_new_right (good_aft _ _)).symm
  | k + 1 => by
    show aft (tbA f p (k + 1)) (insA f (itA f p (k + 1))) = thn _ (aft (tbA f (nxA f p) k) (insA f (itA f (nxA f p) k)))
    rw [tb_ahead f p k, it_one, aft_thn (good_aft _ _) (good_tb _ _ _)]
theorem after_frm {w0 : World} (t : Tb) (x : I) (w : World) (h : New w0 w) :
    Calls Tryd.prog 16 #[.agg (cellsT t), .agg #[.int .i64 (x).op, .int .i64 (x).d, .int .i64 (x).a, .int .i64 (x).b, .int .i64 (x).n, .int .i64 (x).t]] w fun e w' => e = .returned (.agg (cellsT (aft t x))) ∧ New w0 w' :=
  (after_any t x w).mono fun _ _ ⟨he, hw⟩ => ⟨he, h.trans hw⟩
/-! An instruction in a block of its own. -/
abbrev HasI (w : World) (g : Nat) (x : I) : Prop := HasC w g 43 (cells6 x)
theorem zeroI_run (w : World) : (zeroValue 43).run Tryd.prog w = .ok (.agg (cells6 ⟨0, 0, 0, 0, 0, 0⟩).toArray) w := Tryd.zeroValue43 w
section
variable {ops : Array Oper} {rest : List Oper} {op : Oper} {act : Act} {w : World} {Q : Exit → Act → World → Prop}
theorem wpList_ldEG (hw : Region.wanted op (yielded ops act.tmps) = true) (p : Operand) (ho : op.op = .load 43 p) (b o : Nat) (hx : act.eval p = .pointer (some ⟨b, o, none⟩)) {x : I} (h : w.rangeAt b o (cells6 x))
    (hk : wpList Tryd.prog ops Q rest (act.put op.dst (.agg #[.int .i64 (x).op, .int .i64 (x).d, .int .i64 (x).a, .int .i64 (x).b, .int .i64 (x).n, .int .i64 (x).t])) w) : wpList Tryd.prog ops Q (op :: rest) act w := by
  unfold wpList
  rw [if_pos hw]
  exact .inl (wp_load_mid _ p ho b o hx (cells6 x) _ h Tryd.underlying43 rfl (by rw [cells6_len]; exact infoI) hk)
theorem wpList_alHI (hgd : op.guard = none) (ho : op.op = .alloc 43)
    (hk : ∀ w' g, w.heap.size ≤ g → g < w'.heap.size → HasI w' g ⟨0, 0, 0, 0, 0, 0⟩ → New w w' → wpList Tryd.prog ops Q rest (act.put op.dst (.pointer (some ⟨g, 0, none⟩))) w') : wpList Tryd.prog ops Q (op :: rest) act w :=
  wpList_alX hgd _ ho _ zeroI_run _ rfl hk
theorem wpList_stHI (hgd : op.guard = none) (hdst : op.dst = none) (a b : Operand) (ho : op.op = .store 43 a b) (g : Nat) (hx : act.eval a = .pointer (some ⟨g, 0, none⟩)) (x : I) (hy : act.eval b = .agg #[.int .i64 (x).op, .int .i64 (x).d, .int .i64 (x).a, .int .i64 (x).b, .int .i64 (x).n, .int .i64 (x).t]) {y : I} (h : HasI w g y)
    (hk : ∀ w', HasI w' g x → Kept g w w' → wpList Tryd.prog ops Q rest act w') : wpList Tryd.prog ops Q (op :: rest) act w :=
  wpList_stX hgd hdst _ a b ho g 0 hx _ hy h (cells6 x) rfl (by simp [cells6]) (by simp [cells6, Value.oneCell']) (by rw [cells6_len]; exact infoI) (by simp [cells6]) hk
end
theorem wpQuiet_ldHI {ops : Array Oper} {C : World → Prop} {Q : Act → Prop} {op : Oper} {rest : List Oper} {act : Act} (hw : Region.wanted op (yielded ops act.tmps) = true) (p : Operand) (ho : op.op = .load 43 p)
    (g : Nat) (hx : act.eval p = .pointer (some ⟨g, 0, none⟩)) {x : I} (h : ∀ w, C w → HasI w g x)
    (hk : wpQuiet Tryd.prog ops C Q rest (act.put op.dst (.agg #[.int .i64 (x).op, .int .i64 (x).d, .int .i64 (x).a, .int .i64 (x).b, .int .i64 (x).n, .int .i64 (x).t]))) : wpQuiet Tryd.prog ops C Q (op :: rest) act :=
  wpQuiet_valG hw _ (fun w hw => by
    unfold execOp
    have := run_loadAt_mid (P := Tryd.prog) w g 0 43 (cells6 x) _ (HasC.all (h w hw)) Tryd.underlying43 rfl (by rw [cells6_len]; exact infoI)
    simp only [ho, hx, this, Sem.run_bind, Sem.run_pure, Result.andThen_ok]
    rfl) hk
end Go.Proofs.YtfjlglnjonijdaaDoor
