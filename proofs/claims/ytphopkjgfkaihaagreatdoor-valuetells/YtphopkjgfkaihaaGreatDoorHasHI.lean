/-
  An instruction in a block of its own: new variables, stores, quiet loads.
-/
import Derived.Test.YtphopkjgfkaihaaGreatDoorPathFrom
import Derived.Test.YtphopkjgfkaihaaGreatDoorOrders
namespace Go.Proofs.YtphopkjgfkaihaaGreatDoor
open Go.RowKit

/-! An instruction in a block of its own. -/
abbrev HasI (w : World) (g : Nat) (x : I) : Prop := HasC w g 79 (cells6 x)
theorem zeroI_run (w : World) : (zeroValue 79).run Tryz.prog w = .ok (.agg (cells6 ⟨0, 0, 0, 0, 0, 0⟩).toArray) w := Tryz.zeroValue79 w
section
variable {ops : Array Oper} {rest : List Oper} {op : Oper} {act : Act} {w : World} {Q : Exit → Act → World → Prop}
theorem wpList_ldEG (hw : Region.wanted op (yielded ops act.tmps) = true) (p : Operand) (ho : op.op = .load 79 p) (b o : Nat) (hx : act.eval p = .pointer (some ⟨b, o, none⟩)) {x : I} (h : w.rangeAt b o (cells6 x))
    (hk : wpList Tryz.prog ops Q rest (act.put op.dst (.agg #[.int .i64 (x).op, .int .i64 (x).d, .int .i64 (x).a, .int .i64 (x).b, .int .i64 (x).n, .int .i64 (x).t])) w) : wpList Tryz.prog ops Q (op :: rest) act w := by
  unfold wpList
  rw [if_pos hw]
  exact .inl (wp_load_mid _ p ho b o hx (cells6 x) _ h Tryz.underlying79 rfl (by rw [cells6_len]; exact infoI) hk)
theorem wpList_alHI (hgd : op.guard = none) (ho : op.op = .alloc 79)
    (hk : ∀ w' g, w.heap.size ≤ g → g < w'.heap.size → HasI w' g ⟨0, 0, 0, 0, 0, 0⟩ → New w w' → wpList Tryz.prog ops Q rest (act.put op.dst (.pointer (some ⟨g, 0, none⟩))) w') : wpList Tryz.prog ops Q (op :: rest) act w :=
  wpList_alX hgd _ ho _ zeroI_run _ rfl hk
theorem wpList_stHI (hgd : op.guard = none) (hdst : op.dst = none) (a b : Operand) (ho : op.op = .store 79 a b) (g : Nat) (hx : act.eval a = .pointer (some ⟨g, 0, none⟩)) (x : I) (hy : act.eval b = .agg #[.int .i64 (x).op, .int .i64 (x).d, .int .i64 (x).a, .int .i64 (x).b, .int .i64 (x).n, .int .i64 (x).t]) {y : I} (h : HasI w g y)
    (hk : ∀ w', HasI w' g x → Kept g w w' → wpList Tryz.prog ops Q rest act w') : wpList Tryz.prog ops Q (op :: rest) act w :=
  wpList_stX hgd hdst _ a b ho g 0 hx _ hy h (cells6 x) rfl (by simp [cells6]) (by simp [cells6, Value.oneCell']) (by rw [cells6_len]; exact infoI) (by simp [cells6]) hk
end
theorem wpQuiet_ldHI {ops : Array Oper} {C : World → Prop} {Q : Act → Prop} {op : Oper} {rest : List Oper} {act : Act} (hw : Region.wanted op (yielded ops act.tmps) = true) (p : Operand) (ho : op.op = .load 79 p)
    (g : Nat) (hx : act.eval p = .pointer (some ⟨g, 0, none⟩)) {x : I} (h : ∀ w, C w → HasI w g x)
    (hk : wpQuiet Tryz.prog ops C Q rest (act.put op.dst (.agg #[.int .i64 (x).op, .int .i64 (x).d, .int .i64 (x).a, .int .i64 (x).b, .int .i64 (x).n, .int .i64 (x).t]))) : wpQuiet Tryz.prog ops C Q (op :: rest) act :=
  wpQuiet_valG hw _ (fun w hw => by
    unfold execOp
    have := run_loadAt_mid (P := Tryz.prog) w g 0 79 (cells6 x) _ (HasC.all (h w hw)) Tryz.underlying79 rfl (by rw [cells6_len]; exact infoI)
    simp only [ho, hx, this, Sem.run_bind, Sem.run_pure, Result.andThen_ok]
    rfl) hk
end Go.Proofs.YtphopkjgfkaihaaGreatDoor
