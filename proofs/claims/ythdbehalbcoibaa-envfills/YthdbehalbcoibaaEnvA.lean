/-
  Blocks that hold a table of sources or a row of words: laws on loads and stores of the whole and of a part, at the operation.
-/
import Derived.Test.YthdbehalbcoibaaProg
import Derived.Test.YthdbehalbcoibaaEnvMath
import Derived.Deep.MidRow
namespace Go.Proofs.Ythdbehalbcoibaa
open Go.RowKit

def HasT (w : World) (g : Nat) (t : Tb) : Prop := w.heap[g]? = some (.cells (cellsT t) 28 (0, 0))
theorem infoT : (Try.prog.info? 28).map (·.size) = some 24 := by kernel_rfl
theorem infoS : (Try.prog.info? 26).map (·.size) = some 1 := by kernel_rfl
theorem HasT.new {w w' : World} {g : Nat} {t : Tb} (h : HasT w g t) (n : New w w') : HasT w' g t := n.heap h
theorem HasT.put {w : World} {g k : Nat} {t : Tb} (h : HasT w g t) (hk : g ≠ k) (o : Obj) : HasT (putO w k o) g t := by unfold HasT; rw [putO_other hk]; exact h
theorem HasT.box (w : World) (t : Tb) : HasT (w.alloc (.cells (cellsT t) 28)) w.heap.size t := heap_alloc_new _ _
def noT : Tb := fun _ => (2, 0)
def oT (t : Tb) : Obj := .cells (cellsT t) 28 (0, 0)
theorem HasT.stored {w : World} {g : Nat} {t : Tb} (h : HasT w g t) (u : Tb) : HasT (putO w g (oT u)) g u := putO_same h
section
variable {ops : Array Oper} {rest : List Oper} {op : Oper} {act : Act} {w : World} {Q : Exit → Act → World → Prop}
theorem wpList_ldT (hgd : op.guard = none) (p : Operand) (ho : op.op = .load 28 p)
    (g : Nat) (hx : act.eval p = .pointer (some ⟨g, 0, none⟩)) {t : Tb} (h : HasT w g t)
    (hk : wpList Try.prog ops Q rest (act.put op.dst (.agg (cellsT t))) w) : wpList Try.prog ops Q (op :: rest) act w :=
  wpList_load_row hgd _ p ho g hx _ _ _ _ h Try.underlying28 rfl (by rw [cellsT_size]; exact infoT) hk
theorem HasT.store {g : Nat} {t : Tb} (h : HasT w g t) (u : Tb) : (Instr.storeAt 28 (.pointer (some ⟨g, 0, none⟩)) (.agg (cellsT u))).run Try.prog w = .ok () (putO w g (oT u)) :=
  store_row w g _ _ _ h (by rw [cellsT_size, cellsT_size]) (by rw [cellsT_size]; exact infoT) (cellsT_one u)
theorem wpList_stT (hgd : op.guard = none) (hdst : op.dst = none) (p q : Operand) (ho : op.op = .store 28 p q)
    (g : Nat) (hx : act.eval p = .pointer (some ⟨g, 0, none⟩)) (u : Tb) (hy : act.eval q = .agg (cellsT u)) {t : Tb} (h : HasT w g t)
    (hk : wpList Try.prog ops Q rest act (putO w g (oT u))) : wpList Try.prog ops Q (op :: rest) act w :=
  wpList_plain hgd fun _ hK => by
    unfold Oper.wp execOp
    simp only [ho, hx, hy, h.store u, Sem.run_bind, Sem.run_pure, Result.andThen_ok]
    refine hK _ _ ?_
    rw [hdst]
    exact hk
/-- The same, the world behind it under a new name. -/
theorem wpList_stTx (hgd : op.guard = none) (hdst : op.dst = none) (p q : Operand) (ho : op.op = .store 28 p q)
    (g : Nat) (hx : act.eval p = .pointer (some ⟨g, 0, none⟩)) (u : Tb) (hy : act.eval q = .agg (cellsT u)) {t : Tb} (h : HasT w g t) {w0 : World} (hn : New w0 w) (hg : w0.heap.size ≤ g)
    (hk : ∀ w', HasT w' g u → New w0 w' → wpList Try.prog ops Q rest act w') : wpList Try.prog ops Q (op :: rest) act w :=
  wpList_stT hgd hdst p q ho g hx u hy h (hk _ (h.stored u) (hn.put hg _))
theorem HasT.cell {g : Nat} {t : Tb} (h : HasT w g t) {k : Nat} (hk : k < 24) : w.cell? ⟨g, k, none⟩ = some (sv (t k)) := by
  rw [cell_of_row w g k _ _ _ h, cellsT_at t hk]
/-- A source is loaded out of a table's block. -/
theorem wpList_ldS (hgd : op.guard = none) (p : Operand) (ho : op.op = .load 26 p)
    (g k : Nat) (hk24 : k < 24) (hx : act.eval p = .pointer (some ⟨g, k, none⟩)) {t : Tb} (h : HasT w g t)
    (hk : wpList Try.prog ops Q rest (act.put op.dst (sv (t k))) w) : wpList Try.prog ops Q (op :: rest) act w :=
  wpList_plain hgd fun _ hK => by
    unfold Oper.wp execOp
    have hc := h.cell hk24
    simp only [ho, hx, Instr.loadAt, Instr.sureAddr, loadVar, Sem.run_bind, Sem.run_pure, Result.andThen_ok, Try.isAgg26 w]
    simp [hc]
    exact hK _ _ hk
/-- A source is stored into a table's block. -/
theorem HasT.store1 {g k : Nat} (hk : k < 24) {t : Tb} (h : HasT w g t) (s : Sr) : (Instr.storeAt 26 (.pointer (some ⟨g, k, none⟩)) (sv s)).run Try.prog w = .ok () (putO w g (oT (upd t k s))) := by
  have hs := run_storeCells_at (P := Try.prog) g k _ [sv s] 0 _ w h (by rw [cellsT_size]; simp; omega) (by simpa using (sv_one s).2)
  obtain ⟨i, hq, h1⟩ : ∃ i, Try.prog.info? 26 = some i ∧ i.size = 1 := by
    have := infoS
    cases hq : Try.prog.info? 26 with
    | none => rw [hq] at this; cases this
    | some i => rw [hq] at this; exact ⟨i, rfl, by simpa using this⟩
  rw [Nat.add_zero, List.length_singleton, cellsT_set t s hk, Array.toArray_toList, setRow_putO h] at hs
  simp [Instr.storeAt, Instr.sureAddr, storeVar, sizeOf, typeInfo, hq, h1, (sv_one s).1, hs, oT]
theorem wpList_stS (hgd : op.guard = none) (hdst : op.dst = none) (p q : Operand) (ho : op.op = .store 26 p q)
    (g k : Nat) (hk24 : k < 24) (hx : act.eval p = .pointer (some ⟨g, k, none⟩)) (s : Sr) (hy : act.eval q = sv s) {t : Tb} (h : HasT w g t)
    (hk : wpList Try.prog ops Q rest act (putO w g (oT (upd t k s)))) : wpList Try.prog ops Q (op :: rest) act w :=
  wpList_plain hgd fun _ hK => by
    unfold Oper.wp execOp
    simp only [ho, hx, hy, h.store1 hk24 s, Sem.run_bind, Sem.run_pure, Result.andThen_ok]
    refine hK _ _ ?_
    rw [hdst]
    exact hk
end
/-- A table's value, at a place. -/
theorem run_ixT (t : Tb) (k : Nat) (hk : k < 24) (w : World) : (Instr.index 28 (.agg (cellsT t)) (.int .i64 (k : Int))).run Try.prog w = .ok (sv (t k)) w := by
  unfold Instr.index
  have hu : (underlying 28).run Try.prog w = _ := run_underlying Try.underlying28 w
  obtain ⟨i, hq, h1⟩ : ∃ i, Try.prog.info? 26 = some i ∧ i.size = 1 := by
    have := infoS
    cases hq : Try.prog.info? 26 with
    | none => rw [hq] at this; cases this
    | some i => rw [hq] at this; exact ⟨i, rfl, by simpa using this⟩
  simp [asIntOf, hu, part, sizeOf, typeInfo, hq, h1, cellsT_at t hk]
  intro; omega
end Go.Proofs.Ythdbehalbcoibaa
