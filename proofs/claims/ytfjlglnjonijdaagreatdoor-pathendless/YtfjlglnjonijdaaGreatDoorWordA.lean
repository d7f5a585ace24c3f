/-
  Blocks that hold a row of words: laws on loads and stores of the whole and of a part, at the operation.
-/
import Derived.Test.YtfjlglnjonijdaaGreatDoorProg
import Derived.Test.YtfjlglnjonijdaaGreatDoorPlain
import Derived.Deep.MidRow
namespace Go.Proofs.YtfjlglnjonijdaaGreatDoor
open Go.RowKit
def HasW (w : World) (g : Nat) (l : Ws) : Prop := w.heap[g]? = some (.cells (cellsW l) 25 (0, 0))
theorem infoW : (Tryz.prog.info? 25).map (·.size) = some 48 := by kernel_rfl
theorem infoD : (Tryz.prog.info? 24).map (·.size) = some 2 := by kernel_rfl
theorem HasW.new {w w' : World} {g : Nat} {t : Ws} (h : HasW w g t) (n : New w w') : HasW w' g t := n.heap h
theorem HasW.put {w : World} {g k : Nat} {t : Ws} (h : HasW w g t) (hk : g ≠ k) (o : Obj) : HasW (putO w k o) g t := by unfold HasW; rw [putO_other hk]; exact h
theorem HasW.box (w : World) (t : Ws) : HasW (w.alloc (.cells (cellsW t) 25)) w.heap.size t := heap_alloc_new _ _
def noW : Ws := fun _ => (false, 0)
def oW (l : Ws) : Obj := .cells (cellsW l) 25 (0, 0)
theorem HasW.stored {w : World} {g : Nat} {t : Ws} (h : HasW w g t) (u : Ws) : HasW (putO w g (oW u)) g u := putO_same h
section
variable {ops : Array Oper} {rest : List Oper} {op : Oper} {act : Act} {w : World} {Q : Exit → Act → World → Prop}
theorem wpList_ldW (hgd : op.guard = none) (p : Operand) (ho : op.op = .load 25 p)
    (g : Nat) (hx : act.eval p = .pointer (some ⟨g, 0, none⟩)) {t : Ws} (h : HasW w g t)
    (hk : wpList Tryz.prog ops Q rest (act.put op.dst (.agg (cellsW t))) w) : wpList Tryz.prog ops Q (op :: rest) act w :=
  wpList_load_row hgd _ p ho g hx _ _ _ _ h Tryz.underlying25 rfl (by rw [cellsW_size]; exact infoW) hk
theorem HasW.store {g : Nat} {t : Ws} (h : HasW w g t) (u : Ws) : (Instr.storeAt 25 (.pointer (some ⟨g, 0, none⟩)) (.agg (cellsW u))).run Tryz.prog w = .ok () (putO w g (oW u)) :=
  store_row w g _ _ _ h (by rw [cellsW_size, cellsW_size]) (by rw [cellsW_size]; exact infoW) (cellsW_one u)
theorem wpList_stW (hgd : op.guard = none) (hdst : op.dst = none) (p q : Operand) (ho : op.op = .store 25 p q)
    (g : Nat) (hx : act.eval p = .pointer (some ⟨g, 0, none⟩)) (u : Ws) (hy : act.eval q = .agg (cellsW u)) {t : Ws} (h : HasW w g t)
    (hk : wpList Tryz.prog ops Q rest act (putO w g (oW u))) : wpList Tryz.prog ops Q (op :: rest) act w :=
  wpList_plain hgd fun _ hK => by
    unfold Oper.wp execOp
    simp only [ho, hx, hy, h.store u, Sem.run_bind, Sem.run_pure, Result.andThen_ok]
    refine hK _ _ ?_
    rw [hdst]
    exact hk
theorem HasW.range {g : Nat} {l : Ws} (h : HasW w g l) {k : Nat} (hk : k < 24) : w.rangeAt g (2 * k) (wcells (l k)) := by
  intro j v hv
  have hj : j < 2 := by
    have := (List.getElem?_eq_some_iff.mp hv).1
    simpa [wcells] using this
  rw [cell_of_row w g _ _ _ _ h, cellsW_at l hk hj]
  exact hv
/-- A word is loaded out of, and stored into, a row's block. -/
theorem wpList_ldD (hgd : op.guard = none) (p : Operand) (ho : op.op = .load 24 p)
    (g k : Nat) (hk24 : k < 24) (hx : act.eval p = .pointer (some ⟨g, k * 2, none⟩)) {l : Ws} (h : HasW w g l)
    (hk : wpList Tryz.prog ops Q rest (act.put op.dst (.agg #[.bool (l k).1, .int .i64 (l k).2])) w) : wpList Tryz.prog ops Q (op :: rest) act w :=
  wpList_load_mid hgd _ p ho g (2 * k) (by rw [Nat.mul_comm]; exact hx) (wcells (l k)) _ (h.range hk24) Tryz.underlying24 rfl infoD hk
theorem HasW.store1 {g k : Nat} (hk : k < 24) {l : Ws} (h : HasW w g l) (x : Wd) : (Instr.storeAt 24 (.pointer (some ⟨g, 2 * k, none⟩)) (.agg #[.bool x.1, .int .i64 x.2])).run Tryz.prog w = .ok () (putO w g (oW (updW l k x))) := by
  have hs := run_storeCells_at (P := Tryz.prog) g (2 * k) _ (wcells x) 0 _ w h (by rw [cellsW_size]; simp [wcells]; omega) (by simp [wcells, Value.oneCell'])
  obtain ⟨i, hq, h1⟩ : ∃ i, Tryz.prog.info? 24 = some i ∧ i.size = 2 := by
    have := infoD
    cases hq : Tryz.prog.info? 24 with
    | none => rw [hq] at this; cases this
    | some i => rw [hq] at this; exact ⟨i, rfl, by simpa using this⟩
  rw [Nat.add_zero, show (wcells x).length = 2 from rfl, cellsW_set l x hk, Array.toArray_toList, setRow_putO h] at hs
  unfold wcells at hs
  simp [Instr.storeAt, Instr.sureAddr, storeVar, sizeOf, typeInfo, hq, h1, Value.cells, hs, oW]
theorem wpList_stD (hgd : op.guard = none) (hdst : op.dst = none) (p q : Operand) (ho : op.op = .store 24 p q)
    (g k : Nat) (hk24 : k < 24) (hx : act.eval p = .pointer (some ⟨g, k * 2, none⟩)) (x : Wd) (hy : act.eval q = .agg #[.bool x.1, .int .i64 x.2]) {l : Ws} (h : HasW w g l)
    (hk : wpList Tryz.prog ops Q rest act (putO w g (oW (updW l k x)))) : wpList Tryz.prog ops Q (op :: rest) act w :=
  wpList_plain hgd fun _ hK => by
    unfold Oper.wp execOp
    rw [Nat.mul_comm] at hx
    simp only [ho, hx, hy, h.store1 hk24 x, Sem.run_bind, Sem.run_pure, Result.andThen_ok]
    refine hK _ _ ?_
    rw [hdst]
    exact hk
end
end Go.Proofs.YtfjlglnjonijdaaGreatDoor
