/-
  Single operations of a region that draws: a call, a new variable.
-/
import Derived.Test.YtphopkjgfkaihaaGreatDoorOrders
import Derived.Test.YtphopkjgfkaihaaGreatDoorCells
namespace Go.Proofs.YtphopkjgfkaihaaGreatDoor
open Go.RowKit

theorem wpOp_call {P : Program} {ops : Array Oper} {Q : Exit → Act → World → Prop} {i : Nat} {o : Oper} {a : Act} {w : World} {K : Act → World → Prop} (hi : ops[i]? = some o) (hg : o.guard = none) (f : FuncId) (args : Array Value) (hrun : (execOp a.eval o).run P w = .ok (.enter f args) w)
    (h : Calls P f args w fun e w' => ∃ v, e = .returned v ∧ K (a.put o.dst v) w') : wpOp P ops Q i K a w := by
  unfold wpOp
  simp only [hi, Region.wanted, hg, if_true]
  refine .inl ?_
  unfold Oper.wp
  rw [hrun]
  refine h.mono fun e w' ⟨v, he, hh⟩ => ?_
  subst he
  exact hh
theorem wpOp_alX {ops : Array Oper} {Q : Exit → Act → World → Prop} {i : Nat} {o : Oper} {a : Act} {w : World} {K : Act → World → Prop} (hi : ops[i]? = some o) (hg : o.guard = none) (t : TypeId) (ho : o.op = .alloc t) (z : Value) (hz : ∀ w, (zeroValue t).run Tryz.prog w = .ok z w) (cs : List Value) (hc : z.cells = cs.toArray)
    (hk : ∀ w' g, w.heap.size ≤ g → g < w'.heap.size → HasC w' g t cs → New w w' → K (a.put o.dst (.pointer (some ⟨g, 0, none⟩))) w') : wpOp Tryz.prog ops Q i K a w := by
  have hr : (execOp a.eval o).run Tryz.prog w = .ok (.value (.pointer (some ⟨w.heap.size, 0, none⟩))) (w.alloc (.cells cs.toArray t)) := by
    unfold execOp
    simp only [ho, Instr.alloc, Sem.run_bind, hz w, Result.andThen_ok, newVar, newRow, hc, run_newObj_alloc, Sem.run_pure]
  exact wpOp_value hi hg hr (hk _ _ (Nat.le_refl _) (by rw [alloc_size]; omega) (HasC.box w t cs) (alloc_new _ _))
end Go.Proofs.YtphopkjgfkaihaaGreatDoor
