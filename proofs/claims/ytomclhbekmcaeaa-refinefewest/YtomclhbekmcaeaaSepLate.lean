/-
  Regions that draw their order, all of whose loads are taken first, then one operation behind the other: calls, new memory, appends, stores; the last one may store into what the loads read.
-/
import Derived.Test.YtomclhbekmcaeaaSep
import Derived.Test.YtomclhbekmcaeaaHeldA
namespace Go.Proofs.Ytomclhbekmcaeaa
open Go.RowKit

section
variable {P : Program} {ops : Array Oper} {Q : Exit → Act → World → Prop} {md : Region.Mode} {S : World → Prop} {k : Nat}
/-- One behind the other. -/
def wpLL (P : Program) (ops : Array Oper) (Q : Exit → Act → World → Prop) (S : World → Prop) (k : Nat) : List Nat → Act → World → Prop
  | [], a, w => Q .normal a w
  | i :: is, a, w => wpOp P ops Q i (fun a' w' => (i ≠ k → S w') ∧ wpLL P ops Q S k is a' w') a w
theorem late_forced : ∀ (is : List Nat) (l : Array Bool) (a : Act) (w : World), forcedL md ops is l = true → wpLL P ops Q S k is a w → wpLate P md ops Q S k is.length l a w
  | [], l, a, w, hB, h => ⟨by simpa [forcedL] using hB, h⟩
  | i :: is, l, a, w, hB, h => by
    simp only [forcedL, Bool.and_eq_true, beq_iff_eq] at hB
    exact late_only hB.1 (wpOp_mono (fun a' w' h2 => ⟨h2.1, late_forced is _ a' w' hB.2 h2.2⟩) h)
theorem LL_val {i : Nat} {is : List Nat} {o : Oper} {a : Act} {w w' : World} {v : Value} (hi : ops[i]? = some o) (hg : o.guard = none) (hr : (execOp a.eval o).run P w = .ok (.value v) w') (hS : S w') (h : wpLL P ops Q S k is (a.put o.dst v) w') : wpLL P ops Q S k (i :: is) a w := by
  unfold wpLL wpOp
  simp only [hi, Region.wanted, hg, if_true]
  refine .inl ?_
  unfold Oper.wp
  rw [hr]
  exact ⟨fun _ => hS, h⟩
theorem LL_call {i : Nat} {is : List Nat} {o : Oper} {a : Act} {w : World} (hi : ops[i]? = some o) (hg : o.guard = none) (f : FuncId) (args : Array Value) (hr : (execOp a.eval o).run P w = .ok (.enter f args) w)
    (h : Calls P f args w fun e w' => ∃ v, e = .returned v ∧ S w' ∧ wpLL P ops Q S k is (a.put o.dst v) w') : wpLL P ops Q S k (i :: is) a w := by
  unfold wpLL wpOp
  simp only [hi, Region.wanted, hg, if_true]
  refine .inl ?_
  unfold Oper.wp
  rw [hr]
  refine h.mono fun e w' ⟨v, he, h1, h2⟩ => ?_
  subst he
  exact ⟨fun _ => h1, h2⟩
theorem LL_skip {i : Nat} {is : List Nat} {o : Oper} {a : Act} {w w' : World} (hi : ops[i]? = some o) (hg : o.guard = none) (hd : o.dst = none) (hr : (execOp a.eval o).run P w = .ok .skip w') (hS : i ≠ k → S w') (h : wpLL P ops Q S k is a w') : wpLL P ops Q S k (i :: is) a w := by
  unfold wpLL wpOp
  simp only [hi, Region.wanted, hg, if_true]
  refine .inl ?_
  unfold Oper.wp
  rw [hr]
  refine ⟨hS, ?_⟩
  rw [hd]
  exact h
end
end Go.Proofs.Ytomclhbekmcaeaa
