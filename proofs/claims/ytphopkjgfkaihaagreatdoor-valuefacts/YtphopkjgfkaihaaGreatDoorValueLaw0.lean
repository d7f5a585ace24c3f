/-
  What the laws over a function and places that are cut share.
-/
import Derived.Test.YtphopkjgfkaihaaGreatDoorValueKnow
import Derived.Test.YtphopkjgfkaihaaGreatDoorValueL
import Derived.Test.YtphopkjgfkaihaaGreatDoorRefCheck
import Derived.Test.YtphopkjgfkaihaaGreatDoorRefAsmA
namespace Go.Proofs.YtphopkjgfkaihaaGreatDoor
open Go.RowKit

theorem RowAt.formB {w : World} {v : Value} {cs : List Bool} (h : RowAt w v (cs.map .bool)) : ∃ ao cap, v = .slice ao cs.length cap := by
  obtain ⟨ao, cap, e0, _⟩ := h
  exact ⟨ao, cap, by rw [e0, List.length_map]⟩
section
variable {P : Program} {ops : Array Oper} {Q : Exit → Act → World → Prop} {S : World → Prop} {k : Nat}
theorem LL_callG {i : Nat} {is : List Nat} {o : Oper} {a : Act} {w : World} (hi : ops[i]? = some o) (hw : Region.wanted o (yielded ops a.tmps) = true) (f : FuncId) (args : Array Value) (hr : (execOp a.eval o).run P w = .ok (.enter f args) w)
    (h : Calls P f args w fun e w' => ∃ v, e = .returned v ∧ S w' ∧ wpLL P ops Q S k is (a.put o.dst v) w') : wpLL P ops Q S k (i :: is) a w := by
  unfold wpLL wpOp
  simp only [hi, hw, if_true]
  refine .inl ?_
  unfold Oper.wp
  rw [hr]
  refine h.mono fun e w' ⟨v, he, h1, h2⟩ => ?_
  subst he
  exact ⟨fun _ => h1, h2⟩
end
end Go.Proofs.YtphopkjgfkaihaaGreatDoor
