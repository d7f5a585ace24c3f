/-
  A region that draws its order, whose loads may be taken first (nothing that was there is ever turned in it), and whose other operations then stand in one order: one walk. No program stands in this text.
-/
import Derived.Test.YtdghhedenjgjiaaGreatDoorOrder2
import Derived.Deep.RegionHeld3
namespace Go.Proofs.YtdghhedenjgjiaaGreatDoor
open Go.RowKit

section
variable {P : Program} {ops : Array Oper} {md : Region.Mode} {S : World → Prop} {Q : Exit → Act → World → Prop}
/-- The operations of a list, one behind the other; behind each the condition holds. -/
def wpLS (P : Program) (ops : Array Oper) (Q : Exit → Act → World → Prop) (S : World → Prop) : List Oper → Act → World → Prop
  | [], a, w => Q .normal a w
  | o :: rest, a, w => if Region.wanted o (yielded ops a.tmps) then o.wp P a w (fun a' w' => S w' ∧ wpLS P ops Q S rest a' w') Q else wpLS P ops Q S rest (a.put o.dst undef) w
/-- Just these may come up, one behind the other. -/
def forcedL (md : Region.Mode) (ops : Array Oper) : List Nat → Array Bool → Bool
  | [], listed => (Region.ready md ops listed).isEmpty
  | i :: is, listed => (Region.ready md ops listed == [i]) && forcedL md ops is (listed.setIfInBounds i true)
theorem wpAnyH_forced : ∀ (is : List Nat) (listed : Array Bool) (a : Act) (w : World), S w → forcedL md ops is listed = true → (∀ i ∈ is, i < ops.size) → wpLS P ops Q S (is.map fun i => ops.getD i default) a w → wpAnyH P md ops Q S is.length listed a w
  | [], listed, a, w, _, hB, _, h => ⟨by simpa [forcedL] using hB, h⟩
  | i :: is, listed, a, w, hS, hB, hlt, h => by
    simp only [forcedL, Bool.and_eq_true, beq_iff_eq] at hB
    obtain ⟨hr, hB'⟩ := hB
    have hi := hlt i (by simp)
    have h0 : ops[i]? = some (ops.getD i default) := by simp [Array.getD, hi]
    have rest : ∀ a w, S w → wpLS P ops Q S (is.map fun i => ops.getD i default) a w → wpAnyH P md ops Q S is.length (listed.setIfInBounds i true) a w := fun a w hs hh => wpAnyH_forced is _ a w hs hB' (fun j hj => hlt j (by simp [hj])) hh
    refine ⟨fun he => (by rw [hr] at he; cases he), fun j hj => ?_⟩
    rw [hr] at hj
    obtain rfl := List.mem_singleton.mp hj
    rw [List.map_cons] at h
    unfold wpOp
    simp only [h0]
    unfold wpLS at h
    by_cases hw : Region.wanted (ops.getD j default) (yielded ops a.tmps) = true
    · rw [if_pos hw] at h ⊢
      exact .inl (Oper.wp_mono (fun a' w' ⟨h1, h2⟩ => ⟨h1, rest a' w' h1 h2⟩) h)
    · rw [if_neg hw] at h ⊢
      exact ⟨hS, rest _ _ hS h⟩
variable {o : Oper} {rest : List Oper} {a : Act} {w : World}
theorem wpLS_nil (h : Q .normal a w) : wpLS P ops Q S [] a w := h
theorem wpLS_value (hw : Region.wanted o (yielded ops a.tmps) = true) (v : Value) (hS : S w) (hr : (execOp a.eval o).run P w = .ok (.value v) w) (h : wpLS P ops Q S rest (a.put o.dst v) w) : wpLS P ops Q S (o :: rest) a w := by
  unfold wpLS
  rw [if_pos hw]
  unfold Oper.wp
  rw [hr]
  exact ⟨hS, h⟩
theorem wpLS_call (hw : Region.wanted o (yielded ops a.tmps) = true) (f : FuncId) (args : Array Value) (hr : (execOp a.eval o).run P w = .ok (.enter f args) w)
    (h : Calls P f args w fun e w' => ∃ v, e = .returned v ∧ S w' ∧ wpLS P ops Q S rest (a.put o.dst v) w') : wpLS P ops Q S (o :: rest) a w := by
  unfold wpLS
  rw [if_pos hw]
  unfold Oper.wp
  rw [hr]
  refine h.mono fun e w' ⟨v, he, hh⟩ => ?_
  subst he
  exact hh
end
end Go.Proofs.YtdghhedenjgjiaaGreatDoor
