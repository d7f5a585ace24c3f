/-
  A quiet value, guarded or not; what is left of a region is quiet. No program stands in this text.
-/
import Derived.Test.YtdghhedenjgjiaaGreatDoorOrder3
namespace Go.Proofs.YtdghhedenjgjiaaGreatDoor
open Go.RowKit

section
variable {P : Program} {ops : Array Oper} {C : World → Prop} {Q : Act → Prop} {op : Oper} {rest : List Oper} {act : Act}
theorem wpQuiet_valG (hw : Region.wanted op (yielded ops act.tmps) = true) (v : Value) (hv : ∀ w, C w → (execOp act.eval op).run P w = .ok (.value v) w)
    (hk : wpQuiet P ops C Q rest (act.put op.dst v)) : wpQuiet P ops C Q (op :: rest) act :=
  wpQuiet_step fun K hK => by
    rw [if_pos hw]
    exact ⟨v, fun w hw => by unfold Oper.quietAt; rw [hv w hw]; exact ⟨rfl, rfl⟩, hK _ hk⟩
end
/-- What is left of a region that draws its order, where all that is left answers one value each in every world in which nothing has turned. -/
theorem wpAnyH_calm {P : Program} {md : Region.Mode} {ops : Array Oper} {C S : World → Prop} {Q : Act → Prop} {Q' : Exit → Act → World → Prop} (hQ : ∀ a w, C w → Q a → Q' .normal a w) (hS : ∀ w, C w → S w) :
    ∀ (fuel : Nat) (listed : Array Bool) (a : Act) (w : World), C w → wpAnyQ P md ops C Q fuel listed a → wpAnyH P md ops Q' S fuel listed a w
  | 0, _, _, _, hw, h => ⟨h.1, hQ _ _ hw h.2⟩
  | fuel + 1, _, _, _, hw, h => ⟨fun h0 => hQ _ _ hw (h.1 h0), fun i hi => wpOp_of_qOp hw (fun a' w' hw' hh => ⟨hS _ hw', wpAnyH_calm hQ hS fuel _ a' w' hw' hh⟩) (h.2 i hi)⟩
theorem wpAnyH_rest {P : Program} {l : List Oper} {wc w : World} {Q : Exit → Act → World → Prop} {fuel : Nat} {listed : Array Bool} {a : Act} (k : Nat) (hf : fuel = (l.drop k).length) (hs : Region.noSelect l.toArray = true)
    (hB : Region.lexFrom .any l.toArray (l.drop k).length k listed = true) (hC : New wc w) (h : wpQuiet P l.toArray (fun w' => ∃ y : NewW wc, w' = y.val) (fun a' => ∀ w', New wc w' → Q .normal a' w') (l.drop k) a) :
    wpAnyH P .any l.toArray Q (fun w' => New wc w') fuel listed a w := by
  subst hf
  refine wpAnyH_calm (C := fun w' => ∃ y : NewW wc, w' = y.val) (Q := fun a' => ∀ w', New wc w' → Q .normal a' w') (fun a' w' hw' hq => ?_) (fun w' hw' => ?_) _ _ _ _ ⟨⟨w, hC⟩, rfl⟩ ?_
  · obtain ⟨y, rfl⟩ := hw'; exact hq _ y.property
  · obtain ⟨y, rfl⟩ := hw'; exact y.property
  · exact wpAnyQ_lex hs (l.drop k) k listed a (fun j => by simp [List.getElem?_drop]) hB h
end Go.Proofs.YtdghhedenjgjiaaGreatDoor
