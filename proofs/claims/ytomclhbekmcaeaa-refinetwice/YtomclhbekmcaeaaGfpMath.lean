/-
  What is said of as much as can be: the greatest set that stands. No program stands in this text.
-/
import Derived.Test.YtomclhbekmcaeaaPlain
namespace Go.Proofs.Ytomclhbekmcaeaa
open Go.RowKit

/-! What is said of as much as can be: the greatest set that stands. -/
def Gfp {α : Type} (F : (α → Prop) → α → Prop) (a : α) : Prop := ∃ Y : α → Prop, (∀ b, Y b → F Y b) ∧ Y a
section
variable {α : Type} {F : (α → Prop) → α → Prop}
theorem gfp_of {Y : α → Prop} (h : ∀ b, Y b → F Y b) {a : α} (ha : Y a) : Gfp F a := ⟨Y, h, ha⟩
theorem gfp_post (mono : ∀ {X Y : α → Prop}, (∀ a, X a → Y a) → ∀ a, F X a → F Y a) {a : α} (h : Gfp F a) : F (Gfp F) a := by
  obtain ⟨Y, h1, h2⟩ := h
  exact mono (fun b hb => gfp_of h1 hb) a (h1 a h2)
/-- Nothing of it is ever taken back. -/
theorem gfp_keep (mono : ∀ {X Y : α → Prop}, (∀ a, X a → Y a) → ∀ a, F X a → F Y a) {X : α → Prop} (h : ∀ a, Gfp F a → X a) {a : α} (ha : Gfp F a) : F X a := mono h a (gfp_post mono ha)
/-- What stands, and holds all of it, is it. -/
theorem gfp_is {X : α → Prop} (h : ∀ a, Gfp F a → X a) (hs : ∀ a, X a → F X a) (a : α) : X a ↔ Gfp F a := ⟨gfp_of hs, h a⟩
end
end Go.Proofs.Ytomclhbekmcaeaa
