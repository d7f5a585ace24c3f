/-
  'ValueTells', of a case as it is opened: true, for every input.
-/
import Derived.Test.YtphopkjgfkaihaaGreatDoorValueLawG
import Derived.Test.YtphopkjgfkaihaaGreatDoorCaseOpen
namespace Go.Proofs.YtphopkjgfkaihaaGreatDoor
open Go.RowKit

theorem valueTells_law (v : Value) (f : List I) (rs : Nat → Int) (h a : Sl) (n : Int) (zs az : List Int) (w : World) (hf : FunAt w v f) (_hi : ∀ y ∈ f, In64I y) (_hm : f.length ≤ maxLen) (hh : Hp w (.slice h.ao h.n h.c) zs) (ha : Hp w (.slice a.ao a.n a.c) az) (_ht : Tame (.slice a.ao a.n a.c)) (hl : Laid w) :
    Calls Tryz.prog 7 #[v, .agg (caC rs h a n).toArray] w fun e w' => e = .returned (.bool true) ∧ New w w' := by
  obtain ⟨fo, fc, rfl⟩ := hf.form
  obtain ⟨ho, hn, hc⟩ := h
  obtain ⟨ao, an, ac⟩ := a
  exact valueTells_walk fo _ fc f rs ho hn hc ao an ac n zs az w hf hh ha hl
end Go.Proofs.YtphopkjgfkaihaaGreatDoor
