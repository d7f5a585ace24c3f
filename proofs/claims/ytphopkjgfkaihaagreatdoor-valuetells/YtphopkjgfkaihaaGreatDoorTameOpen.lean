/-
  A slice of numbers among a row's arguments: the row that it holds; without memory it has no room.
-/
import Derived.Test.YtphopkjgfkaihaaGreatDoorRowOpen
namespace Go.Proofs.YtphopkjgfkaihaaGreatDoor
open Go.ChangeShapes Go.WideShapes Go.RowKit Go.Deep

/-- A slice's value without memory has no room. -/
def Tame (v : Value) : Prop := v = .slice none 0 0 ∨ ∃ a n c, v = .slice (some a) n c
set_option maxRecDepth 100000 in
theorem open_rowT {H : Type} {enc : TypeId × Value → H} {w : World} {base : Nat} {held : Bool} {r : Reach} {b0 : Nat} {v : Value} {x : DataW H} {p : List MemPlace} {t e : TypeId} {k : IntKind} (ht : Tryz.prog.underlying t = some (.slice e)) (he : Tryz.prog.underlying e = some (.int k)) (hc : Tryz.prog.cellsOf e = 1)
    (hv : Value.okWide Tryz.prog w r b0 t v) (h : DataW.Trod enc Tryz.prog w base (fun _ => true) held t v x p) :
    ∃ zs : List Int, RowAt w v (zs.map (.int k)) ∧ Tame v := by
  have hT : Tame v := by
    obtain ⟨a0, len, cap, rfl⟩ := okWide_slice ht hv
    obtain ⟨fuel, hf⟩ := h
    rcases open_ints ht he hc hf with ⟨hcs, _⟩ | ⟨a, len', cap', zs, hcs, _⟩
    · simp [Value.cells] at hcs
      obtain ⟨rfl, rfl, rfl⟩ := hcs
      exact .inl rfl
    · simp [Value.cells] at hcs
      obtain ⟨rfl, rfl, rfl⟩ := hcs
      exact .inr ⟨_, _, _, rfl⟩
  obtain ⟨zs, h1, _, _⟩ := open_rowI ht he hc hv h
  exact ⟨zs, h1, hT⟩
end Go.Proofs.YtphopkjgfkaihaaGreatDoor
