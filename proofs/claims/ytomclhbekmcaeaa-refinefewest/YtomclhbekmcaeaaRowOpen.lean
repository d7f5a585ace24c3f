/-
  A slice of numbers, or of bools, among a row's arguments: the row that it holds.
-/
import Derived.Test.YtomclhbekmcaeaaOpenKit
import Derived.Test.YtomclhbekmcaeaaRowAt
namespace Go.Proofs.Ytomclhbekmcaeaa
open Go.ChangeShapes Go.WideShapes Go.RowKit Go.Deep

section
variable {H : Type} {enc : TypeId × Value → H} {w : World} {base : Nat} {held : Bool}
theorem row_of {a : Addr} {len cap : Nat} {cs : List Value} (hl : cs.length = len) (h : ∀ i (hi : i < cs.length), w.cell? (a.add i) = some cs[i]) : RowAt w (.slice (some a) len cap) cs := by
  subst hl
  refine ⟨some a, cap, rfl, fun i hi => ?_⟩
  obtain ⟨b, off, spot⟩ := a
  have hs : spot = none := by
    have := h 0 (by omega)
    simpa [Addr.add] using World.cell?_spot this
  subst hs
  refine ⟨b, off, rfl, ?_⟩
  have := h i hi
  have ea : (⟨b, off, none⟩ : Addr).add i = ⟨b, off + i, none⟩ := by unfold Addr.add; split <;> simp_all
  rw [ea] at this
  exact this
theorem open_nil (ao : Option Addr) (cap : Nat) : RowAt w (.slice ao 0 cap) [] := ⟨ao, cap, rfl, fun _ hi => absurd hi (Nat.not_lt_zero _)⟩
set_option maxRecDepth 100000 in
theorem open_rowI {r : Reach} {b0 : Nat} {v : Value} {x : DataW H} {p : List MemPlace} {t e : TypeId} {k : IntKind} (ht : Try.prog.underlying t = some (.slice e)) (he : Try.prog.underlying e = some (.int k)) (hc : Try.prog.cellsOf e = 1)
    (hv : Value.okWide Try.prog w r b0 t v) (h : DataW.Trod enc Try.prog w base (fun _ => true) held t v x p) :
    ∃ zs : List Int, RowAt w v (zs.map (.int k)) ∧ (∀ z ∈ zs, (Lit.int k z).wf = true) ∧ zs.length ≤ maxLen := by
  obtain ⟨a0, len, cap, rfl⟩ := okWide_slice ht hv
  obtain ⟨fuel, hf⟩ := h
  rcases open_ints ht he hc hf with ⟨hcs, _⟩ | ⟨a, len', cap', zs, hcs, _, hl, hm, hz, _, hcell, hwz⟩
  · simp [Value.cells] at hcs
    obtain ⟨rfl, rfl, rfl⟩ := hcs
    exact ⟨[], open_nil _ _, by simp, by simp⟩
  · simp [Value.cells] at hcs
    obtain ⟨rfl, rfl, rfl⟩ := hcs
    simp at hz
    refine ⟨zs.take len, row_of (by simp; omega) ?_, fun z hz' => hwz z (List.mem_of_mem_take hz'), by simp; omega⟩
    intro i hi
    have hi' : i < len ∧ i < zs.length := by simp at hi; omega
    rw [hcell i hi'.2, List.getElem_map, List.getElem_take]
    simp [hi'.2]
set_option maxRecDepth 100000 in
theorem open_rowB {r : Reach} {b0 : Nat} {v : Value} {x : DataW H} {p : List MemPlace} {t e : TypeId} (ht : Try.prog.underlying t = some (.slice e)) (he : Try.prog.underlying e = some .bool) (hc : Try.prog.cellsOf e = 1)
    (hv : Value.okWide Try.prog w r b0 t v) (h : DataW.Trod enc Try.prog w base (fun _ => true) held t v x p) :
    ∃ zs : List Bool, RowAt w v (zs.map .bool) ∧ zs.length ≤ maxLen := by
  obtain ⟨a0, len, cap, rfl⟩ := okWide_slice ht hv
  obtain ⟨fuel, hf⟩ := h
  rcases open_slice ht hf with ⟨hcs, _⟩ | ⟨a, len', cap', m, n, D, Pl, hcs, _, hl, hm, hmm, _, hx⟩
  · simp [Value.cells] at hcs
    obtain ⟨rfl, rfl, rfl⟩ := hcs
    exact ⟨[], open_nil _ _, by simp⟩
  · simp [Value.cells] at hcs
    obtain ⟨rfl, rfl, rfl⟩ := hcs
    have hlm : len ≤ m := by rw [hmm]; simpa using hl
    have each : ∀ i, i < len → ∃ b : Bool, w.cells? base (a.add (i * 1)) 1 = some [.bool b] := by
      intro i hi
      obtain ⟨cs', h1, h2⟩ := hx i (by omega)
      rw [hc] at h1
      obtain ⟨b, rfl, _⟩ := DataW.trod_bool he h2
      exact ⟨b, h1⟩
    obtain ⟨g, hg⟩ := choose_lt each
    refine ⟨(List.range len).map g, row_of (by simp) ?_, by simpa using (show len ≤ maxLen by omega)⟩
    intro i hi
    have hi' : i < len := by simpa using hi
    obtain ⟨_, hlen, hcell⟩ := World.cells?_some (hg i hi')
    have := hcell 0 (by omega)
    rw [Deep.add_add] at this
    simpa using this
end
end Go.Proofs.Ytomclhbekmcaeaa
