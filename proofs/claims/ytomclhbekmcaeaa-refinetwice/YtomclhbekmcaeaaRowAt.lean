/-
  A slice's value whose elements are of one cell each: what it holds, in whatever memory has grown out of that in which it was made.
-/
import Derived.Test.YtomclhbekmcaeaaPlain
import Derived.Test.YtomclhbekmcaeaaProg
namespace Go.Proofs.Ytomclhbekmcaeaa
open Go.RowKit

def RowAt (w : World) (v : Value) (cs : List Value) : Prop := ∃ ao cap, v = .slice ao cs.length cap ∧ ∀ i (h : i < cs.length), ∃ b off, ao = some ⟨b, off, none⟩ ∧ w.cell? ⟨b, off + i, none⟩ = some cs[i]
theorem new_cell {w w' : World} (h : New w w') {a : Addr} {v : Value} (hc : w.cell? a = some v) : w'.cell? a = some v := by
  have hlt : a.block < w.heap.size := by
    unfold World.cell? at hc
    cases hb : w.heap[a.block]? with
    | none => rw [hb] at hc; simp at hc
    | some o => exact heap_lt hb
  have := h.block a.block hlt
  unfold World.cell? at hc ⊢
  rw [this]
  exact hc
theorem RowAt.new {w w' : World} {v : Value} {cs : List Value} (h : RowAt w v cs) (n : New w w') : RowAt w' v cs := by
  obtain ⟨ao, cap, e, hh⟩ := h
  exact ⟨ao, cap, e, fun i hi => let ⟨b, off, e1, e2⟩ := hh i hi; ⟨b, off, e1, new_cell n e2⟩⟩
/-- Its elements' addresses. -/
theorem RowAt.ix {w : World} {ao : Option Addr} {n cap : Nat} {cs : List Value} (h : RowAt w (.slice ao n cap) cs) (T : TypeId) {e : TypeId} (hu : Try.prog.underlying T = some (.slice e)) (he : ∀ w, (sizeOf e).run Try.prog w = .ok 1 w) {i : Nat} (hi : i < n) :
    ∃ (a : Addr) (v : Value), cs[i]? = some v ∧ (∀ w', (Instr.indexAt T (.slice ao n cap) (.int .i64 (i : Int))).run Try.prog w' = .ok (.pointer (some a)) w') ∧ ∀ w', New w w' → w'.cell? a = some v := by
  obtain ⟨ao', cap', e0, hh⟩ := h
  simp only [Value.slice.injEq] at e0
  obtain ⟨rfl, rfl, rfl⟩ := e0
  obtain ⟨b, off, rfl, hc⟩ := hh i hi
  refine ⟨⟨b, off + i, none⟩, cs[i], List.getElem?_eq_getElem hi, fun w' => ?_, fun w' hn => new_cell hn hc⟩
  have h1 : (0 : Int) ≤ (i : Int) ∧ (i : Int) < (cs.length : Int) := by omega
  have ea : (⟨b, off, none⟩ : Addr).add i = ⟨b, off + i, none⟩ := by unfold Addr.add; split <;> simp_all
  simp [Instr.indexAt, run_underlying hu, asIntOf, he, ea]
  intro; omega
theorem RowAt.len {w : World} {ao : Option Addr} {n cap : Nat} {cs : List Value} (h : RowAt w (.slice ao n cap) cs) : n = cs.length := by
  obtain ⟨ao', cap', e0, hh⟩ := h
  simp only [Value.slice.injEq] at e0
  exact e0.2.1
theorem RowAt.form {w : World} {v : Value} {cs : List Value} (h : RowAt w v cs) : ∃ ao n cap, v = .slice ao n cap := by
  obtain ⟨ao, cap, e0, _⟩ := h
  exact ⟨ao, _, cap, e0⟩
end Go.Proofs.Ytomclhbekmcaeaa
