/-
  A function's value at a place: the instruction that is there.
-/
import Derived.Test.YtdghhedenjgjiaaGreatDoorFunAt
namespace Go.Proofs.YtdghhedenjgjiaaGreatDoor
open Go.RowKit

theorem sizeI6 : ∀ w, (sizeOf 72).run Tryz.prog w = .ok 6 w := Tryz.sizeOf72
theorem FunAt.ix {w : World} {ao : Option Addr} {n cap : Nat} {f : List I} (h : FunAt w (.slice ao n cap) f) {i : Nat} (hi : i < n) :
    ∃ (b o : Nat) (x : I), f[i]? = some x ∧ (∀ w', (Instr.indexAt 22 (.slice ao n cap) (.int .i64 (i : Int))).run Tryz.prog w' = .ok (.pointer (some ⟨b, o, none⟩)) w') ∧ ∀ w', New w w' → w'.rangeAt b o (cells6 x) := by
  rcases h with ⟨_, ao', cap', e⟩ | ⟨b, off, cap', e, hf⟩
  · simp only [Value.slice.injEq] at e
    omega
  · simp only [Value.slice.injEq] at e
    obtain ⟨rfl, rfl, rfl⟩ := e
    refine ⟨b, off + i * 6, f[i], List.getElem?_eq_getElem hi, fun w' => ?_, fun w' hn => (hf.new hn) i hi⟩
    have h1 : (0 : Int) ≤ (i : Int) ∧ (i : Int) < (f.length : Int) := by omega
    simp [Instr.indexAt, run_underlying Tryz.underlying22, asIntOf, Addr.add_mid]
    intro; omega
theorem FunAt.len {w : World} {ao : Option Addr} {n cap : Nat} {f : List I} (h : FunAt w (.slice ao n cap) f) : n = f.length := by
  rcases h with ⟨rfl, ao', cap', e⟩ | ⟨b, off, cap', e, hf⟩ <;> simp only [Value.slice.injEq] at e
  · exact e.2.1
  · exact e.2.1
end Go.Proofs.YtdghhedenjgjiaaGreatDoor
