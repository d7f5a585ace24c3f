/-
  Rows of numbers, read word by word: what the walks of Same use.
-/
import Derived.Test.YtdghhedenjgjiaaGreatDoorHeapA
namespace Go.Proofs.YtdghhedenjgjiaaGreatDoor
open Go.RowKit

theorem Hp.len {w : World} {ao : Option Addr} {n cap : Nat} {zs : List Int} (h : Hp w (.slice ao n cap) zs) : n = zs.length := by
  have := RowAt.len h
  rwa [List.length_map] at this
theorem Hp.ixW {w : World} {ao : Option Addr} {n cap : Nat} {zs : List Int} (h : Hp w (.slice ao n cap) zs) {i : Nat} (hi : i < n) :
    ∃ (a : Addr) (x : Int), zs[i]? = some x ∧ (∀ w', (Instr.indexAt 26 (.slice ao n cap) (.int .i64 (i : Int))).run Tryz.prog w' = .ok (.pointer (some a)) w') ∧ ∀ y : NewW w, y.val.cell? a = some (.int .i64 x) := by
  obtain ⟨a, x, h1, h2, h3⟩ := h.ix (i := i) (by rw [← h.len]; exact hi)
  exact ⟨a, x, h1, h2, fun y => h3 y.val y.property⟩
theorem ret_b {b d : Bool} (h : b = d) : Ending.returned (.bool b) = .returned (.bool d) := by rw [h]
theorem agree_step {xs ys : List Int} {k : Nat} {x : Int} (h : ∀ j : Nat, j < k → xs[j]? = ys[j]?) (hx : xs[k]? = some x) (hy : ys[k]? = some x) : ∀ j : Nat, j < k + 1 → xs[j]? = ys[j]? := by
  intro j hj
  by_cases e : j = k
  · subst e; rw [hx, hy]
  · exact h j (by omega)
end Go.Proofs.YtdghhedenjgjiaaGreatDoor
