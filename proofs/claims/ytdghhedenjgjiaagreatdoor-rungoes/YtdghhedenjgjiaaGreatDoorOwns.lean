/-
  Rows that the call itself makes by append: what keeps them, and what they keep.
-/
import Derived.Test.YtdghhedenjgjiaaGreatDoorBlocks
import Derived.Test.YtdghhedenjgjiaaGreatDoorProg
namespace Go.Proofs.YtdghhedenjgjiaaGreatDoor
open Go.RowKit

theorem infoInt : (Tryz.prog.info? 3).map (fun i => (i.zero, i.size, i.bytes)) = some (some (.int .i64 0), 1, 8) := by kernel_rfl
theorem owns_put {w : World} {base e size n g : Nat} {v : Value} {xs : List Value} (h : w.ownsRow base e size v n xs) (hg : g < base) (o : Obj) : (putO w g o).ownsRow base e size v n xs :=
  ⟨h.1, h.2.elim .inl fun ⟨k, cap, cur, h1, h2, h3, h4⟩ => .inr ⟨k, cap, cur, h1, h2, by rw [putO_other (by omega)]; exact h3, h4⟩⟩
theorem owns_row {w : World} {base e size n : Nat} {v : Value} {xs : List Value} (h : w.ownsRow base e size v n xs) : ∀ k, v.ownBlock = some k → base ≤ k := fun k hk => (h.lt k hk).1
theorem grown_heap {w w' : World} {row : Option Nat} {g : Nat} {o : Obj} (h : w.grownBy w' row) (hg : w.heap[g]? = some o) (hr : ∀ k, row = some k → g < k) : w'.heap[g]? = some o := by
  rw [h.block g (heap_lt hg) (fun e => by have := hr g e.symm; omega)]; exact hg
theorem one_new (w : World) (x : Value) (t : TypeId) : ∀ (j : Nat) (u : Value), [x][j]? = some u → (w.alloc (.cells #[x] t)).cell? ((⟨w.heap.size, 0, none⟩ : Addr).add j) = some u := by
  intro j u hj
  exact cell_one_new w x t j u hj
end Go.Proofs.YtdghhedenjgjiaaGreatDoor
