/-
  Rows of 24 words, as plain functions on places. No program stands in this text.
-/
import Derived.Test.YtdghhedenjgjiaaGreatDoorBlocks
namespace Go.Proofs.YtdghhedenjgjiaaGreatDoor
open Go.RowKit

/-- A word: is it there, and its number. -/
abbrev Wd := Bool × Int
abbrev Ws := Nat → Wd
def wcells (x : Wd) : List Value := [.bool x.1, .int .i64 x.2]
def cellsW (l : Ws) : Array Value := ((List.range 24).flatMap fun i => wcells (l i)).toArray
def updW (l : Ws) (k : Nat) (x : Wd) : Ws := fun i => if i = k then x else l i
theorem flat_len (l : Ws) : ∀ n, ((List.range n).flatMap fun i => wcells (l i)).length = 2 * n
  | 0 => rfl
  | n + 1 => by rw [List.range_succ, List.flatMap_append, List.length_append, flat_len l n]; simp [wcells]; omega
theorem flat_at (l : Ws) : ∀ n k j, k < n → j < 2 → ((List.range n).flatMap fun i => wcells (l i))[2 * k + j]? = (wcells (l k))[j]?
  | 0, k, j, h, _ => absurd h (Nat.not_lt_zero _)
  | n + 1, k, j, h, hj => by
    rw [List.range_succ, List.flatMap_append]
    by_cases hk : k < n
    · rw [List.getElem?_append_left (by rw [flat_len]; omega), flat_at l n k j hk hj]
    · obtain rfl : k = n := by omega
      rw [List.getElem?_append_right (by rw [flat_len]; omega), flat_len]
      rw [show 2 * k + j - 2 * k = j by omega]
      simp
theorem cellsW_size (l : Ws) : (cellsW l).size = 48 := by
  unfold cellsW
  rw [List.size_toArray, flat_len]
theorem cellsW_at (l : Ws) {k j : Nat} (h : k < 24) (hj : j < 2) : (cellsW l)[2 * k + j]? = (wcells (l k))[j]? := by
  unfold cellsW
  rw [List.getElem?_toArray, flat_at l 24 k j h hj]
theorem cellsW_ext {l m : Ws} (h : ∀ i < 24, l i = m i) : cellsW l = cellsW m := by
  unfold cellsW
  congr 1
  rw [List.flatMap_def, List.flatMap_def]
  congr 1
  apply List.map_congr_left
  intro i hi
  rw [h i (List.mem_range.mp hi)]
theorem cellsW_one (l : Ws) : ∀ v ∈ (cellsW l).toList, v.oneCell' = true := by
  intro v hv
  simp only [cellsW, List.mem_flatMap, wcells, List.mem_cons, List.not_mem_nil, or_false] at hv
  obtain ⟨i, _, rfl | rfl⟩ := hv <;> rfl
theorem cellsW_set (l : Ws) {k : Nat} (x : Wd) (h : k < 24) : (cellsW l).toList.take (2 * k) ++ wcells x ++ (cellsW l).toList.drop (2 * k + 2) = (cellsW (updW l k x)).toList := by
  have hz : (cellsW l).toList.length = 48 := by rw [Array.length_toList]; exact cellsW_size l
  have hat : ∀ (m : Ws) (i j : Nat), i < 24 → j < 2 → (cellsW m).toList[2 * i + j]? = (wcells (m i))[j]? := by
    intro m i j hi hj
    rw [Array.getElem?_toList]
    exact cellsW_at m hi hj
  have hlen : (cellsW (updW l k x)).toList.length = 48 := by rw [Array.length_toList]; exact cellsW_size _
  apply List.ext_getElem?
  intro q
  obtain ⟨i, j, hj, rfl⟩ : ∃ i j, j < 2 ∧ q = 2 * i + j := ⟨q / 2, q % 2, by omega, by omega⟩
  by_cases hi : i < 24
  · rw [hat _ i j hi hj]
    by_cases hik : i < k
    · rw [List.append_assoc, List.getElem?_append_left (by simp [hz]; omega), List.getElem?_take, if_pos (by omega), hat l i j hi hj]
      simp [updW, Nat.ne_of_lt hik]
    · rw [List.append_assoc, List.getElem?_append_right (by simp [hz]; omega)]
      rw [List.length_take, hz, Nat.min_eq_left (by omega)]
      by_cases e : i = k
      · subst e
        rw [List.getElem?_append_left (by simp [wcells]; omega)]
        rw [show 2 * i + j - 2 * i = j by omega]
        simp [updW]
      · rw [List.getElem?_append_right (by simp [wcells]; omega), List.getElem?_drop]
        rw [show 2 * k + 2 + (2 * i + j - 2 * k - (wcells x).length) = 2 * i + j by simp [wcells]; omega]
        rw [hat l i j hi hj]
        simp [updW, e]
  · rw [List.getElem?_eq_none (by simp [hz, wcells]; omega), List.getElem?_eq_none (by omega)]
end Go.Proofs.YtdghhedenjgjiaaGreatDoor
