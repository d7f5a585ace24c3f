/-
  Tables of sources and rows of words, as plain functions on places: which are good, what is behind an instruction, one behind another, what fills them. No program stands in this text but the numbers of types.
-/
import Derived.Test.YthdbehalbcoibaaBlocks
import Derived.Test.YthdbehalbcoibaaInsMath
namespace Go.Proofs.Ythdbehalbcoibaa
open Go.RowKit

/-- A source: kind 0: what a place had; 1: a number; others: none. -/
abbrev Sr := Nat × Int
def sv (s : Sr) : Value := if s.1 = 0 then .iface 53 (.agg #[.int .i64 s.2]) else if s.1 = 1 then .iface 55 (.agg #[.int .i64 s.2]) else .nilIface
abbrev Tb := Nat → Sr
def cellsT (t : Tb) : Array Value := ((List.range 24).map fun i => sv (t i)).toArray
def upd (t : Tb) (k : Nat) (s : Sr) : Tb := fun i => if i = k then s else t i
theorem cellsT_size (t : Tb) : (cellsT t).size = 24 := by simp [cellsT]
theorem cellsT_at (t : Tb) {k : Nat} (h : k < 24) : (cellsT t)[k]? = some (sv (t k)) := by simp [cellsT, h]
theorem cellsT_ext {t u : Tb} (h : ∀ i < 24, t i = u i) : cellsT t = cellsT u := by
  unfold cellsT
  congr 1
  apply List.map_congr_left
  intro i hi
  rw [h i (List.mem_range.mp hi)]
theorem cellsT_set (t : Tb) {k : Nat} (s : Sr) (h : k < 24) : (cellsT t).toList.take k ++ [sv s] ++ (cellsT t).toList.drop (k + 1) = (cellsT (upd t k s)).toList := by
  have e : (cellsT t).toList.take k ++ [sv s] ++ (cellsT t).toList.drop (k + 1) = (cellsT t).toList.set k (sv s) := by
    rw [List.set_eq_take_append_cons_drop, if_pos (by simp [cellsT, h])]
    simp
  rw [e]
  apply List.ext_getElem?
  intro i
  rw [List.getElem?_set]
  simp only [cellsT, List.length_map, List.length_range, List.getElem?_map, h, upd, if_true]
  by_cases hik : k = i
  · subst hik; simp [h]
  · rw [if_neg hik]
    by_cases hi : i < 24
    · simp [hi, Ne.symm hik]
    · simp [hi]
theorem sv_one (s : Sr) : (sv s).cells = #[sv s] ∧ (sv s).oneCell' = true := by
  unfold sv
  split
  · exact ⟨rfl, rfl⟩
  · split <;> exact ⟨rfl, rfl⟩
theorem cellsT_one (t : Tb) : ∀ v ∈ (cellsT t).toList, v.oneCell' = true := by
  intro v hv
  simp only [cellsT, List.mem_map] at hv
  obtain ⟨i, _, rfl⟩ := hv
  exact (sv_one _).2

/-- A word: is it there, and its number. -/
abbrev Wd := Bool × Int
abbrev Ws := Nat → Wd
def wcells (x : Wd) : List Value := [.bool x.1, .int .i64 x.2]
def cellsW (l : Ws) : Array Value := ((List.range 24).flatMap fun i => wcells (l i)).toArray
def updW (l : Ws) (k : Nat) (x : Wd) : Ws := fun i => if i = k then x else l i
theorem flat_len (l : Ws) : ∀ n, ((List.range n).flatMap fun i => wcells (l i)).length = 2 * n
  | 0 => rfl
  | n + 1 => by rw [List.range_succ, List.flatMap_append, List.length_append, flat_len l n]; simp [wcells]; omega
theorem flat_at (l : Ws) : ∀ n k j, k < n → j < 2 → ((List.range n).flatMap fun i => wcells (l i))[2 * k + j]? = (wcells (l k))[j]?
  | 0, k, j, h, _ => absurd h (Nat.not_lt_zero _)
  | n + 1, k, j, h, hj => by
    rw [List.range_succ, List.flatMap_append]
    by_cases hk : k < n
    · rw [List.getElem?_append_left (by rw [flat_len]; omega), flat_at l n k j hk hj]
    · obtain rfl : k = n := by omega
      rw [List.getElem?_append_right (by rw [flat_len]; omega), flat_len]
      rw [show 2 * k + j - 2 * k = j by omega]
      simp
theorem cellsW_size (l : Ws) : (cellsW l).size = 48 := by
  unfold cellsW
  rw [List.size_toArray, flat_len]
theorem cellsW_at (l : Ws) {k j : Nat} (h : k < 24) (hj : j < 2) : (cellsW l)[2 * k + j]? = (wcells (l k))[j]? := by
  unfold cellsW
  rw [List.getElem?_toArray, flat_at l 24 k j h hj]
theorem cellsW_ext {l m : Ws} (h : ∀ i < 24, l i = m i) : cellsW l = cellsW m := by
  unfold cellsW
  congr 1
  rw [List.flatMap_def, List.flatMap_def]
  congr 1
  apply List.map_congr_left
  intro i hi
  rw [h i (List.mem_range.mp hi)]
theorem cellsW_one (l : Ws) : ∀ v ∈ (cellsW l).toList, v.oneCell' = true := by
  intro v hv
  simp only [cellsW, List.mem_flatMap, wcells, List.mem_cons, List.not_mem_nil, or_false] at hv
  obtain ⟨i, _, rfl | rfl⟩ := hv <;> rfl
theorem cellsW_set (l : Ws) {k : Nat} (x : Wd) (h : k < 24) : (cellsW l).toList.take (2 * k) ++ wcells x ++ (cellsW l).toList.drop (2 * k + 2) = (cellsW (updW l k x)).toList := by
  have hz : (cellsW l).toList.length = 48 := by rw [Array.length_toList]; exact cellsW_size l
  have hat : ∀ (m : Ws) (i j : Nat), i < 24 → j < 2 → (cellsW m).toList[2 * i + j]? = (wcells (m i))[j]? := by
    intro m i j hi hj
    rw [Array.getElem?_toList]
    exact cellsW_at m hi hj
  have hlen : (cellsW (updW l k x)).toList.length = 48 := by rw [Array.length_toList]; exact cellsW_size _
  apply List.ext_getElem?
  intro q
  obtain ⟨i, j, hj, rfl⟩ : ∃ i j, j < 2 ∧ q = 2 * i + j := ⟨q / 2, q % 2, by omega, by omega⟩
  by_cases hi : i < 24
  · rw [hat _ i j hi hj]
    by_cases hik : i < k
    · rw [List.append_assoc, List.getElem?_append_left (by simp [hz]; omega), List.getElem?_take, if_pos (by omega), hat l i j hi hj]
      simp [updW, Nat.ne_of_lt hik]
    · rw [List.append_assoc, List.getElem?_append_right (by simp [hz]; omega)]
      rw [List.length_take, hz, Nat.min_eq_left (by omega)]
      by_cases e : i = k
      · subst e
        rw [List.getElem?_append_left (by simp [wcells]; omega)]
        rw [show 2 * i + j - 2 * i = j by omega]
        simp [updW]
      · rw [List.getElem?_append_right (by simp [wcells]; omega), List.getElem?_drop]
        rw [show 2 * k + 2 + (2 * i + j - 2 * k - (wcells x).length) = 2 * i + j by simp [wcells]; omega]
        rw [hat l i j hi hj]
        simp [updW, e]
  · rw [List.getElem?_eq_none (by simp [hz, wcells]; omega), List.getElem?_eq_none (by omega)]

/-! Which sources may be; tables; what they become. -/
def okS (s : Sr) : Bool := decide (s.1 = 1 ∨ s.1 = 0 ∧ 0 ≤ s.2 ∧ s.2 < 24)
def goodT (t : Tb) : Bool := (List.range 24).all fun i => okS (t i)
theorem good_mk {t : Tb} (h : ∀ i < 24, okS (t i) = true) : goodT t = true := List.all_eq_true.mpr fun i hi => h i (List.mem_range.mp hi)
def newT : Tb := fun i => (0, (i : Int))
def orN (t : Tb) : Tb := if goodT t = true then t else newT
def aft (t : Tb) (x : I) : Tb :=
  if rightB x.d = true ∧ rightB x.a = true then
    if x.op = 1 then upd (orN t) x.d.toNat (1, x.n)
    else if x.op = 2 then upd (orN t) x.d.toNat (orN t x.a.toNat)
    else if x.op = 3 then upd (upd (orN t) x.d.toNat (orN t x.a.toNat)) x.a.toNat (orN t x.d.toNat)
    else orN t
  else orN t
def thn (a b : Tb) : Tb := fun i => if (orN b i).1 = 0 then orN a (orN b i).2.toNat else orN b i
def fil (t : Tb) (l : Ws) : Ws := fun i => if (orN t i).1 = 0 then l (orN t i).2.toNat else (true, (orN t i).2)
theorem good_at {t : Tb} (h : goodT t = true) {i : Nat} (hi : i < 24) : okS (t i) = true := (List.all_eq_true.mp h) i (List.mem_range.mpr hi)
theorem good_new : goodT newT = true := by
  refine good_mk ?_
  intro i hi
  simp [okS, newT]
  omega
theorem good_orN (t : Tb) : goodT (orN t) = true := by
  unfold orN
  split
  · assumption
  · exact good_new
theorem orN_good {t : Tb} (h : goodT t = true) : orN t = t := if_pos h
theorem ok_cases {s : Sr} (h : okS s = true) : s.1 = 1 ∨ (s.1 = 0 ∧ 0 ≤ s.2 ∧ s.2 < 24) := of_decide_eq_true h
theorem good_upd {t : Tb} {s : Sr} (h : goodT t = true) (hs : okS s = true) (k : Nat) : goodT (upd t k s) = true := by
  refine good_mk fun i hi => ?_
  unfold upd
  split
  · exact hs
  · exact good_at h hi
theorem right_lt {l : Int} (h : rightB l = true) : l.toNat < 24 ∧ 0 ≤ l ∧ l < 24 := by
  have := of_decide_eq_true h
  omega
theorem good_aft (t : Tb) (x : I) : goodT (aft t x) = true := by
  have g := good_orN t
  unfold aft
  split
  · next h =>
    have h1 := (right_lt h.1).1
    have h2 := (right_lt h.2).1
    split
    · exact good_upd g (by simp [okS]) _
    · split
      · exact good_upd g (good_at g h2) _
      · split
        · exact good_upd (good_upd g (good_at g h2) _) (good_at g h1) _
        · exact g
  · exact g
theorem good_thn (a b : Tb) : goodT (thn a b) = true := by
  refine good_mk fun i hi => ?_
  unfold thn
  have hb := good_at (good_orN b) hi
  split
  · next h0 =>
    rcases ok_cases hb with h | h
    · omega
    · exact good_at (good_orN a) (by omega)
  · exact hb
end Go.Proofs.Ythdbehalbcoibaa
