/-
  Layer 10 in plain words: the ways to each node while they are being collected. No program stands in this text.
-/
import Derived.Test.YtlmnodbhfpgplaaGreatDoorSkelMath
namespace Go.Proofs.YtlmnodbhfpgplaaGreatDoor
open Go.RowKit

/-- The ways to node n out of the nodes ahead of m, and m's first k. -/
def edAt (s : Skl) (m k : Nat) (n : Int) : List (Int × Int) := (if s.entry.1 = n then [(-1, 0)] else []) ++ (allE n 0 (s.nodes.take m) ++ rowE n (m : Int) 0 (((s.nodes[m]?).map (·.2)).getD [] |>.take k))
def edTab (N : Nat) (g : Int → List (Int × Int)) : List (List (Int × Int)) := (List.range N).map fun (n : Nat) => g (n : Int)
theorem edTab_len (N : Nat) (g : Int → List (Int × Int)) : (edTab N g).length = N := by simp [edTab]
theorem edTab_at {N : Nat} (g : Int → List (Int × Int)) {i : Nat} (h : i < N) : (edTab N g)[i]? = some (g (i : Int)) := by simp [edTab, h]
theorem edTab_set {N : Nat} {g g' : Int → List (Int × Int)} {i : Nat} {e : Int × Int} (hi : i < N) (h : ∀ n : Nat, n < N → g' n = if n = i then g i ++ [e] else g n) : (edTab N g).set i (g (i : Int) ++ [e]) = edTab N g' := by
  apply List.ext_getElem?
  intro j
  rw [List.getElem?_set, edTab_len]
  by_cases hj : j < N
  · rw [edTab_at g' hj, edTab_at g hj, h j hj]
    by_cases e1 : i = j
    · subst e1
      simp [hi]
    · rw [if_neg e1, if_neg (Ne.symm e1)]
  · rw [List.getElem?_eq_none (l := edTab N g') (by rw [edTab_len]; omega)]
    split
    · omega
    · exact List.getElem?_eq_none (by rw [edTab_len]; omega)
theorem edTab_none {N : Nat} {g g' : Int → List (Int × Int)} (h : ∀ n : Nat, n < N → g' n = g n) : edTab N g = edTab N g' := by
  unfold edTab
  exact List.map_congr_left fun n hn => (h n (List.mem_range.mp hn)).symm
section
variable {s : Skl} {m k : Nat} {n : Int}
theorem ed_zero : edAt s 0 0 n = if s.entry.1 = n then [(-1, 0)] else [] := by simp [edAt, allE, rowE]
theorem ed_step {x : Int × List Wyo} {o : Wyo} (hx : s.nodes[m]? = some x) (ho : x.2[k]? = some o) : edAt s m (k + 1) n = edAt s m k n ++ if o.1 = n then [((m : Int), (k : Int))] else [] := by
  have hk := (List.getElem?_eq_some_iff.mp ho).1
  unfold edAt
  rw [hx]
  simp only [Option.map_some, Option.getD_some]
  rw [List.take_add_one, ho, Option.toList_some, rowE_app, List.length_take, Nat.min_eq_left (by omega), Nat.zero_add]
  simp [rowE]
theorem ed_next {x : Int × List Wyo} (hx : s.nodes[m]? = some x) (hk : x.2.length ≤ k) : edAt s m k n = edAt s (m + 1) 0 n := by
  have hm := (List.getElem?_eq_some_iff.mp hx).1
  unfold edAt
  rw [hx]
  simp only [Option.map_some, Option.getD_some, List.take_zero]
  rw [List.take_of_length_le hk, List.take_add_one, hx, Option.toList_some, allE_app, List.length_take, Nat.min_eq_left (by omega), Nat.zero_add]
  simp [allE, rowE]
theorem ed_done (hm : s.nodes.length ≤ m) : edAt s m 0 n = edgesA s n := by
  unfold edAt edgesA
  rw [List.take_of_length_le hm]
  simp [rowE]
theorem rowE_len (n m : Int) : ∀ (l : List Wyo) (k : Nat), (rowE n m k l).length ≤ l.length
  | [], _ => by simp [rowE]
  | o :: l, k => by
    have := rowE_len n m l (k + 1)
    rw [rowE, List.length_append, List.length_cons]
    split <;> simp <;> omega
theorem allE_len {B : Nat} (n : Int) : ∀ (l : List (Int × List Wyo)) (m : Nat), (∀ x ∈ l, x.2.length ≤ B) → (allE n m l).length ≤ l.length * B
  | [], _, _ => by simp [allE]
  | x :: l, m, h => by
    have h1 := allE_len n l (m + 1) fun y hy => h y (by simp [hy])
    have h2 := rowE_len n (m : Int) x.2 0
    have h3 := h x (by simp)
    rw [allE, List.length_append, List.length_cons, Nat.succ_mul]
    omega
theorem ed_len {B : Nat} (h : ∀ x ∈ s.nodes, x.2.length ≤ B) : (edAt s m k n).length ≤ 1 + (s.nodes.length * B + B) := by
  have h1 : (allE n 0 (s.nodes.take m)).length ≤ s.nodes.length * B := by
    refine Nat.le_trans (allE_len (B := B) n _ 0 fun x hx => h x (List.mem_of_mem_take hx)) (Nat.mul_le_mul_right B ?_)
    rw [List.length_take]
    omega
  have h2 : (rowE n (m : Int) 0 (((s.nodes[m]?).map (·.2)).getD [] |>.take k)).length ≤ B := by
    refine Nat.le_trans (rowE_len _ _ _ _) ?_
    rw [List.length_take]
    refine Nat.le_trans (Nat.min_le_right _ _) ?_
    cases hx : s.nodes[m]? with
    | none => simp
    | some x => simpa using h x (List.mem_of_getElem? hx)
  unfold edAt
  rw [List.length_append, List.length_append]
  split <;> simp <;> omega
end
end Go.Proofs.YtlmnodbhfpgplaaGreatDoor
