/-
  Layer 10 in plain words: a skeleton while it is being built: nodes met so far, the first k of them with their ways. No program stands in this text.
-/
import Derived.Test.YtlmnodbhfpgplaaGreatDoorSkelMath
namespace Go.Proofs.YtlmnodbhfpgplaaGreatDoor
open Go.RowKit

def outsOf (f : List I) (cut : List Bool) (p : Int) : List Wyo := (fromsA f cut p).map (wyA f (nodesA f cut))
def xsAt (f : List I) (cut : List Bool) (k : Nat) (ps : List Int) : List (Int × List Wyo) := ps.mapIdx fun i p => (p, if i < k then outsOf f cut p else [])
section
variable {f : List I} {cut : List Bool} {k : Nat} {ps : List Int}
theorem xs_len : (xsAt f cut k ps).length = ps.length := by simp [xsAt]
theorem xs_map : (xsAt f cut k ps).map (·.1) = ps := by
  unfold xsAt
  apply List.ext_getElem?
  intro i
  rw [List.getElem?_map, List.getElem?_mapIdx]
  cases ps[i]? <;> rfl
theorem xs_at (i : Nat) : (xsAt f cut k ps)[i]? = ps[i]?.map fun p => (p, if i < k then outsOf f cut p else []) := by simp [xsAt]
theorem xs_app (h : k ≤ ps.length) (q : Int) : xsAt f cut k (ps ++ [q]) = xsAt f cut k ps ++ [(q, [])] := by
  unfold xsAt
  rw [List.mapIdx_append]
  simp
  omega
theorem xs_set {p : Int} (h : ps[k]? = some p) : (xsAt f cut k ps).set k (p, outsOf f cut p) = xsAt f cut (k + 1) ps := by
  apply List.ext_getElem?
  intro i
  rw [List.getElem?_set, xs_at, xs_at, xs_len]
  have hk := (List.getElem?_eq_some_iff.mp h).1
  by_cases e : k = i
  · subst e
    rw [if_pos rfl, if_pos hk, h]
    simp
  · rw [if_neg e]
    cases ps[i]? with
    | none => rfl
    | some q =>
      simp only [Option.map_some]
      by_cases h1 : i < k
      · rw [if_pos h1, if_pos (by omega)]
      · rw [if_neg h1, if_neg (by omega)]
theorem xs_done (h : ps.length ≤ k) : xsAt f cut k ps = ps.map fun p => (p, outsOf f cut p) := by
  apply List.ext_getElem?
  intro i
  rw [xs_at, List.getElem?_map]
  by_cases hi : i < ps.length
  · rw [List.getElem?_eq_getElem hi]
    simp only [Option.map_some]
    rw [if_pos (by omega)]
  · rw [List.getElem?_eq_none (by omega)]
    rfl
theorem xs_zero : xsAt f cut 0 ps = ps.map fun p => (p, []) := by
  apply List.ext_getElem?
  intro i
  rw [xs_at, List.getElem?_map]
  cases ps[i]? <;> simp
end
theorem skl_nodes (f : List I) (cut : List Bool) : (sklA f cut).nodes = (nodesA f cut).map fun p => (p, outsOf f cut p) := rfl
theorem idx_app : ∀ {ps : List Int} (l : List Int) {q : Int}, q ∈ ps → (ps ++ l).idxOf q = ps.idxOf q
  | [], _, _, h => by simp at h
  | p :: ps, l, q, h => by
    rw [List.cons_append, List.idxOf_cons, List.idxOf_cons]
    cases hb : p == q with
    | true => rfl
    | false =>
      have hne : q ≠ p := fun e => by simp [e] at hb
      have : q ∈ ps := by simpa [hne] using h
      rw [cond_false, cond_false, idx_app l this]
/-- A way's number among the nodes met is that among all. -/
theorem wy_pre {f : List I} {ps l : List Int} {q : Int} (h : toA f q < 0 ∨ toA f q ∈ ps) : wyA f (ps ++ l) q = wyA f ps q := by
  unfold wyA
  rcases h with h | h
  · rw [if_pos h, if_pos h]
  · split
    · rfl
    · rw [idx_app l h]
theorem grow_at (f : List I) (ps : List Int) (p : Int) : toA f p < 0 ∨ toA f p ∈ growA f ps p := by
  rcases Int.lt_or_le (toA f p) 0 with h | h
  · exact .inl h
  · exact .inr (grow_has h)
theorem grows_snoc (f : List I) (ps qs : List Int) (q : Int) : growsA f ps (qs ++ [q]) = growA f (growsA f ps qs) q := by
  unfold growsA
  rw [List.foldl_append]
  rfl
/-- What a way adds to the nodes. -/
def addN (f : List I) (ps : List Int) (p : Int) : List (Int × List Wyo) := if 0 ≤ toA f p ∧ toA f p ∉ ps then [(toA f p, [])] else []
theorem grow_xs {f : List I} {cut : List Bool} {k : Nat} {ps : List Int} (h : k ≤ ps.length) (p : Int) : xsAt f cut k (growA f ps p) = xsAt f cut k ps ++ addN f ps p := by
  unfold growA addN
  split
  · exact xs_app h _
  · simp
theorem idx_new : ∀ {ps : List Int} {q : Int}, q ∉ ps → (ps ++ [q]).idxOf q = ps.length
  | [], q, _ => by simp
  | p :: ps, q, h => by
    simp only [List.mem_cons, not_or] at h
    have hb : (p == q) = false := by simpa using Ne.symm h.1
    rw [List.cons_append, List.idxOf_cons, hb, cond_false, idx_new h.2, List.length_cons]
theorem grow_len (f : List I) (ps : List Int) (p : Int) : ps.length ≤ (growA f ps p).length := by
  obtain ⟨l, h⟩ := grow_pre f ps p
  rw [h, List.length_append]
  omega
theorem grows_len (f : List I) (ps qs : List Int) : ps.length ≤ (growsA f ps qs).length := by
  obtain ⟨l, h⟩ := grows_pre f qs ps
  rw [h, List.length_append]
  omega
/-- Behind so many of node k's ways. -/
theorem mid_pre {f : List I} (h : (chkF f).2 = 0) {cut : List Bool} {k : Nat} (hk : k < (metA f cut k).length) (j : Nat) : ∃ l, nodesA f cut = growsA f (metA f cut k) ((fromsA f cut ((metA f cut k).getD k 0)).take j) ++ l := by
  obtain ⟨l, hl⟩ := met_nodes h cut (k + 1)
  have e : metA f cut (k + 1) = growsA f (metA f cut k) (fromsA f cut ((metA f cut k).getD k 0)) := by
    conv => lhs; unfold metA
    rw [if_pos hk]
    rfl
  rw [e] at hl
  conv at hl => rhs; lhs; rw [← List.take_append_drop j (fromsA f cut ((metA f cut k).getD k 0))]
  have e2 : ∀ a b, growsA f (metA f cut k) (a ++ b) = growsA f (growsA f (metA f cut k) a) b := fun a b => by unfold growsA; rw [List.foldl_append]
  rw [e2] at hl
  obtain ⟨m, hm⟩ := grows_pre f (List.drop j (fromsA f cut ((metA f cut k).getD k 0))) (growsA f (metA f cut k) ((fromsA f cut ((metA f cut k).getD k 0)).take j))
  rw [hm, List.append_assoc] at hl
  exact ⟨_, hl⟩
theorem mid_end {f : List I} {cut : List Bool} {k : Nat} (hk : k < (metA f cut k).length) : growsA f (metA f cut k) (fromsA f cut ((metA f cut k).getD k 0)) = metA f cut (k + 1) := by
  conv => rhs; unfold metA
  rw [if_pos hk]
  rfl
end Go.Proofs.YtlmnodbhfpgplaaGreatDoor
