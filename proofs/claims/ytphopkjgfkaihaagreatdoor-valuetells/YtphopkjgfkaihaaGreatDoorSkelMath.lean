/-
  Layer 10 in plain words: where ways lead, in which order nodes are met; that nodes are unlike, are closed under ways, and are each led to from the beginning or from one ahead of it. No program stands in this text.
-/
import Derived.Test.YtphopkjgfkaihaaGreatDoorPathFrom
namespace Go.Proofs.YtphopkjgfkaihaaGreatDoor
open Go.RowKit

/-- Which way a place goes: so many moves, or none. -/
def pthA (f : List I) (p : Int) : Option Nat := (List.range (f.length + 1)).find? fun n => !mvA f (itA f p n)
theorem pth_wy {f : List I} {p : Int} (h : InF f p) : Wy f p (pthA f p) := by
  unfold pthA
  cases e : (List.range (f.length + 1)).find? fun n => !mvA f (itA f p n) with
  | none =>
    have hn := List.find?_eq_none.mp e
    refine full_never h (n := f.length + 1) (by omega) fun k hk => ?_
    have := hn k (List.mem_range.mpr hk)
    simpa using this
  | some n =>
    obtain ⟨h1, xs, ys, h2, h3⟩ := List.find?_eq_some_iff_append.mp e
    refine ⟨fun k hk => ?_, by simpa using h1⟩
    have hl : xs.length = n := by
      have h4 : (List.range (f.length + 1))[xs.length]? = some n := by rw [h2]; simp
      rw [List.getElem?_range (by
        have : xs.length < (List.range (f.length + 1)).length := by rw [h2]; simp
        simpa using this)] at h4
      simpa using h4
    have hk' : k ∈ xs := by
      have h4 : (List.range (f.length + 1))[k]? = some k := by
        rw [List.getElem?_range]
        have : xs.length < (List.range (f.length + 1)).length := by rw [h2]; simp
        rw [List.length_range] at this
        omega
      rw [h2, List.getElem?_append_left (by omega)] at h4
      exact List.mem_of_getElem? h4
    simpa using h3 k hk'
def toA (f : List I) (p : Int) : Int := toP f p (pthA f p)
def tblA (f : List I) (p : Int) : Tb := tbP f p (pthA f p)
theorem to_neg {f : List I} {p : Int} (h : InF f p) : toA f p = -1 ∨ (InF f (toA f p) ∧ mvA f (toA f p) = false) := by
  have hw := pth_wy h
  unfold toA
  cases e : pthA f p with
  | none => exact .inl rfl
  | some n =>
    rw [e] at hw
    exact .inr ⟨it_in h hw.1, hw.2⟩
/-- Is a place cut? -/
def ctA (cut : List Bool) (p : Int) : Bool := decide (p < cut.length) && cut.getD p.toNat false
/-- The places from which a node's ways go. -/
def fromsA (f : List I) (cut : List Bool) (p : Int) : List Int :=
  if (insA f p).op = 18 ∨ ctA cut p = true then [] else if (insA f p).op = 17 then [(insA f p).t, p + 1] else [p + 1]
theorem last_op {f : List I} {p : Int} (h : InF f p) (hm : mvA f p = false) (h18 : (insA f p).op ≠ 18) : InF f (p + 1) := by
  have h16 : (insA f p).op ≠ 16 := by
    intro e
    unfold mvA movesB at hm
    rw [e] at hm
    revert hm
    decide
  have := not_last (mcOf h) h16 h18
  exact ⟨h.1, by have := h.2.1; show (0 : Int) ≤ p + 1; omega, this⟩
theorem froms_in {f : List I} {cut : List Bool} {p : Int} (h : InF f p) (hm : mvA f p = false) : ∀ q ∈ fromsA f cut p, InF f q := by
  intro q hq
  unfold fromsA at hq
  split at hq
  · simp at hq
  · next hn =>
    have h18 : (insA f p).op ≠ 18 := fun e => hn (.inl e)
    have h1 := last_op h hm h18
    split at hq
    · next h17 =>
      have hr := (ri_in h).t0 (.inr h17)
      simp at hq
      rcases hq with rfl | rfl
      · exact ⟨h.1, hr⟩
      · exact h1
    · simp at hq
      rw [hq]
      exact h1
/-- A place more, if a way leads to it that was not met. -/
def growA (f : List I) (out : List Int) (p : Int) : List Int := if 0 ≤ toA f p ∧ toA f p ∉ out then out ++ [toA f p] else out
def growsA (f : List I) (out : List Int) (ps : List Int) : List Int := ps.foldl (growA f) out
def stepA (f : List I) (cut : List Bool) (out : List Int) (n : Nat) : List Int := growsA f out (fromsA f cut (out.getD n 0))
def firstA (f : List I) : List Int := if 0 ≤ toA f 0 then [toA f 0] else []
/-- What has been met behind the ways of n nodes. -/
def metA (f : List I) (cut : List Bool) : Nat → List Int
  | 0 => firstA f
  | n + 1 => if n < (metA f cut n).length then stepA f cut (metA f cut n) n else metA f cut n
/-- A list of nodes' places. -/
structure Nds (f : List I) (out : List Int) : Prop where
  nd : out.Nodup
  inf : ∀ p ∈ out, InF f p ∧ mvA f p = false
theorem grow_pre (f : List I) (out : List Int) (p : Int) : ∃ l, growA f out p = out ++ l := by
  unfold growA
  split
  · exact ⟨_, rfl⟩
  · exact ⟨[], by simp⟩
theorem grows_pre (f : List I) : ∀ (ps : List Int) (out : List Int), ∃ l, growsA f out ps = out ++ l
  | [], out => ⟨[], by simp [growsA]⟩
  | p :: ps, out => by
    obtain ⟨l, h⟩ := grow_pre f out p
    obtain ⟨m, h2⟩ := grows_pre f ps (growA f out p)
    refine ⟨l ++ m, ?_⟩
    show growsA f (growA f out p) ps = _
    rw [h2, h, List.append_assoc]
theorem grow_nds {f : List I} {out : List Int} {p : Int} (h : Nds f out) (hp : InF f p) : Nds f (growA f out p) := by
  unfold growA
  split
  · next hc =>
    refine ⟨?_, fun q hq => ?_⟩
    · rw [List.nodup_append]
      exact ⟨h.nd, by simp, fun a ha b hb e => hc.2 (by simp at hb; rw [← hb, ← e]; exact ha)⟩
    · rw [List.mem_append] at hq
      rcases hq with hq | hq
      · exact h.inf q hq
      · simp at hq
        rw [hq]
        rcases to_neg hp with e | e
        · have := hc.1
          omega
        · exact e
  · exact h
theorem grows_nds {f : List I} : ∀ {ps : List Int} {out : List Int}, Nds f out → (∀ p ∈ ps, InF f p) → Nds f (growsA f out ps)
  | [], _, h, _ => h
  | p :: ps, out, h, hp => by
    show Nds f (growsA f (growA f out p) ps)
    exact grows_nds (grow_nds h (hp p (by simp))) fun q hq => hp q (by simp [hq])
theorem grow_has {f : List I} {out : List Int} {p : Int} (h : 0 ≤ toA f p) : toA f p ∈ growA f out p := by
  unfold growA
  split
  · simp
  · next hc =>
    by_cases e : toA f p ∈ out
    · exact e
    · exact absurd ⟨h, e⟩ hc
theorem grows_has {f : List I} : ∀ {ps : List Int} {out : List Int} {p : Int}, p ∈ ps → 0 ≤ toA f p → toA f p ∈ growsA f out ps
  | [], _, _, hp, _ => by simp at hp
  | q :: ps, out, p, hp, h => by
    show toA f p ∈ growsA f (growA f out q) ps
    simp at hp
    rcases hp with rfl | hp
    · obtain ⟨l, e⟩ := grows_pre f ps (growA f out p)
      rw [e]
      exact List.mem_append_left _ (grow_has h)
    · exact grows_has hp h
/-- What is new is where a way leads. -/
theorem grows_new {f : List I} : ∀ {ps : List Int} {out : List Int} {q : Int}, q ∈ growsA f out ps → q ∈ out ∨ ∃ p ∈ ps, toA f p = q ∧ 0 ≤ q
  | [], _, _, h => .inl h
  | p :: ps, out, q, h => by
    rcases grows_new (ps := ps) (out := growA f out p) h with h1 | ⟨p', h1, h2⟩
    · unfold growA at h1
      split at h1
      · next hc =>
        rw [List.mem_append] at h1
        rcases h1 with h1 | h1
        · exact .inl h1
        · simp at h1
          exact .inr ⟨p, by simp, h1.symm, by rw [h1]; exact hc.1⟩
      · exact .inl h1
    · exact .inr ⟨p', by simp [h1], h2⟩
theorem first_nds {f : List I} (h : (chkF f).2 = 0) : Nds f (firstA f) := by
  have h0 : InF f 0 := by
    have hp := (right_iff.mp h).2.1
    exact ⟨h, Int.le_refl 0, by omega⟩
  unfold firstA
  split
  · refine ⟨by simp, fun p hp => ?_⟩
    simp at hp
    rw [hp]
    rcases to_neg h0 with e | e
    · omega
    · exact e
  · exact ⟨by simp, by simp⟩
theorem met_nds {f : List I} (h : (chkF f).2 = 0) (cut : List Bool) : ∀ n, Nds f (metA f cut n)
  | 0 => first_nds h
  | n + 1 => by
    have ih := met_nds h cut n
    unfold metA
    split
    · next hn =>
      refine grows_nds ih fun q hq => ?_
      have hm : (metA f cut n).getD n 0 ∈ metA f cut n := by
        rw [List.getD_eq_getElem?_getD, List.getElem?_eq_getElem hn]
        exact List.getElem_mem hn
      obtain ⟨h1, h2⟩ := ih.inf _ hm
      exact froms_in h1 h2 q hq
    · exact ih
theorem met_pre (f : List I) (cut : List Bool) (n : Nat) : ∃ l, metA f cut (n + 1) = metA f cut n ++ l := by
  conv => enter [1, l, 1]; unfold metA
  split
  · exact grows_pre f _ _
  · exact ⟨[], by simp⟩
theorem met_add (f : List I) (cut : List Bool) (n : Nat) : ∀ k, ∃ l, metA f cut (n + k) = metA f cut n ++ l
  | 0 => ⟨[], by simp⟩
  | k + 1 => by
    obtain ⟨l, h⟩ := met_add f cut n k
    obtain ⟨m, h2⟩ := met_pre f cut (n + k)
    exact ⟨l ++ m, by rw [← Nat.add_assoc, h2, h, List.append_assoc]⟩
/-- Unlike numbers below n are at most n. -/
theorem nodup_len {n : Nat} {l : List Int} (h : l.Nodup) (hb : ∀ p ∈ l, 0 ≤ p ∧ p < n) : l.length ≤ n := by
  by_cases e : l.length ≤ n
  · exact e
  · exfalso
    obtain ⟨j, k, h1, h2, h3⟩ := pigeon n (fun i => (l.getD i 0).toNat) (by
      intro i hi
      have hm : l.getD i 0 ∈ l := by
        rw [List.getD_eq_getElem?_getD, List.getElem?_eq_getElem (by omega)]
        exact List.getElem_mem _
      have := hb _ hm
      show (l.getD i 0).toNat < n
      omega)
    have hj : j < l.length := by omega
    have hk : k < l.length := by omega
    have ej : l.getD j 0 = l[j] := by rw [List.getD_eq_getElem?_getD, List.getElem?_eq_getElem hj]; rfl
    have ek : l.getD k 0 = l[k] := by rw [List.getD_eq_getElem?_getD, List.getElem?_eq_getElem hk]; rfl
    have h3' : (l.getD j 0).toNat = (l.getD k 0).toNat := h3
    rw [ej, ek] at h3'
    have b1 := hb _ (List.getElem_mem hj)
    have b2 := hb _ (List.getElem_mem hk)
    have : l[j] = l[k] := by omega
    exact absurd this (List.pairwise_iff_getElem.mp h j k hj hk h1)
theorem nds_len {f : List I} {out : List Int} (h : Nds f out) : out.length ≤ f.length := nodup_len h.nd fun p hp => (h.inf p hp).1.2
/-- The nodes' places, in order. -/
def nodesA (f : List I) (cut : List Bool) : List Int := metA f cut f.length
theorem met_done {f : List I} (h : (chkF f).2 = 0) (cut : List Bool) {n : Nat} (hn : (metA f cut n).length ≤ n) : ∀ k, metA f cut (n + k) = metA f cut n
  | 0 => rfl
  | k + 1 => by
    have ih := met_done h cut hn k
    rw [← Nat.add_assoc]
    conv => lhs; unfold metA
    rw [if_neg (by rw [ih]; omega), ih]
theorem nodes_is {f : List I} (h : (chkF f).2 = 0) (cut : List Bool) {n : Nat} (hn : (metA f cut n).length ≤ n) : metA f cut n = nodesA f cut := by
  unfold nodesA
  rcases Nat.le_total n f.length with e | e
  · have := met_done h cut hn (f.length - n)
    rw [show n + (f.length - n) = f.length by omega] at this
    exact this.symm
  · have := met_done h cut (n := f.length) (nds_len (met_nds h cut _)) (n - f.length)
    rw [show f.length + (n - f.length) = n by omega] at this
    exact this
theorem nodes_nds {f : List I} (h : (chkF f).2 = 0) (cut : List Bool) : Nds f (nodesA f cut) := met_nds h cut _
/-- What has been met is a beginning of the nodes. -/
theorem met_nodes {f : List I} (h : (chkF f).2 = 0) (cut : List Bool) (n : Nat) : ∃ l, nodesA f cut = metA f cut n ++ l := by
  rcases Nat.le_total n f.length with e | e
  · obtain ⟨l, hl⟩ := met_add f cut n (f.length - n)
    rw [show n + (f.length - n) = f.length by omega] at hl
    exact ⟨l, hl⟩
  · have := nodes_is h cut (n := n) (Nat.le_trans (nds_len (met_nds h cut n)) e)
    exact ⟨[], by rw [this]; simp⟩
/-- The nodes are closed under ways. -/
theorem nodes_closed {f : List I} (h : (chkF f).2 = 0) (cut : List Bool) {n : Nat} (hn : n < (nodesA f cut).length) {q : Int} (hq : q ∈ fromsA f cut ((nodesA f cut).getD n 0)) (ht : 0 ≤ toA f q) : toA f q ∈ nodesA f cut := by
  have hl := nds_len (nodes_nds h cut)
  -- behind n + 1 steps the ways of node n have been met
  have hmn : n < (metA f cut n).length := by
    by_cases e : n < (metA f cut n).length
    · exact e
    · have := nodes_is h cut (n := n) (by omega)
      rw [this] at e
      exact absurd hn e
  obtain ⟨l, hp⟩ := met_nodes h cut n
  have hg : (nodesA f cut).getD n 0 = (metA f cut n).getD n 0 := by
    rw [hp, List.getD_eq_getElem?_getD, List.getD_eq_getElem?_getD, List.getElem?_append_left hmn]
  rw [hg] at hq
  have hs : toA f q ∈ metA f cut (n + 1) := by
    unfold metA
    rw [if_pos hmn]
    exact grows_has hq ht
  obtain ⟨m, hp2⟩ := met_nodes h cut (n + 1)
  rw [hp2]
  exact List.mem_append_left _ hs
/-- Each node but those of the beginning is led to from one ahead of it. -/
theorem met_from {f : List I} (cut : List Bool) : ∀ (n : Nat) {q : Int}, q ∈ metA f cut n → (q = toA f 0 ∧ 0 ≤ q) ∨ ∃ (m : Nat) (p : Int), m < n ∧ m < (metA f cut m).length ∧ p ∈ fromsA f cut ((metA f cut m).getD m 0) ∧ toA f p = q ∧ 0 ≤ q ∧ (q ∈ metA f cut (m + 1)) ∧ q ∉ metA f cut m
  | 0, q, h => by
    left
    unfold metA firstA at h
    split at h
    · simp at h
      rw [h]
      next hc => exact ⟨rfl, hc⟩
    · simp at h
  | n + 1, q, h => by
    by_cases e : q ∈ metA f cut n
    · rcases met_from cut n e with h1 | ⟨m, p, h1, h2, h3, h4, h5, h6⟩
      · exact .inl h1
      · exact .inr ⟨m, p, by omega, h2, h3, h4, h5, h6⟩
    · right
      have h' := h
      unfold metA at h'
      split at h'
      · next hn =>
        rcases grows_new h' with h1 | ⟨p, h1, h2, h3⟩
        · exact absurd h1 e
        · exact ⟨n, p, by omega, hn, h1, h2, h3, h, e⟩
      · exact absurd h' e
/-- With more places cut each node was one. -/
theorem froms_less {f : List I} {cut cut' : List Bool} (hc : ∀ p, ctA cut p = true → ctA cut' p = true) (p : Int) : ∀ q ∈ fromsA f cut' p, q ∈ fromsA f cut p := by
  intro q hq
  unfold fromsA at hq ⊢
  split at hq
  · simp at hq
  · next hn =>
    rw [if_neg (fun e => hn (e.imp id (hc p)))]
    exact hq
theorem met_less {f : List I} (h : (chkF f).2 = 0) {cut cut' : List Bool} (hc : ∀ p, ctA cut p = true → ctA cut' p = true) : ∀ (n : Nat) {q : Int}, q ∈ metA f cut' n → q ∈ nodesA f cut := by
  intro n
  induction n with
  | zero =>
    intro q hq
    obtain ⟨l, hp⟩ := met_nodes h cut 0
    rw [hp]
    exact List.mem_append_left _ hq
  | succ n ih =>
    intro q hq
    unfold metA at hq
    split at hq
    · next hn =>
      rcases grows_new hq with h1 | ⟨p, h1, h2, h3⟩
      · exact ih h1
      · have hm : (metA f cut' n).getD n 0 ∈ metA f cut' n := by
          rw [List.getD_eq_getElem?_getD, List.getElem?_eq_getElem hn]
          exact List.getElem_mem hn
        have h4 := ih hm
        obtain ⟨i, hi, he⟩ := List.getElem_of_mem h4
        have h5 := froms_less hc _ p h1
        rw [← h2]
        refine nodes_closed h cut hi ?_ (by rw [h2]; exact h3)
        rw [List.getD_eq_getElem?_getD, List.getElem?_eq_getElem hi]
        show p ∈ fromsA f cut (nodesA f cut)[i]
        rw [he]
        exact h5
    · exact ih hq
theorem nodes_less {f : List I} (h : (chkF f).2 = 0) {cut cut' : List Bool} (hc : ∀ p, ctA cut p = true → ctA cut' p = true) : ∀ q ∈ nodesA f cut', q ∈ nodesA f cut := fun _ hq => met_less h hc _ hq
/-- A list of unlike numbers within another is no longer. -/
theorem nodup_sub : ∀ {l m : List Int}, l.Nodup → (∀ x ∈ l, x ∈ m) → l.length ≤ m.length
  | [], m, _, _ => Nat.zero_le _
  | x :: l, m, h, hs => by
    have hx : x ∈ m := hs x (by simp)
    have h' := List.nodup_cons.mp h
    have := nodup_sub (l := l) (m := m.erase x) h'.2 (fun y hy => by
      have hy' : y ∈ m := hs y (by simp [hy])
      have hne : y ≠ x := fun e => h'.1 (e ▸ hy)
      exact (List.mem_erase_of_ne hne).mpr hy')
    rw [List.length_erase_of_mem hx] at this
    have hp : 0 < m.length := List.length_pos_of_mem hx
    simp
    omega
theorem idx_at : ∀ {l : List Int}, l.Nodup → ∀ {i : Nat} (hi : i < l.length), l.idxOf l[i] = i
  | [], _, i, hi => by simp at hi
  | x :: l, h, 0, _ => by simp
  | x :: l, h, i + 1, hi => by
    have h' := List.nodup_cons.mp h
    have hi' : i < l.length := by simpa using hi
    have hne : x ≠ l[i] := fun e => h'.1 (by rw [e]; exact List.getElem_mem hi')
    rw [List.getElem_cons_succ, List.idxOf_cons, idx_at h'.2 hi', show (x == l[i]) = false by simpa using hne]
    rfl
/-! Ways, nodes, skeletons; the ways to a node. -/
/-- A way: the number of the node to which it leads, and its table. -/
abbrev Wyo := Int × Tb
def wyA (f : List I) (ps : List Int) (q : Int) : Wyo := (if toA f q < 0 then -1 else ((ps.idxOf (toA f q) : Nat) : Int), tblA f q)
structure Skl where
  entry : Wyo
  nodes : List (Int × List Wyo)
def sklA (f : List I) (cut : List Bool) : Skl := ⟨wyA f (nodesA f cut) 0, (nodesA f cut).map fun p => (p, (fromsA f cut p).map (wyA f (nodesA f cut)))⟩
/-- The ways of node m, from its k-th on, that lead to n. -/
def rowE (n m : Int) : Nat → List Wyo → List (Int × Int)
  | _, [] => []
  | k, o :: l => (if o.1 = n then [(m, (k : Int))] else []) ++ rowE n m (k + 1) l
def allE (n : Int) : Nat → List (Int × List Wyo) → List (Int × Int)
  | _, [] => []
  | m, x :: l => rowE n (m : Int) 0 x.2 ++ allE n (m + 1) l
def edgesA (s : Skl) (n : Int) : List (Int × Int) := (if s.entry.1 = n then [(-1, 0)] else []) ++ allE n 0 s.nodes
theorem rowE_app (n m : Int) : ∀ (l1 l2 : List Wyo) (k : Nat), rowE n m k (l1 ++ l2) = rowE n m k l1 ++ rowE n m (k + l1.length) l2
  | [], l2, k => by simp [rowE]
  | o :: l, l2, k => by
    simp only [List.cons_append, rowE, List.length_cons]
    rw [rowE_app n m l l2 (k + 1), List.append_assoc, show k + 1 + l.length = k + (l.length + 1) by omega]
theorem allE_app (n : Int) : ∀ (l1 l2 : List (Int × List Wyo)) (m : Nat), allE n m (l1 ++ l2) = allE n m l1 ++ allE n (m + l1.length) l2
  | [], l2, m => by simp [allE]
  | x :: l, l2, m => by
    simp only [List.cons_append, allE, List.length_cons]
    rw [allE_app n l l2 (m + 1), List.append_assoc, show m + 1 + l.length = m + (l.length + 1) by omega]
theorem rowE_mem {n m : Int} {a b : Int} : ∀ {l : List Wyo} {k : Nat}, (a, b) ∈ rowE n m k l ↔ a = m ∧ ∃ i, ∃ h : i < l.length, b = ((k + i : Nat) : Int) ∧ (l[i]).1 = n
  | [], k => by simp [rowE]
  | o :: l, k => by
    rw [rowE, List.mem_append, rowE_mem]
    constructor
    · rintro (h | ⟨h1, i, hi, h2, h3⟩)
      · split at h
        · next e =>
          simp at h
          exact ⟨h.1, 0, by simp, by simp [h.2], e⟩
        · simp at h
      · exact ⟨h1, i + 1, by simpa using hi, by rw [h2]; omega, h3⟩
    · rintro ⟨h1, i, hi, h2, h3⟩
      cases i with
      | zero =>
        left
        have h4 : o.1 = n := h3
        rw [if_pos h4]
        simp [h1, h2]
      | succ i => exact .inr ⟨h1, i, by simpa using hi, by rw [h2]; omega, h3⟩
theorem allE_mem {n : Int} {a b : Int} : ∀ {l : List (Int × List Wyo)} {m : Nat}, (a, b) ∈ allE n m l ↔ ∃ j, ∃ h : j < l.length, a = ((m + j : Nat) : Int) ∧ ∃ i, ∃ h2 : i < (l[j]).2.length, b = (i : Int) ∧ ((l[j]).2[i]).1 = n
  | [], m => by simp [allE]
  | x :: l, m => by
    rw [allE, List.mem_append, allE_mem, rowE_mem]
    constructor
    · rintro (⟨h1, i, hi, h2, h3⟩ | ⟨j, hj, h1, h2⟩)
      · exact ⟨0, by simp, by rw [h1]; simp, i, hi, by rw [h2, Nat.zero_add], h3⟩
      · exact ⟨j + 1, by simpa using hj, by rw [h1]; omega, h2⟩
    · rintro ⟨j, hj, h1, i, hi, h2, h3⟩
      cases j with
      | zero => exact .inl ⟨by rw [h1]; simp, i, hi, by rw [h2, Nat.zero_add], h3⟩
      | succ j => exact .inr ⟨j, by simpa using hj, by rw [h1]; omega, i, hi, h2, h3⟩
/-- The numbers of the nodes from which ways to a node come rise. -/
theorem allE_from {n : Int} : ∀ {l : List (Int × List Wyo)} {m : Nat}, ∀ x ∈ allE n m l, (m : Int) ≤ x.1
  | l, m, (a, b), h => by
    obtain ⟨j, _, h1, _⟩ := allE_mem.mp h
    show (m : Int) ≤ a
    omega
theorem allE_head {n : Int} : ∀ {l : List (Int × List Wyo)} {m : Nat} {a b : Int}, (a, b) ∈ allE n m l → ∃ x r, allE n m l = x :: r ∧ x.1 ≤ a
  | [], m, a, b, h => by simp [allE] at h
  | x :: l, m, a, b, h => by
    rw [allE] at h ⊢
    cases e : rowE n (m : Int) 0 x.2 with
    | nil =>
      rw [e, List.nil_append] at h
      exact allE_head h
    | cons y r =>
      refine ⟨y, r ++ allE n (m + 1) l, by simp, ?_⟩
      have hy : (y.1, y.2) ∈ rowE n (m : Int) 0 x.2 := by rw [e]; simp
      have h1 := (rowE_mem.mp hy).1
      rw [List.mem_append] at h
      rcases h with h | h
      · rw [h1, (rowE_mem.mp h).1]
        exact Int.le_refl _
      · have := allE_from _ h
        rw [h1]
        show (m : Int) ≤ a
        have h3 : ((m + 1 : Nat) : Int) ≤ a := this
        omega
/-- Each node has a way that leads to it, from the beginning or from a node ahead of it: the first of them is such. -/
theorem edges_first {f : List I} (h : (chkF f).2 = 0) (cut : List Bool) {n : Nat} (hn : n < (nodesA f cut).length) : ∃ x r, edgesA (sklA f cut) (n : Int) = x :: r ∧ x.1 < (n : Int) := by
  unfold edgesA
  by_cases e : (sklA f cut).entry.1 = (n : Int)
  · rw [if_pos e]
    exact ⟨(-1, 0), _, rfl, by show (-1 : Int) < n; omega⟩
  · rw [if_neg e, List.nil_append]
    have hnd := nodes_nds h cut
    have hq := List.getElem_mem hn
    rcases met_from cut _ hq with ⟨h1, h2⟩ | ⟨m, p, h1, h2, h3, h4, h5, h6, h7⟩
    · exfalso
      apply e
      show (if toA f 0 < 0 then (-1 : Int) else (((nodesA f cut).idxOf (toA f 0) : Nat) : Int)) = n
      rw [if_neg (by omega), ← h1, idx_at hnd.nd]
    · obtain ⟨l, hp⟩ := met_nodes h cut m
      have hm : m < (nodesA f cut).length := by rw [hp, List.length_append]; omega
      have hg : (nodesA f cut)[m] = (metA f cut m).getD m 0 := by
        rw [List.getD_eq_getElem?_getD, List.getElem?_eq_getElem h2]
        show _ = (metA f cut m)[m]
        rw [List.getElem_of_eq hp, List.getElem_append_left h2]
      have hmn : m < n := by
        rcases Nat.lt_or_ge n (metA f cut m).length with hlt | hge
        · exfalso
          apply h7
          have : (nodesA f cut)[n] = (metA f cut m)[n] := by rw [List.getElem_of_eq hp, List.getElem_append_left hlt]
          rw [this]
          exact List.getElem_mem hlt
        · omega
      obtain ⟨i, hi, he⟩ := List.getElem_of_mem h3
      have hin : ((m : Int), (i : Int)) ∈ allE (n : Int) 0 (sklA f cut).nodes := by
        refine allE_mem.mpr ⟨m, by simpa [sklA] using hm, by simp, i, ?_, rfl, ?_⟩
        · simp only [sklA, List.getElem_map, List.length_map]
          rw [hg]
          exact hi
        · simp only [sklA, List.getElem_map]
          have h8 : (fromsA f cut (nodesA f cut)[m])[i]'(by rw [hg]; exact hi) = p := by rw [← he]; congr 1; rw [hg]
          rw [h8]
          show (if toA f p < 0 then (-1 : Int) else (((nodesA f cut).idxOf (toA f p) : Nat) : Int)) = n
          rw [if_neg (by rw [h4]; omega), h4, idx_at hnd.nd]
      obtain ⟨x, r, h9, h10⟩ := allE_head hin
      exact ⟨x, r, h9, by omega⟩
end Go.Proofs.YtphopkjgfkaihaaGreatDoor
