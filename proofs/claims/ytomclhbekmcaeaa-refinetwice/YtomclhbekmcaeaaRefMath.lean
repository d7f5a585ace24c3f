/-
  Layer 12 in plain words: numbers in the order in which they are met; classes split by what things lead to, again and again. No program stands in this text.
-/
import Derived.Test.YtomclhbekmcaeaaFinMath
namespace Go.Proofs.Ytomclhbekmcaeaa
open Go.RowKit

/-! Numbers from 0 on, in the order in which they are met. -/
def clsI (n : Nat) (G : Nat → Nat → Bool) : List Int := (List.range n).map fun i => ((clsA G i : Nat) : Int)
theorem clsI_len (n : Nat) (G : Nat → Nat → Bool) : (clsI n G).length = n := by simp [clsI]
theorem clsI_at {n : Nat} (G : Nat → Nat → Bool) {i : Nat} (h : i < n) : (clsI n G)[i]? = some ((clsA G i : Nat) : Int) := by
  unfold clsI
  rw [List.getElem?_map, List.getElem?_range h]
  rfl
theorem clsI_get {n : Nat} (G : Nat → Nat → Bool) {i : Nat} (h : i < n) : (clsI n G).getD i 0 = ((clsA G i : Nat) : Int) := by
  rw [List.getD_eq_getElem?_getD, clsI_at G h]
  rfl
theorem clsI_congr {n : Nat} {G H : Nat → Nat → Bool} (h : ∀ i < n, ∀ k < n, G i k = H i k) : clsI n G = clsI n H := by
  unfold clsI
  refine List.map_congr_left fun i hi => ?_
  have hin := List.mem_range.mp hi
  rw [cls_congr (n := n) (fun a ha k hk => h a ha k (by omega)) hin]
theorem many_le (G : Nat → Nat → Bool) : ∀ n, many G n ≤ n
  | 0 => Nat.le_refl _
  | n + 1 => by
    rw [many]
    have := many_le G n
    split <;> omega
theorem cls_lt {n : Nat} (G : Nat → Nat → Bool) {i : Nat} (h : i < n) : clsA G i < n := by
  unfold clsA
  have h1 := frst_le G i
  have h2 := many_le G (frst G i)
  omega
def eqG (xs : List Int) (i k : Nat) : Bool := decide (xs.getD i 0 = xs.getD k 0)
theorem eqG_eqv (xs : List Int) (n : Nat) : Eqv n (eqG xs) :=
  ⟨fun _ _ => decide_eq_true rfl, fun _ _ _ _ h => decide_eq_true (of_decide_eq_true h).symm, fun _ _ _ _ _ _ h h' => decide_eq_true ((of_decide_eq_true h).trans (of_decide_eq_true h'))⟩
abbrev numL (xs : List Int) : List Int := clsI xs.length (eqG xs)
/-- The first k have been numbered: these are the numbers met, in their order. -/
structure NumR (xs : List Int) (k : Nat) (ks : List Int) : Prop where
  len : ks.length = many (eqG xs) k
  at' : ∀ j < k, xs.getD j 0 ∈ ks ∧ ks.idxOf (xs.getD j 0) = clsA (eqG xs) j
  of' : ∀ p ∈ ks, ∃ j < k, xs.getD j 0 = p
theorem numR_0 (xs : List Int) : NumR xs 0 [] := ⟨rfl, fun _ h => absurd h (Nat.not_lt_zero _), fun _ h => by simp at h⟩
theorem numR_met {xs : List Int} {k : Nat} {ks : List Int} (h : NumR xs k ks) (hx : xs.getD k 0 ∈ ks) : ks.idxOf (xs.getD k 0) = clsA (eqG xs) k ∧ NumR xs (k + 1) ks := by
  obtain ⟨j, hj, e⟩ := h.of' _ hx
  have hg : eqG xs k j = true := decide_eq_true e.symm
  have hne : frst (eqG xs) k ≠ k := fun e' => by
    have := frst_min (G := eqG xs) (i := k) (k := j) (by omega)
    rw [hg] at this
    cases this
  have hc : ks.idxOf (xs.getD k 0) = clsA (eqG xs) k := by
    rw [← e, (h.at' j hj).2]
    exact (cls_eq (eqG_eqv xs (k + 1)) (by omega) (by omega)).mpr (decide_eq_true e)
  refine ⟨hc, by rw [many, if_neg hne, h.len, Nat.add_zero], fun i hi => ?_, fun p hp => ?_⟩
  · by_cases e1 : i < k
    · exact h.at' i e1
    · obtain rfl : i = k := by omega
      exact ⟨hx, hc⟩
  · obtain ⟨i, h1, h2⟩ := h.of' p hp
    exact ⟨i, by omega, h2⟩
theorem numR_new {xs : List Int} {k : Nat} {ks : List Int} (h : NumR xs k ks) (hx : xs.getD k 0 ∉ ks) : ks.length = clsA (eqG xs) k ∧ NumR xs (k + 1) (ks ++ [xs.getD k 0]) := by
  have hfr : frst (eqG xs) k = k := by
    have h1 := frst_le (eqG xs) k
    by_cases e : frst (eqG xs) k = k
    · exact e
    · exfalso
      have h2 := frst_in (eqG_eqv xs (k + 1)) (i := k) (by omega)
      have h3 : xs.getD k 0 = xs.getD (frst (eqG xs) k) 0 := of_decide_eq_true h2
      apply hx
      rw [h3]
      exact (h.at' _ (by omega)).1
  have hc : ks.length = clsA (eqG xs) k := by
    unfold clsA
    rw [hfr, h.len]
  refine ⟨hc, by rw [many, if_pos hfr, List.length_append, h.len]; rfl, fun i hi => ?_, fun p hp => ?_⟩
  · by_cases e1 : i < k
    · obtain ⟨h1, h2⟩ := h.at' i e1
      exact ⟨List.mem_append.mpr (.inl h1), by rw [List.idxOf_append, if_pos h1, h2]⟩
    · obtain rfl : i = k := by omega
      refine ⟨by simp, ?_⟩
      rw [List.idxOf_append, if_neg hx, ← hc]
      simp
  · rcases List.mem_append.mp hp with hp | hp
    · obtain ⟨i, h1, h2⟩ := h.of' p hp
      exact ⟨i, by omega, h2⟩
    · exact ⟨k, by omega, (by simpa using hp : p = _).symm⟩
/-! What can be told of a reference, by classes. -/
def seenA (cs : List Int) (r : Rf) : Rf := if thB cs.length r = true then (0, cs.getD r.2.toNat 0) else r
/-- Links: each stands behind a class, or behind a link ahead of it. -/
structure Lnk (n : Nat) (ks : List (Int × Rf)) (f : Int → Int × List Rf) : Prop where
  base : ∀ v : Int, 0 ≤ v → v < n → f v = (v, [])
  step : ∀ j x, ks[j]? = some x → 0 ≤ x.1 ∧ x.1 < ((n + j : Nat) : Int) ∧ f ((n + j : Nat) : Int) = ((f x.1).1, (f x.1).2 ++ [x.2])
  inj : ∀ u v : Int, 0 ≤ u → u < ((n + ks.length : Nat) : Int) → 0 ≤ v → v < ((n + ks.length : Nat) : Int) → f u = f v → u = v
theorem lnk_0 (n : Nat) : Lnk n [] fun v => (v, []) := ⟨fun _ _ _ => rfl, fun _ _ h => by simp at h, fun _ _ _ _ _ _ h => (Prod.mk.inj h).1⟩
theorem lnk_met {n : Nat} {ks : List (Int × Rf)} {f : Int → Int × List Rf} (h : Lnk n ks f) {x : Int × Rf} {j : Nat} (hx : ks[j]? = some x) :
    j < ks.length ∧ f ((n + j : Nat) : Int) = ((f x.1).1, (f x.1).2 ++ [x.2]) :=
  ⟨(List.getElem?_eq_some_iff.mp hx).1, (h.step _ x hx).2.2⟩
theorem lnk_new {n : Nat} {ks : List (Int × Rf)} {f : Int → Int × List Rf} (h : Lnk n ks f) {x : Int × Rf} (hx : x ∉ ks) (h0 : 0 ≤ x.1) (h1 : x.1 < ((n + ks.length : Nat) : Int)) :
    ∃ f', Lnk n (ks ++ [x]) f' ∧ (∀ v : Int, v < ((n + ks.length : Nat) : Int) → f' v = f v) ∧ f' ((n + ks.length : Nat) : Int) = ((f x.1).1, (f x.1).2 ++ [x.2]) := by
  have hold : ∀ v : Int, v < ((n + ks.length : Nat) : Int) → (if v = ((n + ks.length : Nat) : Int) then ((f x.1).1, (f x.1).2 ++ [x.2]) else f v) = f v := fun v hv => if_neg (by omega)
  have key : ∀ v : Int, 0 ≤ v → v < ((n + ks.length : Nat) : Int) → f v ≠ ((f x.1).1, (f x.1).2 ++ [x.2]) := by
    intro v hv0 hv1 e
    by_cases hb : v < n
    · rw [h.base v hv0 hb] at e
      have := (Prod.mk.inj e).2
      simp at this
    · obtain ⟨j, rfl⟩ : ∃ j : Nat, v = ((n + j : Nat) : Int) := ⟨(v - n).toNat, by omega⟩
      have hj : j < ks.length := by omega
      obtain ⟨p1, p2, p3⟩ := h.step j ks[j] (List.getElem?_eq_getElem hj)
      rw [p3] at e
      obtain ⟨e1, e2⟩ := Prod.mk.inj e
      have e3 := List.append_inj' e2 rfl
      have e4 : ks[j].1 = x.1 := h.inj _ _ p1 (by omega) h0 h1 (Prod.ext e1 e3.1)
      have e5 : ks[j].2 = x.2 := by simpa using e3.2
      exact hx (by rw [← Prod.ext e4 e5]; exact List.getElem_mem hj)
  refine ⟨fun v => if v = ((n + ks.length : Nat) : Int) then ((f x.1).1, (f x.1).2 ++ [x.2]) else f v, ⟨fun v hv0 hv1 => ?_, fun j y hy => ?_, fun u v hu0 hu1 hv0 hv1 e => ?_⟩, hold, if_pos rfl⟩
  · show (if _ then _ else _) = _
    rw [if_neg (by omega)]
    exact h.base v hv0 hv1
  · by_cases hj : j < ks.length
    · rw [List.getElem?_append_left hj] at hy
      obtain ⟨p1, p2, p3⟩ := h.step j y hy
      refine ⟨p1, p2, ?_⟩
      show (if _ then _ else _) = (((if _ then _ else _) : Int × List Rf).1, ((if _ then _ else _) : Int × List Rf).2 ++ _)
      rw [if_neg (by omega), if_neg (by omega)]
      exact p3
    · rw [List.getElem?_append_right (by omega)] at hy
      obtain rfl : j = ks.length := by
        have := (List.getElem?_eq_some_iff.mp hy).1
        simp at this
        omega
      have hy' : x = y := by simpa using hy
      subst hy'
      refine ⟨h0, h1, ?_⟩
      show (if _ then _ else _) = (((if _ then _ else _) : Int × List Rf).1, ((if _ then _ else _) : Int × List Rf).2 ++ _)
      rw [if_pos rfl, if_neg (by omega)]
  · rw [List.length_append, List.length_singleton] at hu1 hv1
    have e' : (if u = ((n + ks.length : Nat) : Int) then ((f x.1).1, (f x.1).2 ++ [x.2]) else f u) = (if v = ((n + ks.length : Nat) : Int) then ((f x.1).1, (f x.1).2 ++ [x.2]) else f v) := e
    by_cases eu : u = ((n + ks.length : Nat) : Int)
    · by_cases ev : v = ((n + ks.length : Nat) : Int)
      · rw [eu, ev]
      · rw [if_pos eu, if_neg ev] at e'
        exact absurd e'.symm (key v hv0 (by omega))
    · by_cases ev : v = ((n + ks.length : Nat) : Int)
      · rw [if_neg eu, if_pos ev] at e'
        exact absurd e' (key u hu0 (by omega))
      · rw [if_neg eu, if_neg ev] at e'
        exact h.inj u v hu0 (by omega) hv0 (by omega) e'
/-- The ends of the first k things. -/
def EndsR (l : List Rw) (cs : List Int) (k : Nat) (ks : List (Int × Rf)) (es : List Int) : Prop :=
  ks.length ≤ k * 10000 ∧ es.length = l.length ∧ ∃ f, Lnk l.length ks f ∧ ∀ j < k, 0 ≤ es.getD j 0 ∧ es.getD j 0 < ((l.length + ks.length : Nat) : Int) ∧ f (es.getD j 0) = (cs.getD j 0, (rwA l j).to.map (seenA cs))
theorem ends_0 (l : List Rw) (cs : List Int) : EndsR l cs 0 [] (List.replicate l.length 0) :=
  ⟨Nat.le_refl _, by simp, _, lnk_0 _, fun _ h => absurd h (Nat.not_lt_zero _)⟩
/-- The links of one thing: m of its references have been gone along. -/
def EndR (l : List Rw) (cs : List Int) (k m : Nat) (ks : List (Int × Rf)) (es : List Int) (e : Int) : Prop :=
  ks.length ≤ k * 10000 + m ∧ es.length = l.length ∧ ∃ f, Lnk l.length ks f ∧ (∀ j < k, 0 ≤ es.getD j 0 ∧ es.getD j 0 < ((l.length + ks.length : Nat) : Int) ∧ f (es.getD j 0) = (cs.getD j 0, (rwA l j).to.map (seenA cs))) ∧
    0 ≤ e ∧ e < ((l.length + ks.length : Nat) : Int) ∧ f e = (cs.getD k 0, ((rwA l k).to.take m).map (seenA cs))
theorem end_0 {l : List Rw} {cs : List Int} {k : Nat} {ks : List (Int × Rf)} {es : List Int} (h : EndsR l cs k ks es) (h0 : 0 ≤ cs.getD k 0) (h1 : cs.getD k 0 < l.length) : EndR l cs k 0 ks es (cs.getD k 0) := by
  obtain ⟨a, b, f, c, d⟩ := h
  unfold EndR
  rw [Nat.add_zero]
  exact ⟨a, b, f, c, d, h0, by omega, by rw [c.base _ h0 h1]; rfl⟩
theorem end_met {l : List Rw} {cs : List Int} {k m : Nat} {ks : List (Int × Rf)} {es : List Int} {e : Int} (h : EndR l cs k m ks es e) {r : Rf} (hr : (rwA l k).to[m]? = some r) {j : Nat} (hx : ks[j]? = some (e, seenA cs r)) :
    EndR l cs k (m + 1) ks es ((l.length + j : Nat) : Int) := by
  obtain ⟨a, b, f, c, d, p, q, s⟩ := h
  obtain ⟨h1, h2⟩ := lnk_met c hx
  refine ⟨by omega, b, f, c, d, by omega, by omega, ?_⟩
  rw [h2, s, List.take_add_one, hr]
  simp
theorem end_new {l : List Rw} {cs : List Int} {k m : Nat} {ks : List (Int × Rf)} {es : List Int} {e : Int} (h : EndR l cs k m ks es e) {r : Rf} (hr : (rwA l k).to[m]? = some r) (hx : (e, seenA cs r) ∉ ks) :
    EndR l cs k (m + 1) (ks ++ [(e, seenA cs r)]) es ((l.length + ks.length : Nat) : Int) := by
  obtain ⟨a, b, f, c, d, p, q, s⟩ := h
  obtain ⟨f', c', h1, h2⟩ := lnk_new c hx p q
  refine ⟨by rw [List.length_append, List.length_singleton]; omega, b, f', c', fun j hj => ?_, by omega, by rw [List.length_append, List.length_singleton]; omega, ?_⟩
  · obtain ⟨d1, d2, d3⟩ := d j hj
    exact ⟨d1, by rw [List.length_append, List.length_singleton]; omega, by rw [h1 _ d2, d3]⟩
  · rw [h2, s, List.take_add_one, hr]
    simp
theorem end_all {l : List Rw} {cs : List Int} {k : Nat} {ks : List (Int × Rf)} {es : List Int} {e : Int} (h : EndR l cs k (rwA l k).to.length ks es e) (hk : k < l.length) (hm : (rwA l k).to.length ≤ 10000) : EndsR l cs (k + 1) ks (es.set k e) := by
  obtain ⟨a, b, f, c, d, p, q, s⟩ := h
  refine ⟨by omega, by rw [List.length_set, b], f, c, fun j hj => ?_⟩
  rw [List.take_length] at s
  by_cases ej : j = k
  · subst ej
    rw [List.getD_eq_getElem?_getD, List.getElem?_set_self (by omega)]
    exact ⟨p, q, s⟩
  · rw [List.getD_eq_getElem?_getD, List.getElem?_set_ne (by omega), ← List.getD_eq_getElem?_getD]
    exact d j (by omega)
/-- Split once. -/
def nxtG (l : List Rw) (cs : List Int) (i k : Nat) : Bool := decide (cs.getD i 0 = cs.getD k 0 ∧ (rwA l i).to.map (seenA cs) = (rwA l k).to.map (seenA cs))
theorem ends_num {l : List Rw} {cs : List Int} {ks : List (Int × Rf)} {es : List Int} (h : EndsR l cs l.length ks es) : numL es = clsI l.length (nxtG l cs) := by
  obtain ⟨_, hl, f, c, d⟩ := h
  unfold numL
  rw [hl]
  refine clsI_congr fun i hi k hk => ?_
  obtain ⟨a1, a2, a3⟩ := d i hi
  obtain ⟨b1, b2, b3⟩ := d k hk
  unfold eqG nxtG
  rw [decide_eq_decide]
  constructor
  · intro e
    rw [e, b3] at a3
    exact ⟨(Prod.mk.inj a3).1.symm, (Prod.mk.inj a3).2.symm⟩
  · rintro ⟨e1, e2⟩
    refine c.inj _ _ a1 a2 b1 b2 ?_
    rw [a3, b3, e1, e2]
/-! Classes that are never too fine; split again and again. -/
structure RefG (l : List Rw) (G : Nat → Nat → Bool) : Prop where
  eqv : Eqv l.length G
  col : ∀ i k, i < l.length → k < l.length → G i k = true → (rwA l i).c = (rwA l k).c
  same : ∀ i k, Same2 l i k → G i k = true
theorem col_get {l : List Rw} {i : Nat} (h : i < l.length) : (l.map Rw.c).getD i 0 = (rwA l i).c := by
  unfold rwA
  rw [List.getD_eq_getElem?_getD, List.getD_eq_getElem?_getD, List.getElem?_map, List.getElem?_eq_getElem h]
  rfl
theorem refG_0 (l : List Rw) : RefG l (eqG (l.map Rw.c)) := by
  refine ⟨eqG_eqv _ _, fun i k hi hk h => ?_, fun i k h => ?_⟩
  · have := of_decide_eq_true h
    rwa [col_get hi, col_get hk] at this
  · obtain ⟨hi, hk, hl⟩ := same_post h
    refine decide_eq_true ?_
    rw [col_get hi, col_get hk]
    exact hl.c
theorem seen_iff {n : Nat} {G : Nat → Nat → Bool} (h : Eqv n G) (x y : Rf) : seenA (clsI n G) x = seenA (clsI n G) y ↔ LikeR n (fun a b => G a b = true) x y := by
  unfold seenA LikeR
  rw [clsI_len]
  by_cases hx : thB n x = true
  · have tx := th_iff.mp hx
    have cx := clsI_get G (i := x.2.toNat) (n := n) (by omega)
    have lx := cls_lt G (i := x.2.toNat) (n := n) (by omega)
    by_cases hy : thB n y = true
    · have ty := th_iff.mp hy
      have cy := clsI_get G (i := y.2.toNat) (n := n) (by omega)
      rw [if_pos hx, if_pos hy, if_pos (by rw [hx, hy]; rfl), cx, cy]
      have := cls_eq h (i := x.2.toNat) (k := y.2.toNat) (by omega) (by omega)
      show _ ↔ G x.2.toNat y.2.toNat = true
      rw [← this]
      constructor
      · intro e
        have := (Prod.mk.inj e).2
        omega
      · intro e
        rw [e]
    · rw [if_pos hx, if_neg hy, if_neg (by rw [Bool.and_eq_true]; exact fun e => hy e.2), cx]
      constructor
      · intro e
        exfalso
        apply hy
        rw [← e]
        exact th_iff.mpr ⟨rfl, by show (0 : Int) ≤ ((clsA G x.2.toNat : Nat) : Int); omega, by show ((clsA G x.2.toNat : Nat) : Int) < n; omega⟩
      · intro e
        rw [e] at hx
        exact absurd hx hy
  · by_cases hy : thB n y = true
    · have ty := th_iff.mp hy
      have cy := clsI_get G (i := y.2.toNat) (n := n) (by omega)
      have ly := cls_lt G (i := y.2.toNat) (n := n) (by omega)
      rw [if_neg hx, if_pos hy, if_neg (by rw [Bool.and_eq_true]; exact fun e => hx e.1), cy]
      constructor
      · intro e
        exfalso
        apply hx
        rw [e]
        exact th_iff.mpr ⟨rfl, by show (0 : Int) ≤ ((clsA G y.2.toNat : Nat) : Int); omega, by show ((clsA G y.2.toNat : Nat) : Int) < n; omega⟩
      · intro e
        rw [e] at hx
        exact absurd hy hx
    · rw [if_neg hx, if_neg hy, if_neg (by rw [Bool.and_eq_true]; exact fun e => hx e.1)]
theorem nxt_iff {l : List Rw} {G : Nat → Nat → Bool} (h : Eqv l.length G) {i k : Nat} (hi : i < l.length) (hk : k < l.length) :
    nxtG l (clsI l.length G) i k = true ↔ G i k = true ∧ (rwA l i).to.length = (rwA l k).to.length ∧ ∀ m (h1 : m < (rwA l i).to.length) (h2 : m < (rwA l k).to.length), LikeR l.length (fun a b => G a b = true) (rwA l i).to[m] (rwA l k).to[m] := by
  unfold nxtG
  rw [decide_eq_true_iff, clsI_get G hi, clsI_get G hk]
  have e1 : ((clsA G i : Nat) : Int) = ((clsA G k : Nat) : Int) ↔ G i k = true := by
    rw [← cls_eq h hi hk]
    omega
  rw [e1]
  refine and_congr_right fun _ => ?_
  constructor
  · intro e
    have hl : (rwA l i).to.length = (rwA l k).to.length := by simpa using congrArg List.length e
    refine ⟨hl, fun m h1 h2 => (seen_iff h _ _).mp ?_⟩
    have := congrArg (·[m]?) e
    simpa [h1, h2] using this
  · rintro ⟨hl, hm⟩
    apply List.ext_getElem (by simpa using hl)
    intro m h1 h2
    rw [List.length_map] at h1 h2
    rw [List.getElem_map, List.getElem_map]
    exact (seen_iff h _ _).mpr (hm m h1 h2)
theorem refG_next {l : List Rw} {G : Nat → Nat → Bool} (h : RefG l G) : RefG l (nxtG l (clsI l.length G)) := by
  refine ⟨⟨fun i _ => decide_eq_true ⟨rfl, rfl⟩, fun i k _ _ e => decide_eq_true ⟨(of_decide_eq_true e).1.symm, (of_decide_eq_true e).2.symm⟩, fun i j k _ _ _ e e' => decide_eq_true ⟨(of_decide_eq_true e).1.trans (of_decide_eq_true e').1, (of_decide_eq_true e).2.trans (of_decide_eq_true e').2⟩⟩, fun i k hi hk e => h.col i k hi hk ((nxt_iff h.eqv hi hk).mp e).1, fun i k e => ?_⟩
  obtain ⟨hi, hk, hl⟩ := same_post e
  exact (nxt_iff h.eqv hi hk).mpr ⟨h.same i k e, hl.len, fun m h1 h2 => like_mono h.same (hl.to m h1 h2)⟩
/-- A round that tells nothing more apart is the last. -/
theorem refG_end {l : List Rw} {G : Nat → Nat → Bool} (h : RefG l G) (he : clsI l.length (nxtG l (clsI l.length G)) = clsI l.length G) : Tbl l G := by
  have hn := refG_next h
  have hs : ∀ i k, i < l.length → k < l.length → G i k = true → nxtG l (clsI l.length G) i k = true := by
    intro i k hi hk e
    refine (cls_eq hn.eqv hi hk).mp ?_
    have e1 := congrArg (fun t => t.getD i (0 : Int)) he
    have e2 := congrArg (fun t => t.getD k (0 : Int)) he
    simp only [clsI_get _ hi, clsI_get _ hk] at e1 e2
    have e3 := (cls_eq h.eqv hi hk).mpr e
    omega
  intro i k hi hk
  refine ⟨fun e => ?_, h.same i k⟩
  refine same_of (Y := fun a b => a < l.length ∧ b < l.length ∧ G a b = true) (fun a b ⟨ha, hb, hp⟩ => ?_) ⟨hi, hk, e⟩
  obtain ⟨_, q1, q2⟩ := (nxt_iff h.eqv ha hb).mp (hs a b ha hb hp)
  refine ⟨ha, hb, h.col a b ha hb hp, q1, fun m h1 h2 => ?_⟩
  have := q2 m h1 h2
  unfold LikeR at this ⊢
  split
  · next e =>
    rw [if_pos e] at this
    rw [Bool.and_eq_true] at e
    have t1 := th_iff.mp e.1
    have t2 := th_iff.mp e.2
    exact ⟨by omega, by omega, this⟩
  · next e =>
    rw [if_neg e] at this
    exact this
/-! How many pairs are left. -/
theorem countP_lt {α : Type} {p q : α → Bool} : ∀ (l : List α), (∀ x ∈ l, p x = true → q x = true) → ∀ a ∈ l, p a = false → q a = true → l.countP p < l.countP q
  | [], _, _, ha, _, _ => by simp at ha
  | b :: l, h, a, ha, h1, h2 => by
    have hle : l.countP p ≤ l.countP q := List.countP_mono_left fun x hx => h x (by simp [hx])
    rw [List.countP_cons, List.countP_cons]
    by_cases e : a = b
    · subst e
      rw [h1, h2]
      simp
      omega
    · have hal : a ∈ l := by simpa [e] using ha
      have := countP_lt l (fun x hx => h x (by simp [hx])) a hal h1 h2
      have hb := h b (by simp)
      cases hp : p b with
      | false =>
        simp
        split <;> omega
      | true =>
        rw [hb hp]
        simp
        exact this
def pairsN (n : Nat) : List (Nat × Nat) := (List.range n).flatMap fun i => (List.range n).map fun k => (i, k)
theorem pairs_mem {n i k : Nat} : (i, k) ∈ pairsN n ↔ i < n ∧ k < n := by
  unfold pairsN
  simp
def cntG (n : Nat) (G : Nat → Nat → Bool) : Nat := (pairsN n).countP fun p => G p.1 p.2
theorem cntG_lt {n : Nat} {G H : Nat → Nat → Bool} (h : ∀ i k, i < n → k < n → G i k = true → H i k = true) {i k : Nat} (hi : i < n) (hk : k < n) (h1 : G i k = false) (h2 : H i k = true) : cntG n G < cntG n H :=
  countP_lt (pairsN n) (fun x hx => h x.1 x.2 (pairs_mem.mp hx).1 (pairs_mem.mp hx).2) (i, k) (pairs_mem.mpr ⟨hi, hk⟩) h1 h2
theorem refG_less {l : List Rw} {G : Nat → Nat → Bool} (h : RefG l G) (he : clsI l.length (nxtG l (clsI l.length G)) ≠ clsI l.length G) : cntG l.length (nxtG l (clsI l.length G)) < cntG l.length G := by
  have hsub : ∀ i k, i < l.length → k < l.length → nxtG l (clsI l.length G) i k = true → G i k = true := fun i k hi hk e => ((nxt_iff h.eqv hi hk).mp e).1
  by_cases ha : ∃ i k, i < l.length ∧ k < l.length ∧ G i k = true ∧ nxtG l (clsI l.length G) i k = false
  · obtain ⟨i, k, hi, hk, e1, e2⟩ := ha
    exact cntG_lt hsub hi hk e2 e1
  · exfalso
    apply he
    refine clsI_congr fun i hi k hk => ?_
    cases e1 : G i k with
    | true =>
      cases e2 : nxtG l (clsI l.length G) i k with
      | true => rfl
      | false => exact absurd ⟨i, k, hi, hk, e1, e2⟩ ha
    | false =>
      cases e2 : nxtG l (clsI l.length G) i k with
      | true => rw [hsub i k hi hk e2] at e1; cases e1
      | false => rfl
/-! The classes of things. -/
def itG (l : List Rw) : Nat → Nat → Nat → Bool
  | 0 => eqG (l.map Rw.c)
  | k + 1 => nxtG l (clsI l.length (itG l k))
theorem itG_ref (l : List Rw) : ∀ k, RefG l (itG l k)
  | 0 => refG_0 l
  | k + 1 => refG_next (itG_ref l k)
theorem itG_stay {l : List Rw} {j : Nat} (h : clsI l.length (itG l (j + 1)) = clsI l.length (itG l j)) : ∀ m, itG l (j + 1 + m) = itG l (j + 1)
  | 0 => rfl
  | m + 1 => by
    show nxtG l (clsI l.length (itG l (j + 1 + m))) = nxtG l (clsI l.length (itG l j))
    rw [itG_stay h m, h]
theorem itG_down {l : List Rw} : ∀ k, (∀ j < k, clsI l.length (itG l (j + 1)) ≠ clsI l.length (itG l j)) → cntG l.length (itG l k) + k ≤ (pairsN l.length).length
  | 0, _ => List.countP_le_length
  | k + 1, h => by
    have h1 := itG_down k fun j hj => h j (by omega)
    have h2 := refG_less (itG_ref l k) (h k (by omega))
    show cntG l.length (nxtG l (clsI l.length (itG l k))) + (k + 1) ≤ _
    omega
def itMany (l : List Rw) : Nat := (pairsN l.length).length + 1
theorem itG_tbl (l : List Rw) : Tbl l (itG l (itMany l)) := by
  by_cases h : ∃ j, j < itMany l ∧ clsI l.length (itG l (j + 1)) = clsI l.length (itG l j)
  · obtain ⟨j, hj, e⟩ := h
    have e1 : itG l (itMany l) = itG l (j + 1) := by
      have := itG_stay e (itMany l - (j + 1))
      rwa [show j + 1 + (itMany l - (j + 1)) = itMany l by omega] at this
    have e2 := itG_stay e 1
    rw [e1]
    refine refG_end (itG_ref l (j + 1)) ?_
    show clsI l.length (itG l (j + 1 + 1)) = _
    rw [e2]
  · exfalso
    have h1 := itG_down (l := l) (itMany l) fun j hj e => h ⟨j, hj, e⟩
    unfold itMany at h1
    omega
def smB (l : List Rw) (i k : Nat) : Bool := decide (i < l.length) && decide (k < l.length) && itG l (itMany l) i k
theorem smB_iff {l : List Rw} {i k : Nat} : smB l i k = true ↔ Same2 l i k := by
  unfold smB
  rw [Bool.and_eq_true, Bool.and_eq_true, decide_eq_true_iff, decide_eq_true_iff]
  constructor
  · rintro ⟨⟨hi, hk⟩, h⟩
    exact (itG_tbl l i k hi hk).mp h
  · intro h
    obtain ⟨hi, hk, _⟩ := same_post h
    exact ⟨⟨hi, hk⟩, (itG_tbl l i k hi hk).mpr h⟩
theorem smB_tbl (l : List Rw) : Tbl l (smB l) := fun _ _ _ _ => smB_iff
def clsL (l : List Rw) : List Int := clsI l.length (smB l)
theorem clsL_len (l : List Rw) : (clsL l).length = l.length := clsI_len _ _
theorem tbl_cls {l : List Rw} {G : Nat → Nat → Bool} (h : Tbl l G) : clsI l.length G = clsL l :=
  clsI_congr fun i hi k hk => by rw [Bool.eq_iff_iff, h i k hi hk, smB_iff]
theorem clsL_eq {l : List Rw} {i k : Nat} (hi : i < l.length) (hk : k < l.length) : (clsL l).getD i 0 = (clsL l).getD k 0 ↔ Same2 l i k := by
  unfold clsL
  rw [clsI_get _ hi, clsI_get _ hk, ← smB_iff, ← cls_eq (tbl_eqv (smB_tbl l)) hi hk]
  omega
end Go.Proofs.Ytomclhbekmcaeaa
