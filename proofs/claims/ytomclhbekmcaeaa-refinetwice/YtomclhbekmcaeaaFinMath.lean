/-
  Layer 12 in plain words: things that can't be told apart: the greatest relation that leads from pairs to pairs; that it is an equivalence; how its classes are numbered. No program stands in this text.
-/
import Derived.Test.YtomclhbekmcaeaaGfpMath
namespace Go.Proofs.Ytomclhbekmcaeaa
open Go.RowKit

/-! Things. -/
/-- A reference: its kind and number. -/
abbrev Rf := Int × Int
/-- A thing: its colour, and what it leads to. -/
structure Rw where
  c : Int
  to : List Rf
def noRw : Rw := ⟨0, []⟩
def rwA (l : List Rw) (i : Nat) : Rw := l.getD i noRw
def thB (n : Nat) (x : Rf) : Bool := decide (x.1 = 0 ∧ 0 ≤ x.2 ∧ x.2 < n)
theorem th_iff {n : Nat} {x : Rf} : thB n x = true ↔ x.1 = 0 ∧ 0 ≤ x.2 ∧ x.2 < n := decide_eq_true_iff
/-- References that can't be told apart, by pairs that can't. -/
def LikeR (n : Nat) (X : Nat → Nat → Prop) (x y : Rf) : Prop := if (thB n x && thB n y) = true then X x.2.toNat y.2.toNat else x = y
theorem like_mono {n : Nat} {X Y : Nat → Nat → Prop} (h : ∀ i k, X i k → Y i k) {x y : Rf} (hl : LikeR n X x y) : LikeR n Y x y := by
  unfold LikeR at hl ⊢
  split
  · next e => rw [if_pos e] at hl; exact h _ _ hl
  · next e => rw [if_neg e] at hl; exact hl
structure LikeW (n : Nat) (X : Nat → Nat → Prop) (a b : Rw) : Prop where
  c : a.c = b.c
  len : a.to.length = b.to.length
  to : ∀ m (h1 : m < a.to.length) (h2 : m < b.to.length), LikeR n X a.to[m] b.to[m]
def Fa (l : List Rw) (X : Nat × Nat → Prop) (p : Nat × Nat) : Prop := p.1 < l.length ∧ p.2 < l.length ∧ LikeW l.length (fun i k => X (i, k)) (rwA l p.1) (rwA l p.2)
theorem fa_mono (l : List Rw) {X Y : Nat × Nat → Prop} (h : ∀ a, X a → Y a) (p : Nat × Nat) (hp : Fa l X p) : Fa l Y p :=
  ⟨hp.1, hp.2.1, hp.2.2.c, hp.2.2.len, fun m h1 h2 => like_mono (fun i k hx => h (i, k) hx) (hp.2.2.to m h1 h2)⟩
/-- Two things that can't be told apart. -/
def Same2 (l : List Rw) (i k : Nat) : Prop := Gfp (Fa l) (i, k)
theorem same_post {l : List Rw} {i k : Nat} (h : Same2 l i k) : i < l.length ∧ k < l.length ∧ LikeW l.length (Same2 l) (rwA l i) (rwA l k) := gfp_post (fa_mono l) h
theorem same_of {l : List Rw} {Y : Nat → Nat → Prop} (h : ∀ i k, Y i k → i < l.length ∧ k < l.length ∧ LikeW l.length Y (rwA l i) (rwA l k)) {i k : Nat} (hy : Y i k) : Same2 l i k :=
  gfp_of (Y := fun p => Y p.1 p.2) (fun p hp => h p.1 p.2 hp) hy
theorem likeR_refl {n : Nat} {X : Nat → Nat → Prop} (h : ∀ i < n, X i i) (x : Rf) : LikeR n X x x := by
  unfold LikeR
  split
  · next e =>
    rw [Bool.and_eq_true] at e
    have := th_iff.mp e.1
    exact h _ (by omega)
  · rfl
theorem same_refl {l : List Rw} {i : Nat} (h : i < l.length) : Same2 l i i :=
  same_of (Y := fun a b => a = b ∧ a < l.length) (fun a b hab => by
    obtain ⟨rfl, ha⟩ := hab
    exact ⟨ha, ha, rfl, rfl, fun m h1 h2 => likeR_refl (fun j hj => ⟨rfl, hj⟩) _⟩) ⟨rfl, h⟩
theorem same_symm {l : List Rw} {i k : Nat} (h : Same2 l i k) : Same2 l k i :=
  same_of (Y := fun a b => Same2 l b a) (fun a b hab => by
    obtain ⟨h1, h2, h3⟩ := same_post hab
    refine ⟨h2, h1, h3.c.symm, h3.len.symm, fun m q1 q2 => ?_⟩
    have := h3.to m q2 q1
    unfold LikeR at this ⊢
    split
    · next e =>
      rw [Bool.and_comm] at e
      rw [if_pos e] at this
      exact this
    · next e =>
      rw [Bool.and_comm] at e
      rw [if_neg e] at this
      exact this.symm) h
theorem same_trans {l : List Rw} {i j k : Nat} (h : Same2 l i j) (h' : Same2 l j k) : Same2 l i k :=
  same_of (Y := fun a b => ∃ c, Same2 l a c ∧ Same2 l c b) (fun a b hab => by
    obtain ⟨c, p, q⟩ := hab
    obtain ⟨p1, p2, p3⟩ := same_post p
    obtain ⟨_, q2, q3⟩ := same_post q
    refine ⟨p1, q2, p3.c.trans q3.c, p3.len.trans q3.len, fun m r1 r2 => ?_⟩
    have rc : m < (rwA l c).to.length := by rw [← p3.len]; exact r1
    have s1 := p3.to m r1 rc
    have s2 := q3.to m rc r2
    unfold LikeR at s1 s2 ⊢
    by_cases ha : thB l.length (rwA l a).to[m] = true
    · by_cases hc : thB l.length (rwA l c).to[m] = true
      · by_cases hb : thB l.length (rwA l b).to[m] = true
        · rw [if_pos (by rw [ha, hc]; rfl)] at s1
          rw [if_pos (by rw [hc, hb]; rfl)] at s2
          rw [if_pos (by rw [ha, hb]; rfl)]
          exact ⟨_, s1, s2⟩
        · exfalso
          rw [if_neg (by rw [hc]; simpa using hb)] at s2
          rw [← s2] at hb
          exact hb hc
      · exfalso
        rw [if_neg (by rw [ha]; simpa using hc)] at s1
        rw [← s1] at hc
        exact hc ha
    · have e1 : (rwA l a).to[m] = (rwA l c).to[m] := by
        rw [if_neg (by rw [Bool.and_eq_true]; exact fun e => ha e.1)] at s1
        exact s1
      have e2 : (rwA l c).to[m] = (rwA l b).to[m] := by
        rw [if_neg (by rw [Bool.and_eq_true, ← e1]; exact fun e => ha e.1)] at s2
        exact s2
      rw [if_neg (by rw [Bool.and_eq_true]; exact fun e => ha e.1), e1, e2]) ⟨j, h, h'⟩
/-! Classes, numbered as their first things stand. -/
/-- The first thing of i's class. -/
def frst (G : Nat → Nat → Bool) (i : Nat) : Nat := ((List.range i).find? (G i)).getD i
/-- How many classes begin ahead of i. -/
def many (G : Nat → Nat → Bool) : Nat → Nat
  | 0 => 0
  | i + 1 => many G i + if frst G i = i then 1 else 0
def clsA (G : Nat → Nat → Bool) (i : Nat) : Nat := many G (frst G i)
structure Eqv (n : Nat) (G : Nat → Nat → Bool) : Prop where
  refl : ∀ i < n, G i i = true
  symm : ∀ i k, i < n → k < n → G i k = true → G k i = true
  trans : ∀ i j k, i < n → j < n → k < n → G i j = true → G j k = true → G i k = true
theorem frst_le (G : Nat → Nat → Bool) (i : Nat) : frst G i ≤ i := by
  unfold frst
  cases e : (List.range i).find? (G i) with
  | none => exact Nat.le_refl i
  | some k =>
    have := List.mem_range.mp (List.mem_of_find?_eq_some e)
    exact Nat.le_of_lt this
theorem frst_in {n : Nat} {G : Nat → Nat → Bool} (h : Eqv n G) {i : Nat} (hi : i < n) : G i (frst G i) = true := by
  unfold frst
  cases e : (List.range i).find? (G i) with
  | none => exact h.refl i hi
  | some k => exact List.find?_some e
theorem frst_min {G : Nat → Nat → Bool} {i k : Nat} (hk : k < frst G i) : G i k = false := by
  have hki : k < i := Nat.lt_of_lt_of_le hk (frst_le G i)
  unfold frst at hk
  cases e : (List.range i).find? (G i) with
  | none =>
    have := List.find?_eq_none.mp e k (List.mem_range.mpr hki)
    simpa using this
  | some m =>
    rw [e] at hk
    obtain ⟨_, xs, ys, h2, h3⟩ := List.find?_eq_some_iff_append.mp e
    have hl : xs.length = m := by
      have h4 : (List.range i)[xs.length]? = some m := by rw [h2]; simp
      rw [List.getElem?_range (by
        have : xs.length < (List.range i).length := by rw [h2]; simp
        simpa using this)] at h4
      simpa using h4
    have hk' : k ∈ xs := by
      have h4 : (List.range i)[k]? = some k := by rw [List.getElem?_range hki]
      have hkm : k < m := hk
      rw [h2, List.getElem?_append_left (by omega)] at h4
      exact List.mem_of_getElem? h4
    have := h3 k hk'
    simpa using this
theorem frst_eq {n : Nat} {G : Nat → Nat → Bool} (h : Eqv n G) {i k : Nat} (hi : i < n) (hk : k < n) : frst G i = frst G k ↔ G i k = true := by
  have li := frst_le G i
  have lk := frst_le G k
  have gi := frst_in h hi
  have gk := frst_in h hk
  constructor
  · intro e
    rw [e] at gi
    exact h.trans i _ k hi (by omega) hk gi (h.symm _ _ hk (by omega) gk)
  · intro e
    rcases Nat.lt_trichotomy (frst G i) (frst G k) with hl | he | hg
    · exfalso
      have := frst_min hl
      rw [h.trans k i _ hk hi (by omega) (h.symm _ _ hi hk e) gi] at this
      cases this
    · exact he
    · exfalso
      have := frst_min hg
      rw [h.trans i k _ hi hk (by omega) e gk] at this
      cases this
theorem frst_frst {n : Nat} {G : Nat → Nat → Bool} (h : Eqv n G) {i : Nat} (hi : i < n) : frst G (frst G i) = frst G i :=
  ((frst_eq h hi (Nat.lt_of_le_of_lt (frst_le G i) hi)).mpr (frst_in h hi)).symm
theorem many_mono (G : Nat → Nat → Bool) {i k : Nat} (h : i ≤ k) : many G i ≤ many G k := by
  induction h with
  | refl => exact Nat.le_refl _
  | step _ ih => exact Nat.le_trans ih (by rw [many]; omega)
theorem many_lt {G : Nat → Nat → Bool} {i k : Nat} (h : i < k) (hf : frst G i = i) : many G i < many G k := by
  have h1 : many G (i + 1) = many G i + 1 := by
    rw [many, if_pos hf]
  have := many_mono G (show i + 1 ≤ k from h)
  omega
/-- Two things have one class just if they can't be told apart. -/
theorem cls_eq {n : Nat} {G : Nat → Nat → Bool} (h : Eqv n G) {i k : Nat} (hi : i < n) (hk : k < n) : clsA G i = clsA G k ↔ G i k = true := by
  rw [← frst_eq h hi hk]
  unfold clsA
  constructor
  · intro e
    rcases Nat.lt_trichotomy (frst G i) (frst G k) with hl | he | hg
    · have := many_lt hl (frst_frst h hi)
      omega
    · exact he
    · have := many_lt hg (frst_frst h hk)
      omega
  · intro e
    rw [e]
/-- Relations that are alike on the first n things have the same classes there. -/
theorem frst_congr {G H : Nat → Nat → Bool} {i : Nat} (h : ∀ k < i, G i k = H i k) : frst G i = frst H i := by
  unfold frst
  congr 1
  have : ∀ (l : List Nat), (∀ k ∈ l, k < i) → l.find? (G i) = l.find? (H i) := by
    intro l
    induction l with
    | nil => intro _; rfl
    | cons x l ih =>
      intro hl
      rw [List.find?_cons, List.find?_cons, h x (hl x (by simp)), ih fun k hk => hl k (by simp [hk])]
  exact this _ fun k hk => List.mem_range.mp hk
theorem many_congr {G H : Nat → Nat → Bool} : ∀ {n : Nat}, (∀ i < n, ∀ k < i, G i k = H i k) → many G n = many H n
  | 0, _ => rfl
  | n + 1, h => by
    rw [many, many, many_congr fun i hi => h i (by omega), frst_congr (h n (by omega))]
theorem cls_congr {G H : Nat → Nat → Bool} {n : Nat} (h : ∀ i < n, ∀ k < i, G i k = H i k) {i : Nat} (hi : i < n) : clsA G i = clsA H i := by
  unfold clsA
  have e := frst_congr (h i hi)
  rw [← e]
  exact many_congr fun a ha => h a (by have := frst_le G i; omega)
/-! Things that are images of things. -/
structure Hom (l' l : List Rw) (f : Nat → Nat) : Prop where
  lt : ∀ i < l'.length, f i < l.length
  c : ∀ i < l'.length, (rwA l' i).c = (rwA l (f i)).c
  len : ∀ i < l'.length, (rwA l' i).to.length = (rwA l (f i)).to.length
  ref : ∀ i < l'.length, ∀ m (h1 : m < (rwA l' i).to.length) (h2 : m < (rwA l (f i)).to.length),
    (thB l'.length (rwA l' i).to[m] = true ∧ thB l.length (rwA l (f i)).to[m] = true ∧ f ((rwA l' i).to[m].2.toNat) = (rwA l (f i)).to[m].2.toNat) ∨
    (thB l'.length (rwA l' i).to[m] = false ∧ thB l.length (rwA l (f i)).to[m] = false ∧ (rwA l' i).to[m] = (rwA l (f i)).to[m])
/-- Things can't be told apart just if their images can't. -/
theorem hom_same {l' l : List Rw} {f : Nat → Nat} (h : Hom l' l f) {i k : Nat} (hi : i < l'.length) (hk : k < l'.length) : Same2 l' i k ↔ Same2 l (f i) (f k) := by
  constructor
  · intro hs
    refine same_of (Y := fun a b => ∃ i k, Same2 l' i k ∧ f i = a ∧ f k = b) (fun a b hab => ?_) ⟨i, k, hs, rfl, rfl⟩
    obtain ⟨i, k, hp, rfl, rfl⟩ := hab
    obtain ⟨p1, p2, p3⟩ := same_post hp
    refine ⟨h.lt i p1, h.lt k p2, (h.c i p1).symm.trans (p3.c.trans (h.c k p2)), (h.len i p1).symm.trans (p3.len.trans (h.len k p2)), fun m q1 q2 => ?_⟩
    have r1 : m < (rwA l' i).to.length := by rw [h.len i p1]; exact q1
    have r2 : m < (rwA l' k).to.length := by rw [h.len k p2]; exact q2
    have hl := p3.to m r1 r2
    unfold LikeR at hl ⊢
    rcases h.ref i p1 m r1 q1 with ⟨a1, a2, a3⟩ | ⟨a1, a2, a3⟩ <;> rcases h.ref k p2 m r2 q2 with ⟨b1, b2, b3⟩ | ⟨b1, b2, b3⟩
    · rw [if_pos (by rw [a1, b1]; rfl)] at hl
      rw [if_pos (by rw [a2, b2]; rfl)]
      exact ⟨_, _, hl, a3, b3⟩
    · exfalso
      rw [if_neg (by rw [b1]; simp)] at hl
      rw [hl, b1] at a1
      cases a1
    · exfalso
      rw [if_neg (by rw [a1]; simp)] at hl
      rw [hl, b1] at a1
      cases a1
    · rw [if_neg (by rw [a1]; simp)] at hl
      rw [if_neg (by rw [a2]; simp), ← a3, ← b3]
      exact hl
  · intro hs
    refine same_of (Y := fun a b => a < l'.length ∧ b < l'.length ∧ Same2 l (f a) (f b)) (fun a b hab => ?_) ⟨hi, hk, hs⟩
    obtain ⟨p1, p2, hp⟩ := hab
    obtain ⟨_, _, p3⟩ := same_post hp
    refine ⟨p1, p2, (h.c a p1).trans (p3.c.trans (h.c b p2).symm), (h.len a p1).trans (p3.len.trans (h.len b p2).symm), fun m r1 r2 => ?_⟩
    have q1 : m < (rwA l (f a)).to.length := by rw [← h.len a p1]; exact r1
    have q2 : m < (rwA l (f b)).to.length := by rw [← h.len b p2]; exact r2
    have hl := p3.to m q1 q2
    unfold LikeR at hl ⊢
    rcases h.ref a p1 m r1 q1 with ⟨a1, a2, a3⟩ | ⟨a1, a2, a3⟩ <;> rcases h.ref b p2 m r2 q2 with ⟨b1, b2, b3⟩ | ⟨b1, b2, b3⟩
    · rw [if_pos (by rw [a2, b2]; rfl)] at hl
      rw [if_pos (by rw [a1, b1]; rfl)]
      have t1 := th_iff.mp a1
      have t2 := th_iff.mp b1
      exact ⟨by omega, by omega, by rw [a3, b3]; exact hl⟩
    · exfalso
      rw [if_neg (by rw [b2]; simp)] at hl
      rw [hl, b2] at a2
      cases a2
    · exfalso
      rw [if_neg (by rw [a2]; simp)] at hl
      rw [hl, b2] at a2
      cases a2
    · rw [if_neg (by rw [a2]; simp)] at hl
      rw [if_neg (by rw [a1]; simp), a3, b3]
      exact hl
/-- Any classes that stand are within these. -/
theorem stands_same {l : List Rw} {o : Nat → Int} (h : ∀ i k, i < l.length → k < l.length → o i = o k → LikeW l.length (fun a b => o a = o b) (rwA l i) (rwA l k)) {i k : Nat} (hi : i < l.length) (hk : k < l.length) (e : o i = o k) : Same2 l i k :=
  same_of (Y := fun a b => a < l.length ∧ b < l.length ∧ o a = o b) (fun a b ⟨p1, p2, hp⟩ => by
    have hl := h a b p1 p2 hp
    refine ⟨p1, p2, hl.c, hl.len, fun m h1 h2 => ?_⟩
    have := hl.to m h1 h2
    unfold LikeR at this ⊢
    split
    · next e =>
      rw [if_pos e] at this
      rw [Bool.and_eq_true] at e
      have t1 := th_iff.mp e.1
      have t2 := th_iff.mp e.2
      exact ⟨by omega, by omega, this⟩
    · next e =>
      rw [if_neg e] at this
      exact this) ⟨hi, hk, e⟩
/-- Things of one colour that lead to the same. -/
theorem same_like {l : List Rw} {i k : Nat} (hi : i < l.length) (hk : k < l.length) (hc : (rwA l i).c = (rwA l k).c) (ht : (rwA l i).to = (rwA l k).to) : Same2 l i k := by
  have hr : rwA l i = rwA l k := by
    have : ∀ a b : Rw, a.c = b.c → a.to = b.to → a = b := fun a b h1 h2 => by cases a; cases b; simp at h1 h2; rw [h1, h2]
    exact this _ _ hc ht
  refine same_of (Y := fun a b => a < l.length ∧ b < l.length ∧ rwA l a = rwA l b ∨ Same2 l a b) (fun a b hab => ?_) (.inl ⟨hi, hk, hr⟩)
  rcases hab with ⟨p1, p2, e⟩ | hs
  · refine ⟨p1, p2, by rw [e], by rw [e], fun m h1 h2 => ?_⟩
    have : (rwA l a).to[m] = (rwA l b).to[m] := by congr 1; rw [e]
    rw [this]
    exact likeR_refl (fun j hj => .inr (same_refl hj)) _
  · obtain ⟨p1, p2, p3⟩ := same_post hs
    exact ⟨p1, p2, p3.c, p3.len, fun m h1 h2 => like_mono (fun _ _ => .inr) (p3.to m h1 h2)⟩
/-- A table of pairs that can't be told apart. -/
def Tbl (l : List Rw) (G : Nat → Nat → Bool) : Prop := ∀ i k, i < l.length → k < l.length → (G i k = true ↔ Same2 l i k)
theorem tbl_eqv {l : List Rw} {G : Nat → Nat → Bool} (h : Tbl l G) : Eqv l.length G :=
  ⟨fun i hi => (h i i hi hi).mpr (same_refl hi), fun i k hi hk e => (h k i hk hi).mpr (same_symm ((h i k hi hk).mp e)),
    fun i j k hi hj hk e e' => (h i k hi hk).mpr (same_trans ((h i j hi hj).mp e) ((h j k hj hk).mp e'))⟩
/-- Pairs that were found so far: none that can't be told apart; and at the end, where no more is found, all others. -/
theorem tbl_end {l : List Rw} {A : Nat → Nat → Bool} (h1 : ∀ i k, Same2 l i k → A i k = false) (h2 : ∀ i k, i < l.length → k < l.length → A i k = false → LikeW l.length (fun a b => A a b = false) (rwA l i) (rwA l k)) : Tbl l fun i k => !A i k := by
  intro i k hi hk
  constructor
  · intro e
    have e' : A i k = false := by simpa using e
    refine same_of (Y := fun a b => a < l.length ∧ b < l.length ∧ A a b = false) (fun a b ⟨p1, p2, hp⟩ => ?_) ⟨hi, hk, e'⟩
    have hl := h2 a b p1 p2 hp
    refine ⟨p1, p2, hl.c, hl.len, fun m q1 q2 => ?_⟩
    have := hl.to m q1 q2
    unfold LikeR at this ⊢
    split
    · next e =>
      rw [if_pos e] at this
      rw [Bool.and_eq_true] at e
      have t1 := th_iff.mp e.1
      have t2 := th_iff.mp e.2
      exact ⟨by omega, by omega, this⟩
    · next e =>
      rw [if_neg e] at this
      exact this
  · intro e
    show (!A i k) = true
    rw [h1 i k e]
    rfl
/-- What is found apart is apart: none of those that can't be told. -/
theorem tbl_step {l : List Rw} {A : Nat → Nat → Bool} (h1 : ∀ i k, Same2 l i k → A i k = false) {i k : Nat} (hn : ¬ LikeW l.length (fun a b => A a b = false) (rwA l i) (rwA l k)) : ¬ Same2 l i k := by
  intro hs
  apply hn
  obtain ⟨_, _, p⟩ := same_post hs
  exact ⟨p.c, p.len, fun m q1 q2 => like_mono h1 (p.to m q1 q2)⟩
/-! Things that are there twice. -/
def shR (n : Nat) (x : Rw) : Rw := ⟨x.c, x.to.map fun r => if r.1 = 0 then (r.1, r.2 + n) else r⟩
def dblL (l : List Rw) : List Rw := l ++ l.map (shR l.length)
theorem dbl_len (l : List Rw) : (dblL l).length = l.length + l.length := by simp [dblL]
theorem dbl_fst {l : List Rw} {i : Nat} (h : i < l.length) : rwA (dblL l) i = rwA l i := by
  unfold rwA dblL
  rw [List.getD_eq_getElem?_getD, List.getD_eq_getElem?_getD, List.getElem?_append_left h]
theorem dbl_snd {l : List Rw} {i : Nat} (h : i < l.length) : rwA (dblL l) (l.length + i) = shR l.length (rwA l i) := by
  unfold rwA dblL
  rw [List.getD_eq_getElem?_getD, List.getD_eq_getElem?_getD, List.getElem?_append_right (by omega), Nat.add_sub_cancel_left, List.getElem?_map, List.getElem?_eq_getElem h]
  rfl
theorem dbl_hom {l : List Rw} (h : ∀ i < l.length, ∀ r ∈ (rwA l i).to, r.1 = 0 → 0 ≤ r.2 ∧ r.2 < l.length) : Hom (dblL l) l fun i => if i < l.length then i else i - l.length := by
  have hl := dbl_len l
  have cs : ∀ i < (dblL l).length, (i < l.length ∧ rwA (dblL l) i = rwA l i) ∨ (¬ i < l.length ∧ i - l.length < l.length ∧ rwA (dblL l) i = shR l.length (rwA l (i - l.length))) := by
    intro i hi
    by_cases e : i < l.length
    · exact .inl ⟨e, dbl_fst e⟩
    · refine .inr ⟨e, by omega, ?_⟩
      have := dbl_snd (l := l) (i := i - l.length) (by omega)
      rwa [show l.length + (i - l.length) = i by omega] at this
  have lt : ∀ i < (dblL l).length, (if i < l.length then i else i - l.length) < l.length := by
    intro i hi
    split <;> omega
  refine ⟨lt, fun i hi => ?_, fun i hi => ?_, fun i hi m h1 h2 => ?_⟩
  · rcases cs i hi with ⟨e, e1⟩ | ⟨e, _, e1⟩
    · rw [if_pos e, e1]
    · rw [if_neg e, e1]
      rfl
  · rcases cs i hi with ⟨e, e1⟩ | ⟨e, _, e1⟩
    · rw [if_pos e, e1]
    · rw [if_neg e, e1]
      simp [shR]
  · rcases cs i hi with ⟨e, e1⟩ | ⟨e, e0, e1⟩
    · have h2' : m < (rwA l i).to.length := by rw [← e1]; exact h1
      have ea : (rwA (dblL l) i).to[m] = (rwA l i).to[m] := by congr 1; rw [e1]
      have eb : (rwA l (if i < l.length then i else i - l.length)).to[m] = (rwA l i).to[m] := by congr 1; rw [if_pos e]
      rw [ea, eb]
      by_cases hz : (rwA l i).to[m].1 = 0
      · have hr := h i e _ (List.getElem_mem h2') hz
        refine .inl ⟨th_iff.mpr ⟨hz, hr.1, by omega⟩, th_iff.mpr ⟨hz, hr⟩, ?_⟩
        rw [if_pos (by omega)]
      · refine .inr ⟨?_, ?_, rfl⟩
        · exact decide_eq_false fun t => hz t.1
        · exact decide_eq_false fun t => hz t.1
    · have h2' : m < (rwA l (i - l.length)).to.length := by
        have : (rwA (dblL l) i).to.length = (rwA l (i - l.length)).to.length := by rw [e1]; simp [shR]
        omega
      have eb : (rwA l (if i < l.length then i else i - l.length)).to[m] = (rwA l (i - l.length)).to[m] := by congr 1; rw [if_neg e]
      have ea : (rwA (dblL l) i).to[m] = if (rwA l (i - l.length)).to[m].1 = 0 then ((rwA l (i - l.length)).to[m].1, (rwA l (i - l.length)).to[m].2 + l.length) else (rwA l (i - l.length)).to[m] := by
        have : (rwA (dblL l) i).to[m] = (shR l.length (rwA l (i - l.length))).to[m]'(by rw [← e1]; exact h1) := by congr 1; rw [e1]
        rw [this]
        simp [shR]
      rw [ea, eb]
      by_cases hz : (rwA l (i - l.length)).to[m].1 = 0
      · have hr := h (i - l.length) e0 _ (List.getElem_mem h2') hz
        rw [if_pos hz]
        refine .inl ⟨th_iff.mpr ⟨hz, by show 0 ≤ (rwA l (i - l.length)).to[m].2 + (l.length : Int); omega, by show (rwA l (i - l.length)).to[m].2 + (l.length : Int) < ((dblL l).length : Int); omega⟩, th_iff.mpr ⟨hz, hr⟩, ?_⟩
        show (if ((rwA l (i - l.length)).to[m].2 + (l.length : Int)).toNat < l.length then ((rwA l (i - l.length)).to[m].2 + (l.length : Int)).toNat else ((rwA l (i - l.length)).to[m].2 + (l.length : Int)).toNat - l.length) = _
        rw [if_neg (by omega)]
        omega
      · rw [if_neg hz]
        refine .inr ⟨?_, ?_, rfl⟩
        · exact decide_eq_false fun t => hz t.1
        · exact decide_eq_false fun t => hz t.1
/-- Both copies have the class that the thing has alone. -/
theorem dbl_cls {l : List Rw} (h : ∀ i < l.length, ∀ r ∈ (rwA l i).to, r.1 = 0 → 0 ≤ r.2 ∧ r.2 < l.length) {G H : Nat → Nat → Bool} (hG : Tbl l G) (hH : Tbl (dblL l) H) {i : Nat} (hi : i < l.length) : clsA H i = clsA G i ∧ clsA H (l.length + i) = clsA G i := by
  have hm := dbl_hom h
  have hl := dbl_len l
  have e1 : ∀ a < l.length, ∀ b < a, H a b = G a b := by
    intro a ha b hb
    have h1 := hH a b (by omega) (by omega)
    have h2 := hG a b ha (by omega)
    have h3 := hom_same hm (i := a) (k := b) (by omega) (by omega)
    rw [if_pos ha, if_pos (show b < l.length by omega)] at h3
    rw [Bool.eq_iff_iff, h1, h3, h2]
  have c1 := cls_congr e1 hi
  refine ⟨c1, ?_⟩
  rw [← c1]
  refine (cls_eq (tbl_eqv hH) (by omega) (by omega)).mpr ?_
  refine (hH _ _ (by omega) (by omega)).mpr ((hom_same hm (by omega) (by omega)).mpr ?_)
  rw [if_neg (by omega), if_pos hi, Nat.add_sub_cancel_left]
  exact same_refl hi
end Go.Proofs.Ytomclhbekmcaeaa
