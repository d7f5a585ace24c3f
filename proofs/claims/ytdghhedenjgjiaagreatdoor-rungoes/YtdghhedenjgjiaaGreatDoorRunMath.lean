/-
  Layer 8 in plain words: traces, runs, what follows of them. No program stands in this text.
-/
import Derived.Test.YtdghhedenjgjiaaGreatDoorStepFacts
namespace Go.Proofs.YtdghhedenjgjiaaGreatDoor
open Go.RowKit

/-- A trace: events, how it stands, its value, its heap, steps, work. -/
structure Tr where
  ev : List Ev
  how : Int
  val : Int
  hp : List Int
  st : Int
  wk : Int
def wk1 (x : I) : Int := if movesB x.op = true then 0 else 1
def noT : Tr := ⟨[], 0, 0, [], 0, 0⟩
/-- A trace with a step more. -/
def oneT (t : Tr) (r : Tl) (x : I) : Tr := ⟨t.ev ++ r.ev, r.how, r.val, r.hp, t.st + 1, t.wk + wk1 x⟩
/-- So many steps more. -/
def onR (f : List I) (az : List Int) : Nat → Mc → Tr → Tr × Mc
  | 0, m, t => (t, m)
  | k + 1, m, t => if t.how = 0 then onR f az k (stp f m az).s (oneT t (stp f m az) (insA f m.p)) else (t, m)
theorem onR_ended {f : List I} {az : List Int} {t : Tr} (h : t.how ≠ 0) (m : Mc) : ∀ k, onR f az k m t = (t, m)
  | 0 => rfl
  | k + 1 => by unfold onR; rw [if_neg h]
theorem onR_step {f : List I} {az : List Int} {t : Tr} (h : t.how = 0) (m : Mc) (k : Nat) : onR f az (k + 1) m t = onR f az k (stp f m az).s (oneT t (stp f m az) (insA f m.p)) := by
  rw [onR, if_pos h]
theorem onR_add {f : List I} {az : List Int} (b : Nat) : ∀ (a : Nat) (m : Mc) (t : Tr), onR f az (a + b) m t = onR f az b (onR f az a m t).2 (onR f az a m t).1
  | 0, m, t => by rw [Nat.zero_add]; rfl
  | a + 1, m, t => by
    by_cases h : t.how = 0
    · rw [show a + 1 + b = (a + b) + 1 by omega, onR_step h, onR_step h, onR_add b a]
    · rw [onR_ended h, onR_ended h, onR_ended h]
theorem wk1_bound (x : I) : 0 ≤ wk1 x ∧ wk1 x ≤ 1 := by
  unfold wk1
  split <;> omega
/-- What holds of a run: bounds. -/
structure Rn (f : List I) (az : List Int) (n : Nat) (m : Mc) (t : Tr) (k : Nat) (t' : Tr) (m' : Mc) : Prop where
  right : mcB f m' = true
  len : m'.h.length = n
  pre : ∃ es, t'.ev = t.ev ++ es
  st1 : t.st ≤ t'.st
  st2 : t'.st ≤ t.st + k
  goes : t'.how = 0 → t'.st = t.st + k
  wk1 : t.wk ≤ t'.wk
  wk2 : t'.wk - t.wk ≤ t'.st - t.st
  hp : t'.hp.length ≤ 16
  evl : t'.ev.length ≤ t.ev.length + k
  how : 0 ≤ t'.how ∧ t'.how ≤ 5
theorem stp_len {f : List I} {s : Mc} {az : List Int} (h : mcB f s = true) : (stp f s az).s.h.length = s.h.length := by
  rcases stp_heap (az := az) h with e | ⟨_, k, v, e⟩ <;> rw [e]
  rw [List.length_set]
theorem stp_hp {f : List I} {s : Mc} {az : List Int} (h : mcB f s = true) : (stp f s az).hp.length ≤ 16 := by
  have h16 := (mc_iff.mp h).2.2.2.1
  unfold stp
  repeat' split
  all_goals simp
  exact h16
theorem stp_keeps {f : List I} {s : Mc} {az : List Int} (h : mcB f s = true) : mcB f (stp f s az).s = true := by
  by_cases e : (stp f s az).how = 0
  · exact stp_right h e
  · rw [(stp_ends h e).1]
    exact h
theorem stp_how {f : List I} {s : Mc} {az : List Int} (h : mcB f s = true) : 0 ≤ (stp f s az).how ∧ (stp f s az).how ≤ 5 := by
  by_cases e : (stp f s az).how = 0
  · omega
  · have := stp_ends h e
    omega
theorem onR_rn {f : List I} {az : List Int} : ∀ (k : Nat) (m : Mc) (t : Tr), mcB f m = true → t.hp.length ≤ 16 → (0 ≤ t.how ∧ t.how ≤ 5) → Rn f az m.h.length m t k (onR f az k m t).1 (onR f az k m t).2 := by
  intro k
  induction k with
  | zero => exact fun m t h ht hw => ⟨h, rfl, ⟨[], by simp [onR]⟩, by simp [onR], by simp [onR], by simp [onR], by simp [onR], by simp [onR], ht, by simp [onR], hw⟩
  | succ k ih =>
    intro m t h ht hw
    by_cases e : t.how = 0
    · rw [onR_step e]
      have r := ih (stp f m az).s (oneT t (stp f m az) (insA f m.p)) (stp_keeps h) (stp_hp h) (stp_how h)
      have b := wk1_bound (insA f m.p)
      have b2 := stp_ev (f := f) (s := m) (az := az)
      generalize onR f az k (stp f m az).s (oneT t (stp f m az) (insA f m.p)) = R at *
      obtain ⟨es, hes⟩ := r.pre
      have r3 := r.st1; have r4 := r.st2; have r5 := r.goes; have r6 := r.wk1; have r7 := r.wk2; have r8 := r.evl
      simp only [oneT, List.length_append] at r3 r4 r5 r6 r7 r8 hes
      exact ⟨r.right, by rw [r.len, stp_len h], ⟨(stp f m az).ev ++ es, by rw [hes, List.append_assoc]⟩, by omega, by omega, fun h0 => by have := r5 h0; omega, by omega, by omega, r.hp, by omega, r.how⟩
    · rw [onR_ended e]
      exact ⟨h, rfl, ⟨[], by simp⟩, by simp, by simp; omega, fun h0 => absurd h0 e, by simp, by simp, ht, by simp, hw⟩
theorem flw_asks (x : I) (s : Mc) (az : List Int) : ((flw x s az).2.1 = [] ∧ (flw x s az).1.q = s.q) ∨ (x.op = 15 ∧ s.q < az.length ∧ (flw x s az).1.q = s.q + 1 ∧ ∃ a, (flw x s az).2.1 = [(x.n, a, az.getD s.q.toNat 0)]) := by
  by_cases h15 : x.op = 15
  · have E : flw x s az = (if (az.length : Int) ≤ s.q then (⟨s.l, s.h, s.p + 1, s.q⟩, [], 5)
      else (⟨updW s.l x.d.toNat (true, az.getD s.q.toNat 0), s.h, s.p + 1, s.q + 1⟩, [(x.n, (s.l x.a.toNat).2, az.getD s.q.toNat 0)], 0)) := by simp [flw, h15]
    rw [E]
    split
    · exact .inl ⟨rfl, rfl⟩
    · exact .inr ⟨h15, by omega, rfl, _, rfl⟩
  · left
    unfold flw
    repeat' split
    all_goals first | exact ⟨rfl, rfl⟩ | (exfalso; omega)
/-- What leaves all as it was does so for ever. -/
theorem stp_still {f : List I} {m : Mc} {az : List Int} (h0 : (stp f m az).how = 0) (hq : (stp f m az).s.q = m.q) : (stp f m az).ev = [] ∧ (stp f m az).val = 0 ∧ (stp f m az).hp = [] := by
  unfold stp at h0 hq ⊢
  split at h0
  · cases h0
  · rename_i hk
    rw [if_neg hk] at hq ⊢
    split at h0
    · rename_i e
      rw [if_pos e] at hq ⊢
      refine ⟨?_, rfl, rfl⟩
      rcases flw_asks (insA f m.p) m az with ⟨a, _⟩ | ⟨_, _, e2, _⟩
      · exact a
      · have hq' : (flw (insA f m.p) m az).1.q = m.q := hq
        omega
    · rename_i e
      split at h0
      · cases h0
      · exact absurd h0 e
theorem onR_still {f : List I} {m : Mc} {az : List Int} (hs : (stp f m az).s = m) (h0 : (stp f m az).how = 0) : ∀ (k : Nat) (t : Tr), t.how = 0 → t.val = 0 → t.hp = [] →
    onR f az k m t = (⟨t.ev, 0, 0, [], t.st + k, t.wk + k * wk1 (insA f m.p)⟩, m) := by
  obtain ⟨e1, e2, e3⟩ := stp_still h0 (by rw [hs])
  intro k
  induction k with
  | zero =>
    intro t h1 h2 h3
    obtain ⟨ev, how, val, hp, st, wk⟩ := t
    simp only at h1 h2 h3
    subst h1 h2 h3
    simp [onR]
  | succ k ih =>
    intro t h1 h2 h3
    rw [onR_step h1, hs, ih (oneT t (stp f m az) (insA f m.p)) h0 e2 e3]
    simp only [oneT, e1, List.append_nil, Prod.mk.injEq, Tr.mk.injEq, true_and, and_true]
    refine ⟨by push_cast; omega, ?_⟩
    rw [Int.add_assoc, show ((k + 1 : Nat) : Int) = (k : Int) + 1 by push_cast; rfl, Int.add_mul, Int.one_mul, Int.add_comm (wk1 _)]
/-- States that are alike in their 24 places. -/
theorem flw_far {x : I} {n : Int} (h : Ri x n) (s : Mc) (az : List Int) {j : Nat} (hj : 24 ≤ j) : (flw x s az).1.l j = s.l j := by
  have h1 := h.d0; have h2 := h.d1; have h3 := h.a0; have h4 := h.a1
  have hd : x.d.toNat ≠ j := by omega
  have ha : x.a.toNat ≠ j := by omega
  unfold flw
  repeat' split
  all_goals first
    | rfl
    | exact upd_get hd _
    | exact (upd_get hd _).trans (upd_get ha _)
theorem stp_far {f : List I} {s : Mc} {az : List Int} (h : mcB f s = true) {j : Nat} (hj : 24 ≤ j) : (stp f s az).s.l j = s.l j := by
  have := flw_far (ri_at h) s az hj
  unfold stp
  repeat' split
  all_goals first | rfl | exact this
theorem stp_same {f : List I} {s : Mc} {az : List Int} (h : mcB f s = true) (hl : ∀ i < 24, (stp f s az).s.l i = s.l i) (hh : (stp f s az).s.h = s.h) (hp : (stp f s az).s.p = s.p) (hq : (stp f s az).s.q = s.q) : (stp f s az).s = s := by
  have hf : (stp f s az).s.l = s.l := by
    funext j
    by_cases hj : j < 24
    · exact hl j hj
    · exact stp_far h (by omega)
  generalize (stp f s az).s = r at *
  obtain ⟨a, b, c, d⟩ := r
  obtain ⟨a', b', c', d'⟩ := s
  simp only at hf hh hp hq
  subst hf hh hp hq
  rfl
/-- More answers. -/
theorem onR_more {f : List I} {az bz : List Int} : ∀ (k : Nat) (m : Mc) (t : Tr), mcB f m = true → ((onR f az k m t).1.how ≠ 5 → onR f (az ++ bz) k m t = onR f az k m t) ∧ ∃ es, (onR f (az ++ bz) k m t).1.ev = (onR f az k m t).1.ev ++ es := by
  intro k
  induction k with
  | zero => exact fun m t _ => ⟨fun _ => rfl, [], by simp [onR]⟩
  | succ k ih =>
    intro m t h
    by_cases e : t.how = 0
    · by_cases e5 : (stp f m az).how = 5
      · obtain ⟨s1, s2, _⟩ := stp_ends h (az := az) (by omega)
        have he : onR f az (k + 1) m t = (oneT t (stp f m az) (insA f m.p), m) := by
          rw [onR_step e, onR_ended (by show (stp f m az).how ≠ 0; omega), s1]
        rw [he]
        refine ⟨fun h5 => absurd e5 h5, ?_⟩
        have ht : (oneT t (stp f m az) (insA f m.p)).ev = t.ev := by simp [oneT, s2]
        rw [ht]
        have hq := (mc_iff.mp h).2.2.2
        rw [onR_step e]
        have r : ∃ es, (onR f (az ++ bz) k (stp f m (az ++ bz)).s (oneT t (stp f m (az ++ bz)) (insA f m.p))).1.ev = (oneT t (stp f m (az ++ bz)) (insA f m.p)).ev ++ es :=
          (onR_rn k _ _ (stp_keeps h) (stp_hp h) (stp_how h)).pre
        obtain ⟨es, hes⟩ := r
        exact ⟨(stp f m (az ++ bz)).ev ++ es, by rw [hes]; simp [oneT]⟩
      · have hm := stp_more (bz := bz) h e5
        rw [onR_step e, onR_step e, hm]
        exact ih _ _ (stp_keeps h)
    · rw [onR_ended e, onR_ended e]
      exact ⟨fun _ => rfl, [], by simp⟩
/-- Events and answers. -/
structure Ans (az : List Int) (m : Mc) (t : Tr) : Prop where
  q : m.q = t.ev.length
  le : t.ev.length ≤ az.length
  ans : ∀ i (h : i < t.ev.length), (t.ev[i]).2.2 = az.getD i 0
  num : ∀ i (h : i < t.ev.length), 0 ≤ (t.ev[i]).1 ∧ (t.ev[i]).1 ≤ 99
theorem num_of {x : I} {n : Int} (h : chkV x n = 0) (h15 : x.op = 15) : 0 ≤ x.n ∧ x.n ≤ 99 := by
  obtain ⟨_, _, h3⟩ := chk_zero h
  have hm : (78 : Int) ∈ letters x.op := by rw [h15]; decide +kernel
  have := h3 78 hm
  have e : fieldV x 78 = x.n := rfl
  rw [e] at this
  have hf : (if x.n < 0 ∨ 99 < x.n then (1 : Int) else 0) = 0 := this
  split at hf <;> omega
theorem num_at {f : List I} {s : Mc} (h : mcB f s = true) (h15 : (insA f s.p).op = 15) : 0 ≤ (insA f s.p).n ∧ (insA f s.p).n ≤ 99 := by
  have h' := mc_iff.mp h
  have hr := right_iff.mp h'.1
  refine num_of (n := f.length) ?_ h15
  rw [insA_get h'.2.1 h'.2.2.1]
  exact hr.2.2.1 _ (List.getElem_mem _)
theorem stp_asks {f : List I} {s : Mc} {az : List Int} (h : mcB f s = true) : ((stp f s az).ev = [] ∧ (stp f s az).s.q = s.q) ∨ ((insA f s.p).op = 15 ∧ s.q < az.length ∧ (stp f s az).s.q = s.q + 1 ∧ ∃ a, (stp f s az).ev = [((insA f s.p).n, a, az.getD s.q.toNat 0)]) := by
  by_cases h0 : (stp f s az).how = 0
  · have hw := flw_asks (insA f s.p) s az
    unfold stp at h0 ⊢
    split at h0
    · cases h0
    · rename_i hk
      rw [if_neg hk]
      split at h0
      · rename_i e
        rw [if_pos e]
        exact hw
      · rename_i e
        split at h0
        · cases h0
        · exact absurd h0 e
  · obtain ⟨e1, e2, _⟩ := stp_ends h h0
    exact .inl ⟨e2, by rw [e1]⟩
theorem ans_step {f : List I} {m : Mc} {az : List Int} {t : Tr} (h : mcB f m = true) (a : Ans az m t) : Ans az (stp f m az).s (oneT t (stp f m az) (insA f m.p)) := by
  have aq := a.q
  have al := a.le
  rcases stp_asks (az := az) h with ⟨e1, e2⟩ | ⟨h15, hq, e2, c, e1⟩
  · have : (oneT t (stp f m az) (insA f m.p)).ev = t.ev := by simp [oneT, e1]
    refine ⟨?_, ?_, ?_, ?_⟩
    · rw [this, e2]; exact aq
    · rw [this]; exact al
    · rw [this]; exact a.ans
    · rw [this]; exact a.num
  · have : (oneT t (stp f m az) (insA f m.p)).ev = t.ev ++ [((insA f m.p).n, c, az.getD m.q.toNat 0)] := by simp [oneT, e1]
    refine ⟨?_, ?_, ?_, ?_⟩
    · rw [this, e2, List.length_append, aq]; simp
    · rw [this, List.length_append]
      show t.ev.length + 1 ≤ az.length
      omega
    · rw [this]
      intro i hi
      rw [List.length_append] at hi
      have hi : i < t.ev.length + 1 := hi
      by_cases hl : i < t.ev.length
      · rw [List.getElem_append_left hl]
        exact a.ans i hl
      · obtain rfl : i = t.ev.length := by omega
        rw [List.getElem_append_right (Nat.le_refl _)]
        simp [aq]
    · rw [this]
      intro i hi
      rw [List.length_append] at hi
      have hi : i < t.ev.length + 1 := hi
      by_cases hl : i < t.ev.length
      · rw [List.getElem_append_left hl]
        exact a.num i hl
      · obtain rfl : i = t.ev.length := by omega
        rw [List.getElem_append_right (Nat.le_refl _)]
        simp
        exact num_at h h15
theorem onR_ans {f : List I} {az : List Int} : ∀ (k : Nat) (m : Mc) (t : Tr), mcB f m = true → Ans az m t → Ans az (onR f az k m t).2 (onR f az k m t).1 := by
  intro k
  induction k with
  | zero => exact fun _ _ _ a => a
  | succ k ih =>
    intro m t h a
    by_cases e : t.how = 0
    · rw [onR_step e]
      exact ih _ _ (stp_keeps h) (ans_step h a)
    · rw [onR_ended e]
      exact a
/-- A case's beginning. -/
def begL (rs : Nat → Int) : Ws := fun i => if i < 8 then (true, rs i) else (false, 0)
def begM (rs : Nat → Int) (zs : List Int) : Mc := ⟨begL rs, zs, 0, 0⟩
theorem beg_right {f : List I} {rs : Nat → Int} {zs : List Int} (hf : (chkF f).2 = 0) (hz : zs.length ≤ 16) : mcB f (begM rs zs) = true := by
  have h5 := (right_iff.mp hf).2.1
  refine mc_iff.mpr ⟨hf, Int.le_refl 0, by show (0 : Int) < f.length; omega, hz, Int.le_refl 0, words_mk fun i _ => ?_⟩
  show wdB (begL rs i) = true
  unfold begL wdB
  split <;> simp
/-- Which cases are right. -/
def caseB (zs az : List Int) (n : Int) : Bool := decide (zs.length ≤ 16 ∧ az.length ≤ 5000 ∧ 0 ≤ n ∧ n ≤ 5000)
/-- A run. -/
def runR (f : List I) (rs : Nat → Int) (zs az : List Int) (n : Nat) : Tr × Mc := onR f az n (begM rs zs) noT
end Go.Proofs.YtdghhedenjgjiaaGreatDoor
