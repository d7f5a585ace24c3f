/-
  What follows of a step, in plain words: what it makes of a state is right again; what only moves; what it keeps; answers; heaps. No program stands in this text.
-/
import Derived.Test.YtdghhedenjgjiaaGreatDoorStepMath
namespace Go.Proofs.YtdghhedenjgjiaaGreatDoor
open Go.RowKit

theorem word_upd {l : Ws} (h : wordsB l = true) (k : Nat) {x : Wd} (hx : wdB x = true) : wordsB (updW l k x) = true := by
  refine words_mk fun i hi => ?_
  unfold updW
  split
  · exact hx
  · exact words_at h hi
theorem flw_how {x : I} {n : Int} (h : Ri x n) (s : Mc) (az : List Int) : (flw x s az).2.2 = 0 ∨ (flw x s az).2.2 = 1 ∨ (flw x s az).2.2 = 3 ∨ (flw x s az).2.2 = 4 ∨ (flw x s az).2.2 = 5 := by
  have h1 := h.o1
  have h2 := h.o2
  unfold flw
  repeat' split
  all_goals first
    | (left; rfl)
    | (right; left; rfl)
    | (right; right; right; right; rfl)
    | (rcases hpHow_cases s.h (s.l x.a.toNat).2 with ⟨e, _⟩ | ⟨e, _⟩ <;> simp [e]; done)
    | (rcases doH_cases (op := x.op) (b := (s.l x.b.toNat).2) (by omega) with e | e <;> simp [e]; done)
theorem flw_ev (x : I) (s : Mc) (az : List Int) : (flw x s az).2.1.length ≤ 1 := by
  unfold flw
  repeat' split
  all_goals simp
theorem flw_words {x : I} {n : Int} (h : Ri x n) {s : Mc} (az : List Int) (hw : wordsB s.l = true) : wordsB (flw x s az).1.l = true := by
  have ha := words_at hw (i := x.a.toNat) (by have := h.a0; have := h.a1; omega)
  have hd := words_at hw (i := x.d.toNat) (by have := h.d0; have := h.d1; omega)
  unfold flw
  repeat' split
  all_goals first
    | exact hw
    | exact word_upd hw _ rfl
    | exact word_upd hw _ ha
    | exact word_upd (word_upd hw _ hd) _ ha
theorem flw_len {x : I} {s : Mc} {az : List Int} (h : (flw x s az).2.2 = 0) : (flw x s az).1.h.length = s.h.length := by
  unfold flw at h ⊢
  repeat' split
  all_goals first
    | rfl
    | (rename_i h1 h2 h3 h4 h5
       rw [if_neg h1, if_neg h2, if_neg h3, if_neg h4, if_pos h5] at h
       rcases hpHow_cases s.h (s.l x.a.toNat).2 with ⟨_, e⟩ | ⟨e, _⟩
       · exact hpSt_len _ e
       · simp [e] at h)
theorem flw_q (x : I) (s : Mc) (az : List Int) : s.q ≤ (flw x s az).1.q := by
  unfold flw
  repeat' split
  all_goals simp
  all_goals omega
theorem last_getD {f : List I} (_h : f.length ≠ 0) {k : Nat} (hk : k + 1 = f.length) : lastI f = f[k]'(by omega) := by
  unfold lastI
  rw [List.getD_eq_getElem?_getD, List.getElem?_eq_getElem (by omega)]
  simp only [Option.getD_some]
  congr 1
  omega
/-- Behind an instruction that is no end there is another one. -/
theorem not_last {f : List I} {s : Mc} (h : mcB f s = true) (h16 : (insA f s.p).op ≠ 16) (h18 : (insA f s.p).op ≠ 18) : s.p + 1 < f.length := by
  obtain ⟨h1, h2, h3, _⟩ := mc_iff.mp h
  obtain ⟨_, h5, _, h7⟩ := right_iff.mp h1
  rcases Int.lt_or_eq_of_le (show s.p + 1 ≤ f.length by omega) with hl | he
  · exact hl
  · exfalso
    rw [last_getD (k := s.p.toNat) h5 (by omega)] at h7
    rw [insA_get h2 h3] at h16 h18
    have h7 := of_decide_eq_true h7
    rcases h7 with e | e
    · exact h16 e
    · exact h18 e
theorem flw_p {f : List I} {s : Mc} (h : mcB f s = true) {az : List Int} (h0 : (flw (insA f s.p) s az).2.2 = 0) : 0 ≤ (flw (insA f s.p) s az).1.p ∧ (flw (insA f s.p) s az).1.p < f.length := by
  have hr := ri_at h
  have hn := not_last h
  have hp := (mc_iff.mp h).2.1
  generalize insA f s.p = x at *
  have ht := hr.t0
  by_cases e16 : x.op = 16
  · have : flw x s az = (⟨s.l, s.h, x.t, s.q⟩, [], 0) := by simp [flw, e16]
    rw [this]
    exact ht (.inl e16)
  · by_cases e18 : x.op = 18
    · have : flw x s az = (⟨s.l, s.h, s.p + 1, s.q⟩, [], 1) := by simp [flw, e18]
      rw [this] at h0
      simp at h0
    · have hn := hn e16 e18
      have hs : 0 ≤ s.p + 1 ∧ s.p + 1 < f.length := by omega
      by_cases e17 : x.op = 17
      · have : flw x s az = (if (s.l x.a.toNat).2 = 0 then (⟨s.l, s.h, x.t, s.q⟩, [], 0) else (⟨s.l, s.h, s.p + 1, s.q⟩, [], 0)) := by simp [flw, e17]
        rw [this]
        split
        · exact ht (.inr e17)
        · exact hs
      · have : (flw x s az).1.p = s.p + 1 := by
          unfold flw
          repeat' split
          all_goals first | rfl | (exfalso; omega)
        rw [this]
        exact hs
/-- What a step that goes on makes of a state is right again. -/
theorem stp_right {f : List I} {s : Mc} {az : List Int} (h : mcB f s = true) (h0 : (stp f s az).how = 0) : mcB f (stp f s az).s = true := by
  have hr := ri_at h
  have hm := mc_iff.mp h
  have hp := flw_p h (az := az)
  unfold stp at h0 ⊢
  split at h0
  · cases h0
  · rename_i hk
    rw [if_neg hk]
    split at h0
    · rename_i e
      rw [if_pos e]
      exact mc_iff.mpr ⟨hm.1, (hp e).1, (hp e).2, by rw [flw_len e]; exact hm.2.2.2.1, Int.le_trans hm.2.2.2.2.1 (flw_q _ _ _), flw_words hr az hm.2.2.2.2.2⟩
    · rename_i e
      split at h0
      · cases h0
      · exact absurd h0 e
/-- What one that ends makes of it is that state. -/
theorem stp_ends {f : List I} {s : Mc} {az : List Int} (h : mcB f s = true) (h0 : (stp f s az).how ≠ 0) : (stp f s az).s = s ∧ (stp f s az).ev = [] ∧ 1 ≤ (stp f s az).how ∧ (stp f s az).how ≤ 5 := by
  have hw := flw_how (ri_at h) s az
  unfold stp at h0 ⊢
  split at h0
  · rename_i hk
    rw [if_pos hk]
    exact ⟨rfl, rfl, by simp, by simp⟩
  · rename_i hk
    rw [if_neg hk]
    split at h0
    · exact absurd rfl h0
    · rename_i e
      rw [if_neg e]
      split at h0
      · rename_i e1
        rw [if_pos e1]
        exact ⟨rfl, rfl, by simp, by simp⟩
      · rename_i e1
        rw [if_neg e1]
        refine ⟨rfl, rfl, ?_, ?_⟩
        · show 1 ≤ (flw (insA f s.p) s az).2.2
          omega
        · show (flw (insA f s.p) s az).2.2 ≤ 5
          omega
theorem stp_ev {f : List I} {s : Mc} {az : List Int} : (stp f s az).ev.length ≤ 1 := by
  unfold stp
  repeat' split
  all_goals first | exact flw_ev _ _ _ | simp
theorem knw_moves {x : I} (h : movesB x.op = true) (l : Ws) : knwB x l = true := by
  have h := of_decide_eq_true h
  unfold knwB
  rw [uses_class]
  have : usesQ x.op = 0 := by unfold usesQ; rw [if_neg (by omega), if_neg (by omega)]
  rw [this]
  rfl
theorem flw_moves {x : I} (h : movesB x.op = true) (s : Mc) (az : List Int) : (flw x s az).2.2 = 0 ∧ (flw x s az).2.1 = [] ∧ (flw x s az).1.h = s.h ∧ (flw x s az).1.q = s.q := by
  have h := of_decide_eq_true h
  unfold flw
  repeat' split
  all_goals first | exact ⟨rfl, rfl, rfl, rfl⟩ | (exfalso; omega)
/-- What only moves makes no event, changes no heap, never ends. -/
theorem stp_moves {f : List I} {s : Mc} (h : movesB (insA f s.p).op = true) (az : List Int) : (stp f s az).how = 0 ∧ (stp f s az).ev = [] ∧ (stp f s az).s.h = s.h ∧ (stp f s az).s.q = s.q := by
  obtain ⟨h1, h2, h3, h4⟩ := flw_moves h s az
  unfold stp
  rw [if_neg (by rw [knw_moves h]; decide), if_pos h1]
  exact ⟨rfl, h2, h3, h4⟩
/-- The heap: as many words; only a Store changes one. -/
theorem flw_heap {x : I} {s : Mc} {az : List Int} (h : (flw x s az).2.2 = 0) : (flw x s az).1.h = s.h ∨ (x.op = 14 ∧ ∃ k v, (flw x s az).1.h = s.h.set k v) := by
  by_cases h5 : x.op = 14
  · have E : flw x s az = (⟨s.l, hpSt s.h (s.l x.a.toNat).2 (s.l x.b.toNat).2, s.p + 1, s.q⟩, [], hpHow s.h (s.l x.a.toNat).2) := by simp [flw, h5]
    rw [E] at h ⊢
    rcases hpHow_cases s.h (s.l x.a.toNat).2 with ⟨_, e⟩ | ⟨e, _⟩
    · exact .inr ⟨h5, _, _, hpSt_in _ e⟩
    · simp [e] at h
  · left
    unfold flw
    repeat' split
    all_goals first | rfl | (exfalso; omega)
theorem stp_heap {f : List I} {s : Mc} {az : List Int} (h : mcB f s = true) : (stp f s az).s.h = s.h ∨ ((insA f s.p).op = 14 ∧ ∃ k v, (stp f s az).s.h = s.h.set k v) := by
  by_cases h0 : (stp f s az).how = 0
  · unfold stp at h0 ⊢
    split at h0
    · cases h0
    · rename_i hk
      rw [if_neg hk]
      split at h0
      · rename_i e
        rw [if_pos e]
        exact flw_heap e
      · rename_i e
        split at h0
        · cases h0
        · exact absurd h0 e
  · rw [(stp_ends h h0).1]
    exact .inl rfl
/-- Answers behind the one that is next make no difference. -/
theorem flw_more {x : I} {s : Mc} {az bz : List Int} (hq : 0 ≤ s.q) (h : (flw x s az).2.2 ≠ 5) : flw x s (az ++ bz) = flw x s az := by
  by_cases e15 : x.op = 15
  · have E : ∀ cz, flw x s cz = (if (cz.length : Int) ≤ s.q then (⟨s.l, s.h, s.p + 1, s.q⟩, [], 5)
      else (⟨updW s.l x.d.toNat (true, cz.getD s.q.toNat 0), s.h, s.p + 1, s.q + 1⟩, [(x.n, (s.l x.a.toNat).2, cz.getD s.q.toNat 0)], 0)) := fun cz => by simp [flw, e15]
    rw [E] at h
    split at h
    · exact absurd rfl h
    · rename_i hl
      rw [E, E, if_neg hl, if_neg (by rw [List.length_append]; omega)]
      have : (az ++ bz).getD s.q.toNat 0 = az.getD s.q.toNat 0 := by
        rw [List.getD_eq_getElem?_getD, List.getD_eq_getElem?_getD, List.getElem?_append_left (by omega)]
      rw [this]
  · unfold flw
    simp only [if_neg e15]
theorem stp_more {f : List I} {s : Mc} {az bz : List Int} (h : mcB f s = true) (h5 : (stp f s az).how ≠ 5) : stp f s (az ++ bz) = stp f s az := by
  have hq := (mc_iff.mp h).2.2.2.2.1
  by_cases hk : knwB (insA f s.p) s.l = false
  · unfold stp
    rw [if_pos hk, if_pos hk]
  · have hf : (flw (insA f s.p) s az).2.2 ≠ 5 := by
      intro e
      apply h5
      unfold stp
      rw [if_neg hk, if_neg (by rw [e]; decide), if_neg (by rw [e]; decide)]
      exact e
    unfold stp
    rw [flw_more hq hf]
/-- What an instruction does not name stays, and makes no difference. -/
theorem upd_comm {l : Ws} {k j : Nat} (h : k ≠ j) (x y : Wd) : updW (updW l k x) j y = updW (updW l j y) k x := by
  funext i
  unfold updW
  by_cases h1 : i = j
  · subst h1
    simp [Ne.symm h]
  · by_cases h2 : i = k
    · subst h2; simp [h1]
    · simp [h1, h2]
theorem upd_get {l : Ws} {k j : Nat} (h : k ≠ j) (x : Wd) : updW l k x j = l j := if_neg (Ne.symm h)
theorem upd_here {l : Ws} {k : Nat} (x : Wd) : updW l k x k = x := if_pos rfl
def putL (s : Mc) (j : Nat) (w : Wd) : Mc := ⟨updW s.l j w, s.h, s.p, s.q⟩
theorem flw_put {x : I} {j : Nat} (hd : x.d.toNat ≠ j) (ha : x.a.toNat ≠ j) (hb : x.b.toNat ≠ j) (s : Mc) (w : Wd) (az : List Int) :
    flw x (putL s j w) az = (putL (flw x s az).1 j w, (flw x s az).2) ∧ (flw x s az).1.l j = s.l j := by
  have ga : (putL s j w).l x.a.toNat = s.l x.a.toNat := upd_get (Ne.symm ha) w
  have gb : (putL s j w).l x.b.toNat = s.l x.b.toNat := upd_get (Ne.symm hb) w
  have gd : (putL s j w).l x.d.toNat = s.l x.d.toNat := upd_get (Ne.symm hd) w
  have hh : (putL s j w).h = s.h := rfl
  have hp : (putL s j w).p = s.p := rfl
  have hq : (putL s j w).q = s.q := rfl
  have u1 : ∀ v, updW (putL s j w).l x.d.toNat v = updW (updW s.l x.d.toNat v) j w := fun v => upd_comm (Ne.symm hd) w v
  have u2 : ∀ u v, updW (updW (putL s j w).l x.a.toNat u) x.d.toNat v = updW (updW (updW s.l x.a.toNat u) x.d.toNat v) j w := fun u v => by
    show updW (updW (updW s.l j w) x.a.toNat u) x.d.toNat v = _
    rw [upd_comm (Ne.symm ha), upd_comm (Ne.symm hd)]
  have A1 : (flw x s az).1.l j = s.l j := by
    unfold flw
    repeat' split
    all_goals first
      | rfl
      | exact upd_get hd _
      | exact (upd_get hd _).trans (upd_get ha _)
  refine ⟨?_, A1⟩
  unfold flw
  rw [ga, gb, gd, hh, hp, hq]
  simp only [u1, u2]
  by_cases h1 : x.op = 1
  · simp only [if_pos h1]
    rfl
  simp only [if_neg h1]
  by_cases h2 : x.op = 2
  · simp only [if_pos h2]
    rfl
  simp only [if_neg h2]
  by_cases h3 : x.op = 3
  · simp only [if_pos h3]
    rfl
  simp only [if_neg h3]
  by_cases h13 : x.op = 13
  · simp only [if_pos h13]
    rfl
  simp only [if_neg h13]
  by_cases h14 : x.op = 14
  · simp only [if_pos h14]
    rfl
  simp only [if_neg h14]
  by_cases h15 : x.op = 15
  · simp only [if_pos h15]
    split <;> rfl
  simp only [if_neg h15]
  by_cases h16 : x.op = 16
  · simp only [if_pos h16]
    rfl
  simp only [if_neg h16]
  by_cases h17 : x.op = 17
  · simp only [if_pos h17]
    split <;> rfl
  simp only [if_neg h17]
  by_cases h18 : x.op = 18
  · simp only [if_pos h18]
    rfl
  simp only [if_neg h18]
  rfl
theorem knw_put {x : I} {j : Nat} (ha : x.a.toNat ≠ j) (hb : x.b.toNat ≠ j) (l : Ws) (w : Wd) : knwB x (updW l j w) = knwB x l := by
  unfold knwB
  rw [uses_class]
  split
  · simp [upd_get (Ne.symm ha), upd_get (Ne.symm hb)]
  · split
    · simp [upd_get (Ne.symm ha)]
    · rfl
theorem stp_put {f : List I} {s : Mc} {j : Nat} (hd : (insA f s.p).d.toNat ≠ j) (ha : (insA f s.p).a.toNat ≠ j) (hb : (insA f s.p).b.toNat ≠ j) (w : Wd) (az : List Int) :
    (stp f (putL s j w) az).s = putL (stp f s az).s j w ∧ (stp f s az).s.l j = s.l j := by
  obtain ⟨h1, h2⟩ := flw_put hd ha hb s w az
  have hk : knwB (insA f s.p) (putL s j w).l = knwB (insA f s.p) s.l := knw_put ha hb s.l w
  have hi : insA f (putL s j w).p = insA f s.p := rfl
  unfold stp
  rw [hi, hk, h1]
  repeat' split
  all_goals first
    | exact ⟨rfl, rfl⟩
    | exact ⟨rfl, h2⟩
theorem put_right {f : List I} {s : Mc} {j : Nat} {w : Wd} (h : mcB f s = true) (hw : wdB w = true) : mcB f (putL s j w) = true := by
  have hm := mc_iff.mp h
  exact mc_iff.mpr ⟨hm.1, hm.2.1, hm.2.2.1, hm.2.2.2.1, hm.2.2.2.2.1, word_upd hm.2.2.2.2.2 j hw⟩
theorem put_back (l : Ws) (j : Nat) (w : Wd) : updW (updW l j w) j (l j) = l := by
  funext i
  unfold updW
  by_cases h : i = j
  · subst h; simp
  · simp [h]
end Go.Proofs.YtdghhedenjgjiaaGreatDoor
