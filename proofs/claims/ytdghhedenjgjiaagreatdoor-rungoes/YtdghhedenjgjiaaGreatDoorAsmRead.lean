/-
  A text read rune by rune, and line by line: plain functions. No program stands in this text.
-/
import Derived.Test.YtdghhedenjgjiaaGreatDoorAsmMath
namespace Go.Proofs.YtdghhedenjgjiaaGreatDoor
open Go.RowKit

/-- A rune of a text: it is 10 where the byte is 10, and then one byte wide; else none of its bytes is 10. -/
theorem rune_high (s : ByteArray) (p : Nat) (h : p < s.size) (ha : 128 ≤ (s[p]'h).toNat) :
    1 ≤ (Utf8.decode s p).2 ∧ p + (Utf8.decode s p).2 ≤ s.size ∧ (Utf8.decode s p).1 ≠ 10 ∧ ∀ j < (Utf8.decode s p).2, s.get! (p + j) ≠ 10 := by
  have hn : ¬ (s[p]'h).toNat < 128 := by omega
  have key : ∀ k, s.get! (p + k) = 10 → (s.get! (p + k)).toNat = 10 := fun k e => by rw [e]; rfl
  have g0 := get_at s p h
  have z : s.get! (p + 0) ≠ 10 := fun e => by have := key 0 e; rw [g0] at this; omega
  have one : ∀ j < 1, s.get! (p + j) ≠ 10 := by
    intro j hj
    obtain rfl : j = 0 := by omega
    exact z
  simp only [Utf8.decode, g0, hn, if_false]
  split
  · rename_i c1
    simp only [Bool.and_eq_true, beq_iff_eq, decide_eq_true_iff] at c1
    split
    · rename_i c2
      refine ⟨by omega, by simp only []; omega, by simp only []; omega, fun j hj => ?_⟩
      have hj : j < 2 := hj
      rcases (show j = 0 ∨ j = 1 by omega) with rfl | rfl
      · exact z
      · intro e; have := key 1 e; omega
    · exact ⟨by omega, by simp only []; omega, by simp only [Utf8.runeError]; omega, one⟩
  · split
    · rename_i c1
      simp only [Bool.and_eq_true, beq_iff_eq, decide_eq_true_iff] at c1
      split
      · rename_i c2
        simp only [Bool.and_eq_true, decide_eq_true_iff] at c2
        refine ⟨by omega, by simp only []; omega, by simp only []; omega, fun j hj => ?_⟩
        have hj : j < 3 := hj
        rcases (show j = 0 ∨ j = 1 ∨ j = 2 by omega) with rfl | rfl | rfl
        · exact z
        · intro e; have := key 1 e; omega
        · intro e; have := key 2 e; omega
      · exact ⟨by omega, by simp only []; omega, by simp only [Utf8.runeError]; omega, one⟩
    · split
      · rename_i c1
        simp only [Bool.and_eq_true, beq_iff_eq, decide_eq_true_iff] at c1
        split
        · rename_i c2
          simp only [Bool.and_eq_true, decide_eq_true_iff] at c2
          refine ⟨by omega, by simp only []; omega, by simp only []; omega, fun j hj => ?_⟩
          have hj : j < 4 := hj
          rcases (show j = 0 ∨ j = 1 ∨ j = 2 ∨ j = 3 by omega) with rfl | rfl | rfl | rfl
          · exact z
          · intro e; have := key 1 e; omega
          · intro e; have := key 2 e; omega
          · intro e; have := key 3 e; omega
        · exact ⟨by omega, by simp only []; omega, by simp only [Utf8.runeError]; omega, one⟩
      · exact ⟨by omega, by simp only []; omega, by simp only [Utf8.runeError]; omega, one⟩
theorem get_list (s : ByteArray) (p : Nat) (h : p < s.size) : s.data.toList[p]? = some (s.get! p) := by
  have h1 : p < s.data.size := h
  rw [Array.getElem?_toList, Array.getElem?_eq_getElem h1]
  show some (s[p]'h) = _
  have := get_at s p h
  rw [Nat.add_zero] at this
  rw [this]
/-- What a round of the range over a text meets. -/
theorem rune_at (s : ByteArray) (p : Nat) (h : p < s.size) :
    ((Utf8.decode s p).1 = 10 ∧ (Utf8.decode s p).2 = 1 ∧ s.data.toList.drop p = 10 :: s.data.toList.drop (p + 1)) ∨
    ((Utf8.decode s p).1 ≠ 10 ∧ 1 ≤ (Utf8.decode s p).2 ∧ p + (Utf8.decode s p).2 ≤ s.size ∧ (10 : UInt8) ∉ (s.data.toList.drop p).take (Utf8.decode s p).2) := by
  have g0 := get_at s p h
  have hl : p < s.data.toList.length := by rw [size_list]; exact h
  by_cases hb : (s[p]'h).toNat < 128
  · have e := decode_ascii s p h hb
    rw [e]
    by_cases h10 : (s[p]'h).toNat = 10
    · left
      refine ⟨h10, rfl, ?_⟩
      rw [List.drop_eq_getElem_cons hl]
      congr 1
      have := get_list s p h
      rw [List.getElem?_eq_getElem hl] at this
      rw [Option.some.inj this]
      rw [Nat.add_zero] at g0
      rw [g0]
      exact UInt8.toNat_inj.mp h10
    · right
      refine ⟨h10, Nat.le_refl _, h, ?_⟩
      intro hm
      rw [List.drop_eq_getElem_cons hl] at hm
      simp only [List.take_succ_cons, List.take_zero, List.mem_singleton] at hm
      have := get_list s p h
      rw [List.getElem?_eq_getElem hl] at this
      have this := Option.some.inj this
      rw [Nat.add_zero] at g0
      rw [← hm] at this
      rw [g0] at this
      exact h10 (by rw [← this]; rfl)
  · right
    obtain ⟨h1, h2, h3, h4⟩ := rune_high s p h (by omega)
    refine ⟨h3, h1, h2, ?_⟩
    intro hm
    obtain ⟨j, hj⟩ := List.mem_iff_getElem?.mp hm
    rw [List.getElem?_take] at hj
    split at hj
    · rename_i hlt
      rw [List.getElem?_drop, get_list s (p + j) (by omega)] at hj
      exact h4 j hlt (Option.some.inj hj)
    · exact absurd hj (by simp)

/-! The range over a text: 'begin' b, at p. -/
def cutB (s : List UInt8) (b p : Nat) : List UInt8 := (s.drop b).take (p - b)
theorem cut_self (s : List UInt8) (b : Nat) : cutB s b b = [] := by simp [cutB]
theorem cutB_len {s : List UInt8} {b p : Nat} (h : b ≤ p) (h' : p ≤ s.length) : (cutB s b p).length = p - b := by
  unfold cutB; rw [List.length_take, List.length_drop]; omega
theorem cut_grow {s : List UInt8} {b p k : Nat} (h : b ≤ p) : cutB s b p ++ (s.drop p).take k = cutB s b (p + k) := by
  unfold cutB
  have e : s.drop p = (s.drop b).drop (p - b) := by rw [List.drop_drop]; congr 1; omega
  rw [e, show p + k - b = (p - b) + k by omega, List.take_add]
theorem rd_pass {s : ByteArray} {b p k : Nat} {f : List I} {bs : List Nat} (h : b ≤ p) (h10 : (10 : UInt8) ∉ (s.data.toList.drop p).take k) :
    rdF (s.data.toList.drop p) (cutB s.data.toList b p) b f bs = rdF (s.data.toList.drop (p + k)) (cutB s.data.toList b (p + k)) b f bs := by
  have e : s.data.toList.drop p = (s.data.toList.drop p).take k ++ s.data.toList.drop (p + k) := by
    rw [← List.drop_drop, List.take_append_drop]
  conv => lhs; rw [e]
  rw [rd_app _ _ _ _ _ _ h10, cut_grow h]
theorem rd_take {s : ByteArray} {b p : Nat} {f : List I} {bs : List Nat} {x : I} (h : b ≤ p) (hp : p < s.size) (h10 : s.data.toList.drop p = 10 :: s.data.toList.drop (p + 1)) (hx : prs (cutB s.data.toList b p) = some x) :
    rdF (s.data.toList.drop p) (cutB s.data.toList b p) b f bs = rdF (s.data.toList.drop (p + 1)) (cutB s.data.toList (p + 1) (p + 1)) (p + 1) (f ++ [x]) (bs ++ [b]) := by
  rw [h10, rd_line hx, cut_self, cutB_len h (by rw [size_list]; omega)]
  congr 1
  omega
theorem rd_leave {s : ByteArray} {b p : Nat} {f : List I} {bs : List Nat} (h10 : s.data.toList.drop p = 10 :: s.data.toList.drop (p + 1)) (hx : prs (cutB s.data.toList b p) = none) :
    rdF (s.data.toList.drop p) (cutB s.data.toList b p) b f bs = (b, f, bs) := by
  rw [h10, rd_stop hx]
theorem rd_end {s : ByteArray} {b p : Nat} {f : List I} {bs : List Nat} {cur : List UInt8} (h : ¬ p < s.size) : rdF (s.data.toList.drop p) cur b f bs = (b, f, bs) := by
  rw [List.drop_of_length_le (by rw [size_list]; omega), rdF]

/-! The reference: lines first. -/
def linesR : List UInt8 → List UInt8 → List (List UInt8)
  | [], cur => if cur = [] then [] else [cur]
  | c :: l, cur => if c = 10 then (cur ++ [10]) :: linesR l [] else linesR l (cur ++ [c])
def linesL (l : List UInt8) : List (List UInt8) := linesR l []
/-- The lines are read: none where one isn't ended or isn't an instruction's, with the place where it begins. -/
def rlF : List (List UInt8) → Nat → List I → List Nat → Option (List I × List Nat) × Nat
  | [], b, f, bs => (some (f, bs), b)
  | ln :: r, b, f, bs =>
    if ln.getD (ln.length - 1) 0 = 10 then
      match prs (ln.take (ln.length - 1)) with
      | some x => rlF r (b + ln.length) (f ++ [x]) (bs ++ [b])
      | none => (none, b)
    else (none, b)
theorem lines_ne : ∀ (l cur : List UInt8), ∀ ln ∈ linesR l cur, ln ≠ []
  | [], cur, ln, h => by
    rw [linesR] at h
    split at h
    · simp at h
    · obtain rfl := List.mem_singleton.mp h
      assumption
  | c :: l, cur, ln, h => by
    rw [linesR] at h
    split at h
    · rcases List.mem_cons.mp h with rfl | h
      · simp
      · exact lines_ne l [] ln h
    · exact lines_ne l _ ln h
theorem lines_len : ∀ (l cur : List UInt8), (linesR l cur).length ≤ l.length + cur.length
  | [], cur => by
    rw [linesR]
    split
    · simp
    · rename_i h
      have := List.length_pos_iff.mpr h
      simp only [List.length_cons, List.length_nil]; omega
  | c :: l, cur => by
    rw [linesR]
    split
    · have := lines_len l []
      simp only [List.length_cons, List.length_nil] at this ⊢; omega
    · have := lines_len l (cur ++ [c])
      simp only [List.length_cons, List.length_append, List.length_nil] at this ⊢; omega
theorem lines_sum : ∀ (l cur : List UInt8), (linesR l cur).flatten = cur ++ l
  | [], cur => by
    rw [linesR]
    split
    · rename_i h; simp [h]
    · simp
  | c :: l, cur => by
    rw [linesR]
    split
    · rename_i h
      rw [List.flatten_cons, lines_sum l []]
      simp [h]
    · rw [lines_sum l (cur ++ [c])]
      simp
/-- Both ways to read come to the same. -/
theorem rl_rd : ∀ (l cur : List UInt8) (b : Nat) (f : List I) (bs : List Nat), (10 : UInt8) ∉ cur →
    ((rdF l cur b f bs).1 = b + cur.length + l.length ∧ rlF (linesR l cur) b f bs = (some (rdF l cur b f bs).2, b + cur.length + l.length)) ∨
    ((rdF l cur b f bs).1 < b + cur.length + l.length ∧ rlF (linesR l cur) b f bs = (none, (rdF l cur b f bs).1))
  | [], cur, b, f, bs, h => by
    rw [linesR, rdF]
    by_cases hc : cur = []
    · left
      rw [if_pos hc, rlF, hc]
      exact ⟨rfl, rfl⟩
    · right
      have hl := List.length_pos_iff.mpr hc
      rw [if_neg hc]
      refine ⟨by simp; omega, ?_⟩
      rw [rlF, if_neg]
      intro e
      apply h
      rw [List.mem_iff_getElem?]
      refine ⟨cur.length - 1, ?_⟩
      rw [← e, List.getD_eq_getElem?_getD, List.getElem?_eq_getElem (by omega)]
      rfl
  | c :: l, cur, b, f, bs, h => by
    rw [linesR]
    by_cases hc : c = 10
    · subst hc
      rw [if_pos rfl]
      have e1 : (cur ++ [10]).getD ((cur ++ [10]).length - 1) (0 : UInt8) = 10 := by simp
      have e2 : (cur ++ [(10 : UInt8)]).take ((cur ++ [(10 : UInt8)]).length - 1) = cur := by simp
      cases hp : prs cur with
      | some x =>
        rw [rd_line hp, rlF, if_pos e1, e2, hp]
        have e3 : (cur ++ [(10 : UInt8)]).length = cur.length + 1 := by simp
        simp only [e3]
        rcases rl_rd l [] (b + (cur.length + 1)) (f ++ [x]) (bs ++ [b]) (by simp) with ⟨h1, h2⟩ | ⟨h1, h2⟩
        · left
          simp only [List.length_nil, List.length_cons] at h1 h2 ⊢
          refine ⟨?_, ?_⟩
          · rw [show b + cur.length + 1 = b + (cur.length + 1) by omega, h1]; omega
          · show rlF (linesR l []) _ _ _ = _
            rw [h2, show b + cur.length + 1 = b + (cur.length + 1) by omega]
            congr 1; omega
        · right
          simp only [List.length_nil, List.length_cons] at h1 h2 ⊢
          refine ⟨?_, ?_⟩
          · rw [show b + cur.length + 1 = b + (cur.length + 1) by omega]; omega
          · show rlF (linesR l []) _ _ _ = _
            rw [h2, show b + cur.length + 1 = b + (cur.length + 1) by omega]
      | none =>
        right
        rw [rd_stop hp, rlF, if_pos e1, e2, hp]
        exact ⟨by simp; omega, rfl⟩
    · rw [if_neg hc, rdF, if_neg hc]
      have := rl_rd l (cur ++ [c]) b f bs (by
        intro hm
        rcases List.mem_append.mp hm with hm | hm
        · exact h hm
        · exact hc (List.mem_singleton.mp hm).symm)
      simp only [List.length_append, List.length_cons, List.length_nil] at this ⊢
      rw [show b + cur.length + (l.length + 1) = b + (cur.length + (0 + 1)) + l.length by omega]
      exact this
end Go.Proofs.YtdghhedenjgjiaaGreatDoor
