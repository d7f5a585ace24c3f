/-
  Places and their texts, as plain functions on numbers and lists of bytes; how a text is scanned rune by rune; and that what is scanned is the place whose text it is. No program stands in this text.
-/
import Derived.Test.YtdghhedenjgjiaaGreatDoorBase
namespace Go.Proofs.YtdghhedenjgjiaaGreatDoor
open Go.RowKit

def rightB (l : Int) : Bool := decide (0 ≤ l ∧ l < 24)
def regB (l : Int) : Bool := decide (0 ≤ l ∧ l < 8)
/-- A place's text. -/
def locL (k : Nat) : List UInt8 := if k < 8 then 114 :: Lib.decDigits k else 115 :: Lib.decDigits (k - 8)
def locB (k : Nat) : ByteArray := ⟨(locL k).toArray⟩
theorem locB_toList (k : Nat) : (locB k).data.toList = locL k := by simp [locB]
/-- The place whose text it is. -/
def locOf (l : List UInt8) : Option Nat := (List.range 24).find? fun k => locL k == l
def locN (l : List UInt8) : Int := ((locOf l).getD 0 : Nat)
def locE (l : List UInt8) : Int := if (locOf l).isSome then 0 else 2

theorem locOf_text : ∀ k < 24, locOf (locL k) = some k := by decide +kernel
theorem locOf_some {l : List UInt8} {k : Nat} (h : locOf l = some k) : k < 24 ∧ locL k = l := by
  unfold locOf at h
  have h1 := List.find?_some h
  have h2 := List.mem_of_find?_eq_some h
  exact ⟨by simpa using h2, by simpa using h1⟩
theorem locOf_none {l : List UInt8} (h : ∀ k < 24, locL k ≠ l) : locOf l = none := by
  unfold locOf
  rw [List.find?_eq_none]
  intro k hk
  have := h k (by simpa using hk)
  simpa using this
theorem locL_size : ∀ k < 24, 2 ≤ (locL k).length ∧ (locL k).length ≤ 3 := by decide +kernel

def grpF (r : Int) : Int := if r = 114 then 0 else if r = 115 then 8 else 0
def grpC (r : Int) : Int := if r = 114 then 8 else if r = 115 then 16 else 0
def appB (n r : Int) : Bool := decide (48 ≤ r ∧ r ≤ 57 ∧ n ≠ 0)
def appV (n r : Int) : Int := if 48 ≤ r ∧ r ≤ 57 ∧ n ≠ 0 then max n 0 * 10 + (r - 48) else 0
def fin (f n : Int) : Int × Int := if n < 0 then (0, 2) else (f + n, 0)
/-- How loc.Parse goes over a text. -/
def scan (s : ByteArray) : Nat → Nat → Int → Int → Int → Int × Int
  | 0, _, f, _, n => fin f n
  | k + 1, p, f, c, n =>
    if p < s.size then
      if p = 0 then scan s k (p + (Utf8.decode s p).2) (grpF (Utf8.decode s p).1) (grpC (Utf8.decode s p).1) n
      else if appB n (Utf8.decode s p).1 = true ∧ appV n (Utf8.decode s p).1 < c then scan s k (p + (Utf8.decode s p).2) f c (appV n (Utf8.decode s p).1)
      else (0, 2)
    else fin f n
theorem scan_end (s : ByteArray) (k p : Nat) (f c n : Int) (h : ¬ p < s.size) : scan s k p f c n = fin f n := by
  cases k with
  | zero => rfl
  | succ k => rw [scan, if_neg h]

theorem scan_first {s : ByteArray} {k p : Nat} {f c n : Int} (h : p < s.size) (h0 : ((p : Int) == 0) = true) : scan s (k + 1) p f c n = scan s k (p + (Utf8.decode s p).2) (grpF (Utf8.decode s p).1) (grpC (Utf8.decode s p).1) n := by
  have : p = 0 := by simpa using h0
  rw [scan, if_pos h, if_pos this]
theorem scan_more {s : ByteArray} {k p : Nat} {f c n : Int} (h : p < s.size) (h0 : ((p : Int) == 0) = false) (h1 : appB n (Utf8.decode s p).1 = true) (h2 : appV n (Utf8.decode s p).1 < c) : scan s (k + 1) p f c n = scan s k (p + (Utf8.decode s p).2) f c (appV n (Utf8.decode s p).1) := by
  have : ¬ p = 0 := by simpa using h0
  rw [scan, if_pos h, if_neg this, if_pos ⟨h1, h2⟩]
theorem scan_bad {s : ByteArray} {k p : Nat} {f c n : Int} (h : p < s.size) (h0 : ((p : Int) == 0) = false) (h1 : ¬ (appB n (Utf8.decode s p).1 = true ∧ appV n (Utf8.decode s p).1 < c)) : scan s (k + 1) p f c n = (0, 2) := by
  have : ¬ p = 0 := by simpa using h0
  rw [scan, if_pos h, if_neg this, if_neg h1]
theorem grp_in (r : Int) : (0 ≤ grpF r ∧ grpF r ≤ 8) ∧ (0 ≤ grpC r ∧ grpC r ≤ 16) := by unfold grpF grpC; split <;> (try split) <;> omega
theorem appV_in {n r : Int} (_h : -1 ≤ n) : -1 ≤ appV n r := by unfold appV; split <;> omega

theorem scan_texts : ∀ k < 24, scan (locB k) (locB k).size 0 0 0 (-1) = ((k : Int), 0) := by decide +kernel

/-- The digits that were read (-1: none yet). -/
def digs (n : Int) : List UInt8 := if n < 0 then [] else Lib.decDigits n.toNat
/-- What holds on the way. -/
def Way (s : ByteArray) (p : Nat) (f c n : Int) : Prop :=
  p = 0 ∧ n = -1 ∨ c = 0 ∧ n = -1 ∨ ((f = 0 ∧ c = 8 ∧ s.data.toList.take p = 114 :: digs n) ∨ (f = 8 ∧ c = 16 ∧ s.data.toList.take p = 115 :: digs n)) ∧ -1 ≤ n ∧ n < c ∧ 0 < p

theorem byte_of_rune (s : ByteArray) (p : Nat) (h : p < s.size) (ha : (Utf8.decode s p).1 < 128) : s.data.toList[p]? = some (UInt8.ofNat (Utf8.decode s p).1) ∧ (Utf8.decode s p).2 = 1 := by
  by_cases hb : (s[p]'h).toNat < 128
  · have e := decode_ascii s p h hb
    rw [e]
    refine ⟨?_, rfl⟩
    have h1 : p < s.data.size := h
    rw [Array.getElem?_toList, Array.getElem?_eq_getElem h1]
    show some (s[p]'h) = _
    simp
  · have := decode_high s p h (by omega)
    omega

theorem take_more {l : List UInt8} {p : Nat} {c : UInt8} (h : l[p]? = some c) : l.take (p + 1) = l.take p ++ [c] := by
  rw [List.take_add_one, h]; rfl

theorem way_scan (s : ByteArray) : ∀ (k p : Nat) (f c n : Int), s.size ≤ p + k → Way s p f c n → scan s k p f c n = (0, 2) ∨ ∃ j < 24, locL j = s.data.toList := by
  have fin_way : ∀ (p : Nat) (f c n : Int), s.size ≤ p → Way s p f c n → fin f n = (0, 2) ∨ ∃ j < 24, locL j = s.data.toList := by
    intro p f c n hp h
    unfold fin
    by_cases hn : n < 0
    · left; rw [if_pos hn]
    · right
      rcases h with ⟨_, h⟩ | ⟨_, h⟩ | ⟨h, h1, h2, h3⟩
      · omega
      · omega
      · have ht : s.data.toList.take p = s.data.toList := List.take_of_length_le hp
        rw [ht] at h
        have hd : digs n = Lib.decDigits n.toNat := by unfold digs; rw [if_neg hn]
        rw [hd] at h
        rcases h with ⟨rfl, rfl, h⟩ | ⟨rfl, rfl, h⟩
        · exact ⟨n.toNat, by omega, by rw [h]; unfold locL; rw [if_pos (by omega)]⟩
        · exact ⟨n.toNat + 8, by omega, by rw [h]; unfold locL; rw [if_neg (by omega)]; congr 2⟩
  intro k
  induction k with
  | zero => intro p f c n hp h; exact fin_way p f c n hp h
  | succ k ih =>
    intro p f c n hp h
    by_cases hlt : p < s.size
    · rw [scan, if_pos hlt]
      have hle := decode_le s p
      by_cases h0 : p = 0
      · rw [if_pos h0]
        subst h0
        have hn : n = -1 := by
          rcases h with h | h | ⟨_, _, _, h⟩
          · exact h.2
          · exact h.2
          · omega
        have hw : 1 ≤ (Utf8.decode s 0).2 := by
          by_cases hb : (s[0]'hlt).toNat < 128
          · rw [decode_ascii s 0 hlt hb]; exact Nat.le_refl _
          · exact (decode_high s 0 hlt (by omega)).2
        refine ih _ _ _ _ (by omega) ?_
        subst hn
        unfold grpF grpC
        by_cases h1 : ((Utf8.decode s 0).1 : Int) = 114
        · obtain ⟨hb, hw1⟩ := byte_of_rune s 0 hlt (by omega)
          have h1' : (Utf8.decode s 0).1 = 114 := by omega
          rw [if_pos h1, if_pos h1, hw1]
          refine .inr (.inr ⟨.inl ⟨rfl, rfl, ?_⟩, by omega, by omega, by omega⟩)
          rw [take_more hb, h1']; rfl
        · rw [if_neg h1, if_neg h1]
          by_cases h2 : ((Utf8.decode s 0).1 : Int) = 115
          · obtain ⟨hb, hw1⟩ := byte_of_rune s 0 hlt (by omega)
            have h2' : (Utf8.decode s 0).1 = 115 := by omega
            rw [if_pos h2, if_pos h2, hw1]
            refine .inr (.inr ⟨.inr ⟨rfl, rfl, ?_⟩, by omega, by omega, by omega⟩)
            rw [take_more hb, h2']; rfl
          · rw [if_neg h2, if_neg h2]
            exact .inr (.inl ⟨rfl, rfl⟩)
      · rw [if_neg h0]
        split
        · rename_i hc
          obtain ⟨ha, hv⟩ := hc
          have ha' : 48 ≤ ((Utf8.decode s p).1 : Int) ∧ ((Utf8.decode s p).1 : Int) ≤ 57 ∧ n ≠ 0 := by simpa [appB] using ha
          obtain ⟨hb, hw1⟩ := byte_of_rune s p hlt (by omega)
          have hav : appV n (Utf8.decode s p).1 = max n 0 * 10 + ((Utf8.decode s p).1 - 48) := by unfold appV; rw [if_pos ha']
          refine ih _ _ _ _ (by omega) ?_
          rw [hav] at hv ⊢
          rw [hw1]
          generalize hr : (Utf8.decode s p).1 = r at *
          rcases h with ⟨h, _⟩ | ⟨h, rfl⟩ | ⟨h, h1, h2, h3⟩
          · exact absurd h h0
          · omega
          · have hd : digs n ++ [UInt8.ofNat r] = digs (max n 0 * 10 + ((r : Int) - 48)) := by
              unfold digs
              by_cases hn : n < 0
              · rw [if_pos hn, if_neg (by omega)]
                rw [show (max n 0 * 10 + ((r : Int) - 48)).toNat = r - 48 from by omega, Lib.decDigits_one (by omega), show 48 + (r - 48) = r from by omega]
                rfl
              · rw [if_neg hn, if_neg (by omega)]
                have e : (max n 0 * 10 + ((r : Int) - 48)).toNat = n.toNat * 10 + (r - 48) := by omega
                have hn1 : 1 ≤ n.toNat := by omega
                rw [e, decDigits_big (u := n.toNat * 10 + (r - 48)) (by omega)]
                rw [show (n.toNat * 10 + (r - 48)) / 10 = n.toNat from by omega, show 48 + (n.toNat * 10 + (r - 48)) % 10 = r from by omega]
            refine .inr (.inr ⟨?_, by omega, hv, by omega⟩)
            rw [take_more hb, ← hd]
            rcases h with ⟨h4, h5, h6⟩ | ⟨h4, h5, h6⟩
            · exact .inl ⟨h4, h5, by rw [h6]; rfl⟩
            · exact .inr ⟨h4, h5, by rw [h6]; rfl⟩
        · exact .inl rfl
    · rw [scan_end s _ p f c n hlt]
      exact fin_way p f c n (by omega) h

/-- What is scanned of a text: the place whose text it is, and 0; or 0 and 2. -/
theorem scan_is (s : ByteArray) : scan s s.size 0 0 0 (-1) = (locN s.data.toList, locE s.data.toList) := by
  by_cases h : ∃ j < 24, locL j = s.data.toList
  · obtain ⟨j, hj, e⟩ := h
    have hs : s = locB j := bytes_eq (by rw [locB_toList, e])
    subst hs
    rw [scan_texts j hj, locB_toList]
    unfold locN locE
    rw [locOf_text j hj]; rfl
  · have hn : locOf s.data.toList = none := locOf_none fun k hk e => h ⟨k, hk, e⟩
    unfold locN locE
    rw [hn]
    rcases way_scan s s.size 0 0 0 (-1) (by omega) (.inl ⟨rfl, rfl⟩) with h1 | h1
    · exact h1
    · exact absurd h1 h
end Go.Proofs.YtdghhedenjgjiaaGreatDoor
