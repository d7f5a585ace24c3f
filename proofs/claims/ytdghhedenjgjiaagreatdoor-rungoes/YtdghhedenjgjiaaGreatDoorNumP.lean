/-
  Digits and numbers: what strconv reads of a number's digits is the number; plain lists, no program.
-/
import Derived.Test.YtdghhedenjgjiaaGreatDoorBase
import Derived.Lib.ItoaNum
import Derived.Lib.ParseIntBTie
namespace Go.Proofs.YtdghhedenjgjiaaGreatDoor
open Go.RowKit Go.Lib

theorem wrap64_in (n : Int) : In64 (wrap64 n) := by unfold In64 wrap64; omega
theorem nDigits_le : ∀ (k u : Nat), u < 10 ^ (k + 1) → Lib.nDigits u ≤ k + 1
  | 0, u, h => by rw [Lib.nDigits_small (by omega)]; omega
  | k + 1, u, h => by
    by_cases h10 : u < 10
    · rw [Lib.nDigits_small h10]; omega
    · rw [Lib.nDigits_big h10]
      have := nDigits_le k (u / 10) (by rw [Nat.pow_succ] at h; omega)
      omega
def textB (n : Int) : ByteArray := ⟨(Lib.itoa n).toArray⟩
theorem textB_toList (n : Int) : (textB n).data.toList = Lib.itoa n := by simp [textB]
/-- What a text is read as. -/
def parseV (l : List UInt8) : Option Int :=
  match Lib.parseIntB 64 l with
  | .ok v => if Lib.itoa v = l then some v else none
  | _ => none

theorem parseIntB_in {l : List UInt8} {v : Int} (h : Lib.parseIntB 64 l = .ok v) : In64 v := by
  unfold Lib.parseIntB at h
  split at h
  · cases h
  · simp only at h
    split at h
    · cases h
    · cases h
    · rename_i c r u hu
      split at h
      · cases h
      · split at h
        · cases h
        · rename_i h1 h2
          have h := Lib.NumEnd.ok.inj h
          subst h
          unfold In64
          split <;> omega

def parN (l : List UInt8) : Int := (parseV l).getD 0
def parE (l : List UInt8) : Int := if (parseV l).isSome then 0 else 2

theorem pu_append : ∀ (l r : List UInt8) (acc : Nat), parseUint10 acc (l ++ r) = (match parseUint10 acc l with | .ok u => parseUint10 u r | e => e)
  | [], _, _ => rfl
  | c :: l, r, acc => by
    simp only [List.cons_append, parseUint10]
    split
    · split
      · rfl
      · split
        · rfl
        · exact pu_append l r _
    · rfl

theorem ofNat_digit {k : Nat} (h : k < 10) : (UInt8.ofNat (48 + k)).toNat = 48 + k := by
  rw [UInt8.toNat_ofNat']; omega

theorem pu_dec : ∀ (n u : Nat), u < n → u < 18446744073709551616 → parseUint10 0 (decDigits u) = .ok u
  | 0, _, h, _ => absurd h (by omega)
  | n + 1, u, h, hu => by
    by_cases h10 : u < 10
    · rw [decDigits_one h10]
      simp only [parseUint10, ofNat_digit h10]
      rw [if_pos (by omega), if_neg (by omega), if_neg (by omega)]
      congr 1; omega
    · rw [decDigits_big h10, pu_append, pu_dec n (u / 10) (by omega) (by omega)]
      have hd : u % 10 < 10 := Nat.mod_lt _ (by decide)
      simp only [parseUint10, ofNat_digit hd]
      rw [if_pos (by omega), if_neg (by omega), if_neg (by omega)]
      congr 1; omega

theorem dec_ne : ∀ u, decDigits u ≠ [] := fun u h => by
  have := decDigits_length u; have := nDigits_pos u; rw [h] at *; simp at *; omega

theorem dec_digit : ∀ (n u : Nat), u < n → ∀ c ∈ decDigits u, 48 ≤ c.toNat ∧ c.toNat ≤ 57
  | 0, _, h, _, _ => absurd h (by omega)
  | n + 1, u, h, c, hc => by
    by_cases h10 : u < 10
    · rw [decDigits_one h10, List.mem_singleton] at hc
      rw [hc, ofNat_digit h10]; omega
    · rw [decDigits_big h10, List.mem_append, List.mem_singleton] at hc
      rcases hc with hc | hc
      · exact dec_digit n (u / 10) (by omega) c hc
      · rw [hc, ofNat_digit (Nat.mod_lt _ (by decide))]; omega

theorem pm_dec (u : Nat) (hu : u < 18446744073709551616) : parseMag (decDigits u) = .ok u := by
  unfold parseMag; rw [if_neg (dec_ne u)]; exact pu_dec (u + 1) u (by omega) hu

theorem parse_itoa {n : Int} (h : In64 n) : parseIntB 64 (itoa n) = .ok n := by
  unfold In64 at h
  unfold itoa
  by_cases hn : n < 0
  · rw [if_pos hn, parseIntB_minus, parseUintB_64, pm_dec _ (by omega)]
    simp only [signedC]
    rw [if_neg (by simp; omega)]
    congr 1; omega
  · rw [if_neg hn]
    cases e : decDigits n.toNat with
    | nil => exact absurd e (dec_ne _)
    | cons c r =>
      have hc := dec_digit (n.toNat + 1) n.toNat (by omega) c (by rw [e]; exact List.mem_cons_self ..)
      rw [parseIntB_plain _ _ _ (by omega) (by omega), ← e, parseUintB_64, pm_dec _ (by omega)]
      simp only [signlessC]
      rw [if_neg (by simp; omega)]
      congr 1; omega

theorem itoa_len {n : Int} (h : In64 n) : (itoa n).length ≤ 20 := by
  unfold In64 at h
  unfold itoa
  by_cases hn : n < 0
  · rw [if_pos hn, List.length_cons, decDigits_length]
    have := nDigits_le 18 n.natAbs (by omega)
    omega
  · rw [if_neg hn, decDigits_length]
    have := nDigits_le 18 n.toNat (by omega)
    omega
theorem parseV_itoa {n : Int} (h : In64 n) : parseV (itoa n) = some n := by
  unfold parseV
  rw [parse_itoa h]
  simp
theorem parseV_some {l : List UInt8} {v : Int} (h : parseV l = some v) : In64 v ∧ Lib.itoa v = l := by
  unfold parseV at h
  split at h
  · rename_i u e
    split at h
    · rename_i e2
      have h := Option.some.inj h
      subst h
      exact ⟨parseIntB_in e, e2⟩
    · cases h
  · cases h
end Go.Proofs.YtdghhedenjgjiaaGreatDoor
