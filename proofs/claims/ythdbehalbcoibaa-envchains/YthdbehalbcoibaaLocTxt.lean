/-
  The contracts of loc.Right, loc.Reg and loc.Text: for every number; nothing that was in memory has turned.
-/
import Derived.Test.YthdbehalbcoibaaProg
import Derived.Test.YthdbehalbcoibaaShelf
import Derived.Test.YthdbehalbcoibaaLocMath
namespace Go.Proofs.Ythdbehalbcoibaa
open Go.RowKit

theorem right_any (l : Int) (w : World) :
    Calls Try.prog 22 #[.int .i64 l] w fun e w' => e = .returned (.bool (rightB l)) ∧ w' = w := by
  by_cases h0 : 0 ≤ l
  · by_cases h1 : l < 24
    · have e : rightB l = true := by simp [rightB, h0, h1]
      rw [e]
      go_enter Try.func22, Try.ntmps22
      go_wp2
      go_ret
      simp [*]
    · have e : rightB l = false := by simp [rightB, h1]
      rw [e]
      go_enter Try.func22, Try.ntmps22
      go_wp2
      go_ret
      simp [*]
  · have e : rightB l = false := by simp [rightB, h0]
    rw [e]
    go_enter Try.func22, Try.ntmps22
    go_wp2
    go_ret
    simp [*]
theorem reg_any (l : Int) (w : World) :
    Calls Try.prog 43 #[.int .i64 l] w fun e w' => e = .returned (.bool (regB l)) ∧ w' = w := by
  by_cases h0 : 0 ≤ l
  · by_cases h1 : l < 8
    · have e : regB l = true := by simp [regB, h0, h1]
      rw [e]
      go_enter Try.func43, Try.ntmps43
      go_wp2
      go_ret
      simp [*]
    · have e : regB l = false := by simp [regB, h1]
      rw [e]
      go_enter Try.func43, Try.ntmps43
      go_wp2
      go_ret
      simp [*]
  · have e : regB l = false := by simp [regB, h0]
    rw [e]
    go_enter Try.func43, Try.ntmps43
    go_wp2
    go_ret
    simp [*]

def textV (l : Int) : ByteArray := if 0 ≤ l ∧ l < 24 then locB l.toNat else ⟨#[]⟩
def textE (l : Int) : Int := if 0 ≤ l ∧ l < 24 then 0 else 1
theorem textV_in {l : Int} (h : 0 ≤ l ∧ l < 24) : textV l = locB l.toNat := if_pos h
theorem textE_in {l : Int} (h : 0 ≤ l ∧ l < 24) : textE l = 0 := if_pos h
theorem textV_out {l : Int} (h : ¬ (0 ≤ l ∧ l < 24)) : textV l = ⟨#[]⟩ := if_neg h
theorem textE_out {l : Int} (h : ¬ (0 ≤ l ∧ l < 24)) : textE l = 1 := if_neg h

theorem ret_text {a b : ByteArray} {j : IntKind} {c d : Int} (h : a.data.toList = b.data.toList) (h' : c = d) : Ending.returned (.tuple #[.string a, .int j c]) = .returned (.tuple #[.string b, .int j d]) := by rw [bytes_eq h, h']
theorem digs_small {k : Nat} (h : k < 100) : ¬ 9223372036854775807 < 1 + (Lib.decDigits k).length := by
  by_cases h1 : k < 10
  · rw [Lib.decDigits_one h1]; simp
  · rw [Lib.decDigits_two h1 h]; simp

theorem text_out (l : Int) (h : ¬ (0 ≤ l ∧ l < 24)) (w : World) :
    Calls Try.prog 42 #[.int .i64 l] w fun e w' => e = .returned (.tuple #[.string (textV l), .int .i64 (textE l)]) ∧ w' = w := by
  have hr : rightB l = false := by simp only [rightB, decide_eq_false_iff_not]; exact h
  rw [textV_out h, textE_out h]
  clear h
  go_enter Try.func42, Try.ntmps42
  go_wp2_with (go_at_call 22; refine (right_any _ _).mono ?_; rintro e w1 ⟨rfl, rfl⟩)
  go_ret2
  exact ⟨rfl, rfl⟩
theorem text_reg (k : Nat) (h : k < 8) (w : World) :
    Calls Try.prog 42 #[.int .i64 k] w fun e w' => e = .returned (.tuple #[.string (textV k), .int .i64 (textE k)]) ∧ w' = w := by
  have hr : rightB k = true := by simp only [rightB, decide_eq_true_iff]; omega
  have hg : regB k = true := by simp only [regB, decide_eq_true_iff]; omega
  have hz := digs_small (k := k) (by omega)
  rw [textV_in (by omega), textE_in (by omega)]
  go_enter Try.func42, Try.ntmps42
  go_wp2_with (first | (go_at_call 22; refine (right_any _ _).mono ?_; rintro e w1 ⟨rfl, rfl⟩) | (go_at_call 43; refine (reg_any _ _).mono ?_; rintro e w1 ⟨rfl, rfl⟩) | (go_at_call 44; refine (Try.strconv_Itoa_small k (by omega) _).mono ?_; rintro e w1 ⟨rfl, rfl⟩))
  go_ret2
  refine ⟨ret_text ?_ rfl, rfl⟩
  rw [ByteArray.data_append, Array.toList_append, locB_toList, locL, if_pos (by omega)]
  simp
theorem text_slot (k : Nat) (h : k < 16) (w : World) :
    Calls Try.prog 42 #[.int .i64 ((k : Int) + 8)] w fun e w' => e = .returned (.tuple #[.string (textV ((k : Int) + 8)), .int .i64 (textE ((k : Int) + 8))]) ∧ w' = w := by
  have hr : rightB ((k : Int) + 8) = true := by simp only [rightB, decide_eq_true_iff]; omega
  have hg : regB ((k : Int) + 8) = false := by simp only [regB, decide_eq_false_iff_not]; omega
  have hz := digs_small (k := k) (by omega)
  have hs : wrap64 ((k : Int) + 8 - 8) = (k : Int) := by unfold wrap64; omega
  have hs' : IntKind.i64.wrap ((k : Int) + 8 - 8) = (k : Int) := by rw [IntKind.wrap_i64]; omega
  rw [textV_in (by omega), textE_in (by omega)]
  go_enter Try.func42, Try.ntmps42
  go_wp2_with (first | (go_at_call 22; refine (right_any _ _).mono ?_; rintro e w1 ⟨rfl, rfl⟩) | (go_at_call 43; refine (reg_any _ _).mono ?_; rintro e w1 ⟨rfl, rfl⟩) | (go_at_call 44; refine (Try.strconv_Itoa_small k (by omega) _).mono ?_; rintro e w1 ⟨rfl, rfl⟩))
  go_ret2
  refine ⟨ret_text ?_ rfl, rfl⟩
  rw [ByteArray.data_append, Array.toList_append, locB_toList, locL, if_neg (by omega), show (((k : Int) + 8).toNat - 8) = k from by omega]
  simp
/-- loc.Text, at every number. -/
theorem text_any (l : Int) (w : World) :
    Calls Try.prog 42 #[.int .i64 l] w fun e w' => e = .returned (.tuple #[.string (textV l), .int .i64 (textE l)]) ∧ w' = w := by
  by_cases h : 0 ≤ l ∧ l < 24
  · by_cases h8 : l < 8
    · obtain ⟨k, rfl⟩ : ∃ k : Nat, l = k := ⟨l.toNat, by omega⟩
      exact text_reg k (by omega) w
    · obtain ⟨k, rfl⟩ : ∃ k : Nat, l = (k : Int) + 8 := ⟨(l - 8).toNat, by omega⟩
      exact text_slot k (by omega) w
  · exact text_out l h w

-- seen from an earlier world
theorem right_from {w0 : World} (l : Int) (w : World) (h : New w0 w) :
    Calls Try.prog 22 #[.int .i64 l] w fun e w' => e = .returned (.bool (rightB l)) ∧ New w0 w' :=
  (right_any l w).mono fun _ _ ⟨he, hw⟩ => ⟨he, hw ▸ h⟩
theorem reg_from {w0 : World} (l : Int) (w : World) (h : New w0 w) :
    Calls Try.prog 43 #[.int .i64 l] w fun e w' => e = .returned (.bool (regB l)) ∧ New w0 w' :=
  (reg_any l w).mono fun _ _ ⟨he, hw⟩ => ⟨he, hw ▸ h⟩
theorem text_from {w0 : World} (l : Int) (w : World) (h : New w0 w) :
    Calls Try.prog 42 #[.int .i64 l] w fun e w' => e = .returned (.tuple #[.string (textV l), .int .i64 (textE l)]) ∧ New w0 w' :=
  (text_any l w).mono fun _ _ ⟨he, hw⟩ => ⟨he, hw ▸ h⟩
end Go.Proofs.Ythdbehalbcoibaa
