/-
  The reference's Text of places (joineryref02): each place's text.
-/
import Derived.Test.YthdbehalbcoibaaDoorLocMath
import Derived.Test.YthdbehalbcoibaaDoorRefDig3
namespace Go.Proofs.YthdbehalbcoibaaDoor
open Go.RowKit

theorem refText_from {w0 : World} (n : Int) (hn : In64 n) (w : World) (h : New w0 w) :
    Calls Tryd.prog 7 #[.int .i64 n] w fun e w' => e = .returned (.string (textB n)) ∧ New w0 w' :=
  (refText_any n hn w).mono fun _ _ ⟨he, hw⟩ => ⟨he, h.trans hw⟩
theorem textB_small {k : Nat} (h : k < 100) : ¬ 9223372036854775807 < 1 + (textB k).size := by
  show ¬ _ < 1 + (Lib.itoa k).toArray.size
  have e : Lib.itoa (k : Int) = Lib.decDigits k := by unfold Lib.itoa; rw [if_neg (by omega)]; simp
  rw [e]
  by_cases h1 : k < 10
  · rw [Lib.decDigits_one h1]; simp
  · rw [Lib.decDigits_two h1 h]; simp
theorem itoa_nat (k : Nat) : Lib.itoa (k : Int) = Lib.decDigits k := by unfold Lib.itoa; rw [if_neg (by omega)]; simp

theorem refLoc_reg (k : Nat) (hk : k < 8) (w : World) :
    Calls Tryd.prog 4 #[.int .i64 k] w fun e w' => e = .returned (.string (locB k)) ∧ New w w' := by
  have hz := textB_small (k := k) (by omega)
  have hc := refText_from (w0 := w) k (by unfold In64; omega)
  have H := Lib.hid hc
  have h0 := New.refl w
  clear hc
  go_enter Tryd.func4, Tryd.ntmps4
  go_wp2_with (go_at_call 7; refine (H.out _ (by assumption)).mono ?_; rintro e w1 ⟨rfl, h1⟩)
  go_ret
  refine ⟨ret_str ?_, by assumption⟩
  rw [ByteArray.data_append, Array.toList_append, locB_toList, textB_toList, itoa_nat, locL, if_pos hk]
  rfl
theorem refLoc_slot (k : Nat) (hk : k < 16) (w : World) :
    Calls Tryd.prog 4 #[.int .i64 ((k : Int) + 8)] w fun e w' => e = .returned (.string (locB (k + 8))) ∧ New w w' := by
  have hz := textB_small (k := k) (by omega)
  have hc := refText_from (w0 := w) k (by unfold In64; omega)
  have H := Lib.hid hc
  have h0 := New.refl w
  have hs : wrap64 ((k : Int) + 8 - 8) = (k : Int) := by unfold wrap64; omega
  have hs' : IntKind.i64.wrap ((k : Int) + 8 - 8) = (k : Int) := by rw [IntKind.wrap_i64]; omega
  clear hc
  go_enter Tryd.func4, Tryd.ntmps4
  go_wp2_with (go_at_call 7; refine (H.out _ (by assumption)).mono ?_; rintro e w1 ⟨rfl, h1⟩)
  go_ret
  refine ⟨ret_str ?_, by assumption⟩
  rw [ByteArray.data_append, Array.toList_append, locB_toList, textB_toList, itoa_nat, locL, if_neg (by omega), show k + 8 - 8 = k from by omega]
  rfl
theorem refLoc_from {w0 : World} (k : Nat) (hk : k < 24) (w : World) (h : New w0 w) :
    Calls Tryd.prog 4 #[.int .i64 k] w fun e w' => e = .returned (.string (locB k)) ∧ New w0 w' := by
  by_cases h8 : k < 8
  · exact (refLoc_reg k h8 w).mono fun _ _ ⟨he, hw⟩ => ⟨he, h.trans hw⟩
  · obtain ⟨j, rfl⟩ : ∃ j, k = j + 8 := ⟨k - 8, by omega⟩
    exact (refLoc_slot j (by omega) w).mono fun _ _ ⟨he, hw⟩ => ⟨he, h.trans hw⟩
end Go.Proofs.YthdbehalbcoibaaDoor
