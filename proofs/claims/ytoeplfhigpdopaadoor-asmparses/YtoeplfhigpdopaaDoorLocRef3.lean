/-
  The reference's Text and Parse of places (joineryref02): each place's text; each text's place, or none.
-/
import Derived.Test.YtoeplfhigpdopaaDoorLocMath
import Derived.Test.YtoeplfhigpdopaaDoorRefDig3
namespace Go.Proofs.YtoeplfhigpdopaaDoor
open Go.RowKit

theorem refText_from {w0 : World} (n : Int) (hn : In64 n) (w : World) (h : New w0 w) :
    Calls Tryd.prog 44 #[.int .i64 n] w fun e w' => e = .returned (.string (textB n)) ∧ New w0 w' :=
  (refText_any n hn w).mono fun _ _ ⟨he, hw⟩ => ⟨he, h.trans hw⟩
theorem textB_small {k : Nat} (h : k < 100) : ¬ 9223372036854775807 < 1 + (textB k).size := by
  show ¬ _ < 1 + (Lib.itoa k).toArray.size
  have e : Lib.itoa (k : Int) = Lib.decDigits k := by unfold Lib.itoa; rw [if_neg (by omega)]; simp
  rw [e]
  by_cases h1 : k < 10
  · rw [Lib.decDigits_one h1]; simp
  · rw [Lib.decDigits_two h1 h]; simp
theorem itoa_nat (k : Nat) : Lib.itoa (k : Int) = Lib.decDigits k := by unfold Lib.itoa; rw [if_neg (by omega)]; simp

theorem refLoc_reg (k : Nat) (hk : k < 8) (w : World) :
    Calls Tryd.prog 43 #[.int .i64 k] w fun e w' => e = .returned (.string (locB k)) ∧ New w w' := by
  have hz := textB_small (k := k) (by omega)
  have hc := refText_from (w0 := w) k (by unfold In64; omega)
  have H := Lib.hid hc
  have h0 := New.refl w
  clear hc
  go_enter Tryd.func43, Tryd.ntmps43
  go_wp2_with (go_at_call 44; refine (H.out _ (by assumption)).mono ?_; rintro e w1 ⟨rfl, h1⟩)
  go_ret
  refine ⟨ret_str ?_, by assumption⟩
  rw [ByteArray.data_append, Array.toList_append, locB_toList, textB_toList, itoa_nat, locL, if_pos hk]
  rfl
theorem refLoc_slot (k : Nat) (hk : k < 16) (w : World) :
    Calls Tryd.prog 43 #[.int .i64 ((k : Int) + 8)] w fun e w' => e = .returned (.string (locB (k + 8))) ∧ New w w' := by
  have hz := textB_small (k := k) (by omega)
  have hc := refText_from (w0 := w) k (by unfold In64; omega)
  have H := Lib.hid hc
  have h0 := New.refl w
  have hs : wrap64 ((k : Int) + 8 - 8) = (k : Int) := by unfold wrap64; omega
  have hs' : IntKind.i64.wrap ((k : Int) + 8 - 8) = (k : Int) := by rw [IntKind.wrap_i64]; omega
  clear hc
  go_enter Tryd.func43, Tryd.ntmps43
  go_wp2_with (go_at_call 44; refine (H.out _ (by assumption)).mono ?_; rintro e w1 ⟨rfl, h1⟩)
  go_ret
  refine ⟨ret_str ?_, by assumption⟩
  rw [ByteArray.data_append, Array.toList_append, locB_toList, textB_toList, itoa_nat, locL, if_neg (by omega), show k + 8 - 8 = k from by omega]
  rfl
theorem refLoc_from {w0 : World} (k : Nat) (hk : k < 24) (w : World) (h : New w0 w) :
    Calls Tryd.prog 43 #[.int .i64 k] w fun e w' => e = .returned (.string (locB k)) ∧ New w0 w' := by
  by_cases h8 : k < 8
  · exact (refLoc_reg k h8 w).mono fun _ _ ⟨he, hw⟩ => ⟨he, h.trans hw⟩
  · obtain ⟨j, rfl⟩ : ∃ j, k = j + 8 := ⟨k - 8, by omega⟩
    exact (refLoc_slot j (by omega) w).mono fun _ _ ⟨he, hw⟩ => ⟨he, h.trans hw⟩

set_option maxHeartbeats 1000000 in
theorem refParse_from {w0 : World} (s : ByteArray) (w : World) (h : New w0 w) :
    Calls Tryd.prog 51 #[.string s] w fun e w' => e = .returned (.tuple #[.int .i64 (locN s.data.toList), .bool (locOf s.data.toList).isSome]) ∧ New w0 w' := by
  go_enter Tryd.func51, Tryd.ntmps51
  go_wp2
  go_loopw [4] (fun v wr => ∃ k : Nat, k ≤ 24 ∧ v = .int .i64 k ∧ Hid (∀ j < k, locL j ≠ s.data.toList) ∧ New w0 wr) (fun v _ => 24 - (intOf v).toNat)
  case atStart => exact ⟨0, by omega, rfl, Lib.hid (fun j hj => by omega), h⟩
  case round =>
    obtain ⟨k, hk, rfl, HJ, hnw⟩ := hrel
    by_cases hlt : k < 24
    · have hc := refLoc_from (w0 := w0) k hlt
      have H := Lib.hid hc
      clear hc
      cases hq : decide (locL k = s.data.toList) with
      | true =>
        have hq' : locL k = s.data.toList := by simpa using hq
        have hb : ((locB k).toList == s.toList) = true := str_beq (by rw [locB_toList]; exact hq)
        have e1 : locN s.data.toList = k := by unfold locN; rw [← hq', locOf_text k hlt]; rfl
        have e2 : (locOf s.data.toList).isSome = true := by rw [← hq', locOf_text k hlt]; rfl
        clear hq
        go_wp2_with (go_at_call 43; refine (H.out _ hnw).mono ?_; rintro e w1 ⟨rfl, h1⟩)
        rw [e1, e2]
        go_ret2
        exact ⟨rfl, h1⟩
      | false =>
        have hq' : locL k ≠ s.data.toList := by simpa using hq
        have hb : ((locB k).toList == s.toList) = false := str_beq (by rw [locB_toList]; exact hq)
        clear hq
        go_wp2_with (go_at_call 43; refine (H.out _ hnw).mono ?_; rintro e w1 ⟨rfl, h1⟩)
        go_roundw
        case rel =>
          refine ⟨k + 1, by omega, by go_num, Lib.hid (fun j hj => ?_), h1⟩
          by_cases hjk : j = k
          · rw [hjk]; exact hq'
          · exact HJ.out j (by omega)
        case measure => simp [intOf]; omega
    · have e0 : locOf s.data.toList = none := locOf_none fun j hj => HJ.out j (by omega)
      have e1 : locN s.data.toList = 0 := by unfold locN; rw [e0]; rfl
      have e2 : (locOf s.data.toList).isSome = false := by rw [e0]; rfl
      clear e0
      go_wp2
      try rw [e1, e2]
      go_ret2
      exact ⟨rfl, hnw⟩
end Go.Proofs.YtoeplfhigpdopaaDoor
