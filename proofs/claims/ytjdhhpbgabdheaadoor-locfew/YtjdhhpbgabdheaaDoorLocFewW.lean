/-
  The walk of layer 2's law LocFew.
-/
import Derived.Test.YtjdhhpbgabdheaaDoorLocBackW
namespace Go.Proofs.YtjdhhpbgabdheaaDoor
open Go.RowKit

theorem locApart_law (a b : Int) (_ha : In64 a) (_hb : In64 b) (w : World) :
    Calls Tryd.prog 6 #[.int .i64 a, .int .i64 b] w fun e w' => e = .returned (.bool true) ∧ New w w' := by
  by_cases h : 0 ≤ a ∧ a < 24
  · by_cases h' : 0 ≤ b ∧ b < 24
    · obtain ⟨k, rfl⟩ : ∃ k : Nat, a = k := ⟨a.toNat, by omega⟩
      obtain ⟨j, rfl⟩ : ∃ j : Nat, b = j := ⟨b.toNat, by omega⟩
      exact locApart_in k j (by omega) (by omega) w
    · exact locApart_out a b (.inr ⟨h, h'⟩) w
  · exact locApart_out a b (.inl h) w

theorem index_at (s : ByteArray) (i : Nat) (c : UInt8) (h : s.data.toList[i]? = some c) (w : World) :
    (Instr.index 9 (.string s) (.int .i64 i)).run Tryd.prog w = .ok (.int .u8 c.toNat) w := by
  have hlt : i < s.size := by
    rcases Nat.lt_or_ge i s.data.toList.length with h1 | h1
    · exact h1
    · rw [List.getElem?_eq_none h1] at h; cases h
  have e : (s[i]'hlt) = c := by
    have h2 : s[i]? = some c := by
      show s.data[i]? = _
      rw [← Array.getElem?_toList]; exact h
    rw [getElem?_pos s i hlt] at h2
    exact Option.some.inj h2
  rw [run_index_string w _ _ _ _ (by kernel_rfl), dif_pos (by omega)]
  simp only [Int.toNat_natCast, e]

set_option maxHeartbeats 2000000 in
theorem locFew_some (k : Nat) (c0 c1 : UInt8) (b0 b1 : Int) (hk : k < 24) (s : ByteArray) (hs : s.data.toList = [c0, c1]) (hb0 : (c0.toNat : Int) = b0) (hb1 : (c1.toNat : Int) = b1)
    (hc : (b0 == 114) = true ∧ (k < 8) ∧ b1 = (k : Int) + 48 ∨ (b0 == 114) = false ∧ (b0 == 115) = true ∧ (8 ≤ k) ∧ (k < 18) ∧ b1 = (k : Int) + 40)
    (hN : locN s.data.toList = k) (hE : locE s.data.toList = 0) (w : World) :
    Calls Tryd.prog 7 #[.string s] w fun e w' => e = .returned (.bool true) ∧ New w w' := by
  have h0 := New.refl w
  have hz : s.size = 2 := by rw [← size_list, hs]; rfl
  have hp := parse_from (w0 := w) s (by omega)
  have H := Lib.hid hp
  have i0 : ∀ w, (Instr.index 9 (.string s) (.int .i64 0)).run Tryd.prog w = .ok (.int .u8 b0) w := fun w => by rw [← hb0]; exact index_at s 0 c0 (by rw [hs]; rfl) w
  have i1 : ∀ w, (Instr.index 9 (.string s) (.int .i64 1)).run Tryd.prog w = .ok (.int .u8 b1) w := fun w => by rw [← hb1]; exact index_at s 1 c1 (by rw [hs]; rfl) w
  have hk1 : ¬ (k : Int) < 0 := by omega
  have hk2 : ¬ 23 < (k : Int) := by omega
  clear hp hs hb0 hb1
  rcases hc with ⟨hc0, hc1, rfl⟩ | ⟨hc0, hc0', hc1, hc2, rfl⟩
  · have hq : ((k : Int) == (k : Int) + 48 - 48) = true := by simp
    go_enter Tryd.func7, Tryd.ntmps7
    go_wp2_with (first
      | (go_at_call 13; refine (H.out _ (by assumption)).mono ?_; rintro e w1 ⟨rfl, h1⟩)
      | (go_at_call 11; refine (knows_from _ (by assumption)).mono ?_; rintro e w1 ⟨rfl, h1⟩))
    go_ret
    exact ⟨rfl, by assumption⟩
  · have hq : ((k : Int) == (k : Int) + 40 - 40) = true := by simp
    go_enter Tryd.func7, Tryd.ntmps7
    go_wp2_with (first
      | (go_at_call 13; refine (H.out _ (by assumption)).mono ?_; rintro e w1 ⟨rfl, h1⟩)
      | (go_at_call 11; refine (knows_from _ (by assumption)).mono ?_; rintro e w1 ⟨rfl, h1⟩))
    go_ret
    exact ⟨rfl, by assumption⟩

set_option maxHeartbeats 2000000 in
theorem locFew_three (k : Nat) (c2 : UInt8) (b2 : Int) (hk : k < 24) (s : ByteArray) (hs : s.data.toList = [115, 49, c2]) (hb2 : (c2.toNat : Int) = b2) (hc : b2 = (k : Int) + 30)
    (hN : locN s.data.toList = k) (hE : locE s.data.toList = 0) (w : World) :
    Calls Tryd.prog 7 #[.string s] w fun e w' => e = .returned (.bool true) ∧ New w w' := by
  have h0 := New.refl w
  have hz : s.size = 3 := by rw [← size_list, hs]; rfl
  have hp := parse_from (w0 := w) s (by omega)
  have H := Lib.hid hp
  have i0 : ∀ w, (Instr.index 9 (.string s) (.int .i64 0)).run Tryd.prog w = .ok (.int .u8 115) w := fun w => index_at s 0 115 (by rw [hs]; rfl) w
  have i1 : ∀ w, (Instr.index 9 (.string s) (.int .i64 1)).run Tryd.prog w = .ok (.int .u8 49) w := fun w => index_at s 1 49 (by rw [hs]; rfl) w
  have i2 : ∀ w, (Instr.index 9 (.string s) (.int .i64 2)).run Tryd.prog w = .ok (.int .u8 b2) w := fun w => by rw [← hb2]; exact index_at s 2 c2 (by rw [hs]; rfl) w
  have hk1 : ¬ (k : Int) < 0 := by omega
  have hk2 : ¬ 23 < (k : Int) := by omega
  subst hc
  clear hp hs hb2
  · have hq : ((k : Int) == (k : Int) + 30 - 30) = true := by simp
    go_enter Tryd.func7, Tryd.ntmps7
    go_wp2_with (first
      | (go_at_call 13; refine (H.out _ (by assumption)).mono ?_; rintro e w1 ⟨rfl, h1⟩)
      | (go_at_call 11; refine (knows_from _ (by assumption)).mono ?_; rintro e w1 ⟨rfl, h1⟩))
    go_ret
    exact ⟨rfl, by assumption⟩

set_option maxHeartbeats 2000000 in
theorem locFew_big (s : ByteArray) (hz : 1000 < (s.size : Int)) (w : World) :
    Calls Tryd.prog 7 #[.string s] w fun e w' => e = .returned (.bool true) ∧ New w w' := by
  have h0 := New.refl w
  go_enter Tryd.func7, Tryd.ntmps7
  go_wp2_with (go_at_call 11; refine (knows_from _ (by assumption)).mono ?_; rintro e w1 ⟨rfl, h1⟩)
  go_ret
  exact ⟨rfl, by assumption⟩
set_option maxHeartbeats 2000000 in
theorem locFew_none (s : ByteArray) (hz : ¬ 1000 < (s.size : Int)) (ho : locOf s.data.toList = none) (w : World) :
    Calls Tryd.prog 7 #[.string s] w fun e w' => e = .returned (.bool true) ∧ New w w' := by
  have h0 := New.refl w
  have hp := parse_from (w0 := w) s (by omega)
  have H := Lib.hid hp
  have e1 := locE_of ho
  have e2 := locN_of ho
  simp only [Option.isSome_none, Bool.false_eq_true, if_false, Option.getD_none] at e1 e2
  clear hp ho
  go_enter Tryd.func7, Tryd.ntmps7
  go_wp2_with (first
    | (go_at_call 13; refine (H.out _ (by assumption)).mono ?_; rintro e w1 ⟨rfl, h1⟩)
    | (go_at_call 11; refine (knows_from _ (by assumption)).mono ?_; rintro e w1 ⟨rfl, h1⟩))
  go_ret
  exact ⟨rfl, by assumption⟩

theorem locFew_law (s : ByteArray) (_hs : s.size ≤ maxLen) (w : World) :
    Calls Tryd.prog 7 #[.string s] w fun e w' => e = .returned (.bool true) ∧ New w w' := by
  by_cases hz : 1000 < (s.size : Int)
  · exact locFew_big s hz w
  · cases ho : locOf s.data.toList with
    | none => exact locFew_none s hz ho w
    | some k =>
      obtain ⟨hk, hL⟩ := locOf_some ho
      have e1 := locE_of ho
      have e2 := locN_of ho
      simp only [Option.isSome_some, if_true, Option.getD_some] at e1 e2
      have hd : ∀ j : Nat, j < 10 → ((UInt8.ofNat (48 + j)).toNat : Int) = (48 + j : Nat) := fun j hj => by rw [UInt8.toNat_ofNat', Nat.mod_eq_of_lt (by omega)]
      by_cases h8 : k < 8
      · refine locFew_some k 114 (UInt8.ofNat (48 + k)) 114 _ hk s ?_ rfl (hd k (by omega)) (.inl ⟨rfl, h8, by omega⟩) e2 e1 w
        rw [← hL, locL, if_pos h8, Lib.decDigits_one (by omega)]
      · by_cases h18 : k < 18
        · refine locFew_some k 115 (UInt8.ofNat (48 + (k - 8))) 115 _ hk s ?_ rfl (hd (k - 8) (by omega)) (.inr ⟨rfl, rfl, by omega, by omega, by omega⟩) e2 e1 w
          rw [← hL, locL, if_neg h8, Lib.decDigits_one (by omega)]
        · refine locFew_three k (UInt8.ofNat (48 + (k - 18))) _ hk s ?_ (hd (k - 18) (by omega)) (by omega) e2 e1 w
          rw [← hL, locL, if_neg h8, Lib.decDigits_two (by omega) (by omega), show (k - 8) / 10 = 1 from by omega, show (k - 8) % 10 = k - 18 from by omega]
          rfl
end Go.Proofs.YtjdhhpbgabdheaaDoor
