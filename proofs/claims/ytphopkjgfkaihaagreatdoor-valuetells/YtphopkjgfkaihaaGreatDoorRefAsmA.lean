/-
  The reference's Check, Right and Same of functions (joineryref04): what asm tells.
-/
import Derived.Test.YtphopkjgfkaihaaGreatDoorAsmAll
import Derived.Test.YtphopkjgfkaihaaGreatDoorRefCheck
namespace Go.Proofs.YtphopkjgfkaihaaGreatDoor
open Go.RowKit

theorem refCheck_I (x : I) (m : Int) (w : World) : Calls Tryz.prog 55 #[.agg #[.int .i64 (x).op, .int .i64 (x).d, .int .i64 (x).a, .int .i64 (x).b, .int .i64 (x).n, .int .i64 (x).t], .int .i64 m] w fun e w' => e = .returned (.int .i64 (chkV x m)) ∧ New w w' := refCheck_any x.op x.d x.a x.b x.n x.t m w
theorem rcheck_none (ao : Option Addr) (cap : Nat) (w : World) :
    Calls Tryz.prog 29 #[.slice ao 0 cap] w fun e w' => e = .returned (.tuple #[.int .i64 0, .int .i64 5]) ∧ New w w' := by
  go_enter Tryz.func29, Tryz.ntmps29
  go_wp2
  all_goals
    go_ret2
    exact ⟨rfl, New.refl _⟩
theorem rcheck_full (a : Addr) (n cap : Nat) (h : 200 < n) (w : World) :
    Calls Tryz.prog 29 #[.slice (some a) n cap] w fun e w' => e = .returned (.tuple #[.int .i64 0, .int .i64 3]) ∧ New w w' := by
  go_enter Tryz.func29, Tryz.ntmps29
  go_wp2
  all_goals
    go_ret2
    exact ⟨rfl, New.refl _⟩
set_option maxHeartbeats 2000000 in
set_option maxRecDepth 100000 in
theorem rcheck_some (b off cap n : Nat) (f : List I) (hn : f.length = n) (h0 : 0 < n) (h2 : n ≤ 200) (w : World) (hf : Fun w b off f) :
    Calls Tryz.prog 29 #[.slice (some ⟨b, off, none⟩) n cap] w fun e w' => e = .returned (.tuple #[.int .i64 (chkF f).1, .int .i64 (chkF f).2]) ∧ New w w' := by
  have HF := Lib.hid hf
  have HN := Lib.hid hn
  clear hf hn
  have q0 : ((n : Int) == 0) = false := by simp; omega
  have q1 : decide ((200 : Int) < (n : Int)) = false := by simp; omega
  go_enter Tryz.func29, Tryz.ntmps29
  go_wp2
  go_loopw [4] (fun i wr => ∃ k : Nat, i = .int .i64 k ∧ k ≤ n ∧ New w wr ∧ Hid (badF n (f.drop k) k = badF n f 0)) (fun i _ => n - (intOf i).toNat)
  case atStart => exact ⟨0, rfl, Nat.zero_le _, New.refl _, Lib.hid rfl⟩
  case round =>
    obtain ⟨k, rfl, hk, hnw, HB⟩ := hrel
    by_cases hkn : k < n
    · obtain ⟨x, HX⟩ : ∃ x : I, Hid (f[k]'(by rw [HN.out]; exact hkn) = x) := ⟨_, Lib.hid rfl⟩
      have hr : Hid (wr.rangeAt b (off + k * 6) (cells6 x)) := Lib.hid (by have := (HF.out.new hnw) k (by rw [HN.out]; exact hkn); rw [HX.out] at this; exact this)
      by_cases hc : chkV x n = 0
      · have q : (chkV x n != 0) = false := by simp [hc]
        have HC := Lib.hid hc
        clear hc
        go_wp2_with (first
          | (refine wpList_ldE rfl (.tmp 21) rfl b (off + k * 6) rfl hr.out ?_)
          | (go_at_call 55; refine (refCheck_I x n _).mono ?_; rintro e w1 ⟨rfl, hn1⟩))
        go_roundw
        case rel => exact ⟨k + 1, by go_num, by omega, hnw.trans hn1, Lib.hid ((bad_drop (by rw [HN.out]; exact hkn) (by rw [HX.out]; exact HC.out)).symm.trans HB.out)⟩
        case measure => simp [intOf]; omega
      · have q : (chkV x n != 0) = true := by simp [hc]
        have hb : Hid (chkF f = (k, chkV x n)) := Lib.hid (by
          refine chkF_bad (by rw [HN.out]; omega) ?_
          rw [HN.out, ← HB.out, bad_here (by rw [HN.out]; exact hkn) (by rw [HX.out]; exact hc), HX.out])
        clear hc
        go_wp2_with (first
          | (refine wpList_ldE rfl (.tmp 21) rfl b (off + k * 6) rfl hr.out ?_)
          | (go_at_call 55; refine (refCheck_I x n _).mono ?_; rintro e w1 ⟨rfl, hn1⟩))
        have hb := hb.out
        rw [hb]
        go_ret2
        exact ⟨rfl, hnw.trans hn1⟩
    · obtain rfl : k = n := by omega
      have hbn : badF (f.length : Nat) f 0 = none := by rw [HN.out, ← HB.out, List.drop_of_length_le (by rw [HN.out]; omega), badF]
      have hlast := chkF_last (by rw [HN.out]; omega) (by rw [HN.out]; omega) hbn
      rw [HN.out] at hlast
      have hrg := (HF.out.new hnw) (f.length - 1) (by rw [HN.out]; omega)
      rw [← last_at (by rw [HN.out]; omega), HN.out] at hrg
      generalize lastI f = x at hrg hlast
      obtain ⟨m, rfl⟩ : ∃ m, k = m + 1 := ⟨k - 1, by omega⟩
      rw [Nat.add_sub_cancel] at hrg hlast
      have hop : wr.cell? ⟨b, off + m * 6, none⟩ = some (.int .i64 x.op) := hrg 0 _ rfl
      have HC := Lib.hid hlast
      clear hrg hlast hbn hkn HB hk
      rw [Int.natCast_add] at q0 q1
      by_cases h16 : x.op = 16
      · have e1 := beq_of h16
        have he : endB x = true := by unfold endB; simp [h16]
        clear h16
        go_wp2
        have hc := HC.out
        rw [if_pos he] at hc
        rw [hc]
        go_ret2
        exact ⟨rfl, hnw⟩
      · have e1 := bneq_of h16
        by_cases h18 : x.op = 18
        · have e2 := beq_of h18
          have he : endB x = true := by unfold endB; simp [h18]
          clear h16 h18
          go_wp2
          have hc := HC.out
          rw [if_pos he] at hc
          rw [hc]
          go_ret2
          exact ⟨rfl, hnw⟩
        · have e2 := bneq_of h18
          have he : endB x = false := by unfold endB; simp [h16, h18]
          clear h16 h18
          go_wp2
          have hc := HC.out
          rw [if_neg (by rw [he]; decide)] at hc
          rw [hc]
          go_ret2
          exact ⟨rfl, hnw⟩
theorem rasmCheck_any (v : Value) (f : List I) (w : World) (hf : FunAt w v f) :
    Calls Tryz.prog 29 #[v] w fun e w' => e = .returned (.tuple #[.int .i64 (chkF f).1, .int .i64 (chkF f).2]) ∧ New w w' := by
  rcases hf with ⟨rfl, ao, cap, rfl⟩ | ⟨b, off, cap, rfl, hf⟩
  · exact rcheck_none ao cap w
  · by_cases h0 : f.length = 0
    · rw [chkF_none h0, h0]; exact rcheck_none _ cap w
    · by_cases h2 : 200 < f.length
      · rw [chkF_full h2]; exact rcheck_full _ _ cap h2 w
      · exact rcheck_some b off cap f.length f rfl (by omega) (by omega) w hf
theorem rasmCheck_from {w0 : World} (v : Value) (f : List I) (w : World) (h : New w0 w) (hf : FunAt w v f) :
    Calls Tryz.prog 29 #[v] w fun e w' => e = .returned (.tuple #[.int .i64 (chkF f).1, .int .i64 (chkF f).2]) ∧ New w0 w' :=
  (rasmCheck_any v f w hf).mono fun _ _ ⟨he, hw⟩ => ⟨he, h.trans hw⟩
theorem rasmRight_any (v : Value) (f : List I) (w : World) (hf : FunAt w v f) :
    Calls Tryz.prog 10 #[v] w fun e w' => e = .returned (.bool ((chkF f).2 == 0)) ∧ New w w' := by
  have HF := Lib.hid hf
  clear hf
  go_enter Tryz.func10, Tryz.ntmps10
  go_wp2_with (go_at_call 29; refine (rasmCheck_any v f _ HF.out).mono ?_; rintro e w1 ⟨rfl, hn1⟩)
  go_ret
  exact ⟨rfl, hn1⟩
theorem rasmRight_from {w0 : World} (v : Value) (f : List I) (w : World) (h : New w0 w) (hf : FunAt w v f) :
    Calls Tryz.prog 10 #[v] w fun e w' => e = .returned (.bool ((chkF f).2 == 0)) ∧ New w0 w' :=
  (rasmRight_any v f w hf).mono fun _ _ ⟨he, hw⟩ => ⟨he, h.trans hw⟩
end Go.Proofs.YtphopkjgfkaihaaGreatDoor
