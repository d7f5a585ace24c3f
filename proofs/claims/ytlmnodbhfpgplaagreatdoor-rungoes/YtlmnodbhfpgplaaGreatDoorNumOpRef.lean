/-
  The reference's Do of layer 1 (out of NumRef, over Base).
-/
import Derived.Test.YtlmnodbhfpgplaaGreatDoorProg
import Derived.Test.YtlmnodbhfpgplaaGreatDoorPlain
import Derived.WalkSpells
import Derived.WalkLawsBesides
namespace Go.Proofs.YtlmnodbhfpgplaaGreatDoor
open Go.RowKit
theorem ret_two {a b c d : Int} (h : a = c) (h' : b = d) : Ending.returned (.tuple #[.int .i64 a, .int .i64 b]) = .returned (.tuple #[.int .i64 c, .int .i64 d]) := by rw [h, h']
set_option maxHeartbeats 2000000 in
theorem refDo_any (op a b : Int) (w : World) :
    Calls Tryz.prog 56 #[.int .i64 op, .int .i64 a, .int .i64 b] w fun e w' => e = .returned (.tuple #[.int .i64 (doV op a b), .int .i64 (doH op b)]) ∧ w' = w := by
  by_cases h : op < 4 ∨ 12 < op
  · have h1 : doV op a b = 0 := by unfold doV; rw [if_neg (by omega), if_neg (by omega), if_neg (by omega), if_neg (by omega), if_neg (by omega), if_neg (by omega), if_neg (by omega), if_neg (by omega), if_neg (by omega)]
    have h2 : doH op b = 2 := by unfold doH; rw [if_pos h]
    rw [h1, h2]
    have n4 : (op == 4) = false := by rw [beq_eq_false_iff_ne]; omega
    have n5 : (op == 5) = false := by rw [beq_eq_false_iff_ne]; omega
    have n6 : (op == 6) = false := by rw [beq_eq_false_iff_ne]; omega
    have n7 : (op == 7) = false := by rw [beq_eq_false_iff_ne]; omega
    have n8 : (op == 8) = false := by rw [beq_eq_false_iff_ne]; omega
    have n9 : (op == 9) = false := by rw [beq_eq_false_iff_ne]; omega
    have n10 : (op == 10) = false := by rw [beq_eq_false_iff_ne]; omega
    have n11 : (op == 11) = false := by rw [beq_eq_false_iff_ne]; omega
    have n12 : (op == 12) = false := by rw [beq_eq_false_iff_ne]; omega
    clear h h1 h2
    go_enter Tryz.func56, Tryz.ntmps56
    go_wp2
    go_ret2
    exact ⟨rfl, rfl⟩
  · have : op = 4 ∨ op = 5 ∨ op = 6 ∨ op = 7 ∨ op = 8 ∨ op = 9 ∨ op = 10 ∨ op = 11 ∨ op = 12 := by omega
    clear h
    rcases this with rfl | rfl | rfl | rfl | rfl | rfl | rfl | rfl | rfl
    · rw [show doV 4 a b = wrap64 (a + b) from rfl, show doH 4 b = 0 from rfl]
      go_enter Tryz.func56, Tryz.ntmps56
      go_wp2
      go_ret2
      exact ⟨rfl, rfl⟩
    · rw [show doV 5 a b = wrap64 (a - b) from rfl, show doH 5 b = 0 from rfl]
      go_enter Tryz.func56, Tryz.ntmps56
      go_wp2
      go_ret2
      exact ⟨ret_two (ref_sub a b) rfl, rfl⟩
    · rw [show doV 6 a b = wrap64 (a * b) from rfl, show doH 6 b = 0 from rfl]
      go_enter Tryz.func56, Tryz.ntmps56
      go_wp2
      go_ret2
      exact ⟨rfl, rfl⟩
    · by_cases hb : b = 0
      · subst hb
        rw [show doV 7 a 0 = 0 from rfl, show doH 7 0 = 3 from rfl]
        go_enter Tryz.func56, Tryz.ntmps56
        go_wp2
        go_ret2
        exact ⟨rfl, rfl⟩
      · have h1 : doV 7 a b = wrap64 (a.tdiv b) := by simp [doV, hb]
        have h2 : doH 7 b = 0 := by simp [doH, hb]
        rw [h1, h2]
        clear h1 h2
        have hb0 : (b == 0) = false := by simpa using hb
        by_cases hm : b = -1
        · subst hm
          go_enter Tryz.func56, Tryz.ntmps56
          go_wp2
          go_ret2
          exact ⟨ret_two (ref_div a) rfl, rfl⟩
        · have hm1 : (b == -1) = false := by simpa using hm
          go_enter Tryz.func56, Tryz.ntmps56
          go_wp2
          go_ret2
          exact ⟨rfl, rfl⟩
    · rw [show doV 8 a b = bits .and .i64 a b from rfl, show doH 8 b = 0 from rfl]
      go_enter Tryz.func56, Tryz.ntmps56
      go_wp2
      go_ret2
      exact ⟨rfl, rfl⟩
    · rw [show doV 9 a b = bits .or .i64 a b from rfl, show doH 9 b = 0 from rfl]
      go_enter Tryz.func56, Tryz.ntmps56
      go_wp2
      go_ret2
      exact ⟨rfl, rfl⟩
    · rw [show doV 10 a b = bits .xor .i64 a b from rfl, show doH 10 b = 0 from rfl]
      go_enter Tryz.func56, Tryz.ntmps56
      go_wp2
      go_ret2
      exact ⟨ret_two (ref_xor a b) rfl, rfl⟩
    · by_cases h : a < b
      · have h1 : doV 11 a b = 1 := by simp [doV, h]
        rw [h1, show doH 11 b = 0 from rfl]
        go_enter Tryz.func56, Tryz.ntmps56
        go_wp2
        go_ret2
        exact ⟨rfl, rfl⟩
      · have h1 : doV 11 a b = 0 := by simp [doV, h]
        rw [h1, show doH 11 b = 0 from rfl]
        go_enter Tryz.func56, Tryz.ntmps56
        go_wp2
        go_ret2
        exact ⟨rfl, rfl⟩
    · by_cases h : a = b
      · subst h
        rw [show doV 12 a a = 1 from by simp [doV], show doH 12 a = 0 from rfl]
        have h3 : ¬ a < a := by omega
        go_enter Tryz.func56, Tryz.ntmps56
        go_wp2
        go_ret2
        exact ⟨rfl, rfl⟩
      · have h1 : doV 12 a b = 0 := by simp [doV, h]
        rw [h1, show doH 12 b = 0 from rfl]
        by_cases h3 : a < b
        · clear h
          go_enter Tryz.func56, Tryz.ntmps56
          go_wp2
          go_ret2
          exact ⟨rfl, rfl⟩
        · have h4 : b < a := by omega
          clear h
          go_enter Tryz.func56, Tryz.ntmps56
          go_wp2
          go_ret2
          exact ⟨rfl, rfl⟩

end Go.Proofs.YtlmnodbhfpgplaaGreatDoor
