/-
  The reference's Do and Has, and the law NumDoes.
-/
import Derived.Test.YthcjhcofcjmmbaaDoorNumLawsW
namespace Go.Proofs.YthcjhcofcjmmbaaDoor
open Go.RowKit

theorem ret_two {a b c d : Int} (h : a = c) (h' : b = d) : Ending.returned (.tuple #[.int .i64 a, .int .i64 b]) = .returned (.tuple #[.int .i64 c, .int .i64 d]) := by rw [h, h']

set_option maxHeartbeats 1000000 in
theorem refHas_any (op : Int) (w : World) :
    Calls Tryd.prog 13 #[.int .i64 op] w fun e w' => e = .returned (.bool (hasB op)) ∧ w' = w := by
  by_cases h1 : 4 ≤ op
  · by_cases h2 : op ≤ 12
    · rw [show hasB op = true from decide_eq_true ⟨h1, h2⟩]
      go_enter Tryd.func13, Tryd.ntmps13
      go_wp2
      go_ret
      exact ⟨rfl, rfl⟩
    · rw [show hasB op = false from decide_eq_false (by omega)]
      go_enter Tryd.func13, Tryd.ntmps13
      go_wp2
      go_ret
      exact ⟨rfl, rfl⟩
  · rw [show hasB op = false from decide_eq_false (by omega)]
    go_enter Tryd.func13, Tryd.ntmps13
    go_wp2
    go_ret
    exact ⟨rfl, rfl⟩

set_option maxHeartbeats 2000000 in
theorem refDo_any (op a b : Int) (w : World) :
    Calls Tryd.prog 11 #[.int .i64 op, .int .i64 a, .int .i64 b] w fun e w' => e = .returned (.tuple #[.int .i64 (doV op a b), .int .i64 (doH op b)]) ∧ w' = w := by
  by_cases h : op < 4 ∨ 12 < op
  · have h1 : doV op a b = 0 := by unfold doV; rw [if_neg (by omega), if_neg (by omega), if_neg (by omega), if_neg (by omega), if_neg (by omega), if_neg (by omega), if_neg (by omega), if_neg (by omega), if_neg (by omega)]
    have h2 : doH op b = 2 := by unfold doH; rw [if_pos h]
    rw [h1, h2]
    have n4 : (op == 4) = false := by rw [beq_eq_false_iff_ne]; omega
    have n5 : (op == 5) = false := by rw [beq_eq_false_iff_ne]; omega
    have n6 : (op == 6) = false := by rw [beq_eq_false_iff_ne]; omega
    have n7 : (op == 7) = false := by rw [beq_eq_false_iff_ne]; omega
    have n8 : (op == 8) = false := by rw [beq_eq_false_iff_ne]; omega
    have n9 : (op == 9) = false := by rw [beq_eq_false_iff_ne]; omega
    have n10 : (op == 10) = false := by rw [beq_eq_false_iff_ne]; omega
    have n11 : (op == 11) = false := by rw [beq_eq_false_iff_ne]; omega
    have n12 : (op == 12) = false := by rw [beq_eq_false_iff_ne]; omega
    clear h h1 h2
    go_enter Tryd.func11, Tryd.ntmps11
    go_wp2
    go_ret2
    exact ⟨rfl, rfl⟩
  · have : op = 4 ∨ op = 5 ∨ op = 6 ∨ op = 7 ∨ op = 8 ∨ op = 9 ∨ op = 10 ∨ op = 11 ∨ op = 12 := by omega
    clear h
    rcases this with rfl | rfl | rfl | rfl | rfl | rfl | rfl | rfl | rfl
    · rw [show doV 4 a b = wrap64 (a + b) from rfl, show doH 4 b = 0 from rfl]
      go_enter Tryd.func11, Tryd.ntmps11
      go_wp2
      go_ret2
      exact ⟨rfl, rfl⟩
    · rw [show doV 5 a b = wrap64 (a - b) from rfl, show doH 5 b = 0 from rfl]
      go_enter Tryd.func11, Tryd.ntmps11
      go_wp2
      go_ret2
      exact ⟨ret_two (ref_sub a b) rfl, rfl⟩
    · rw [show doV 6 a b = wrap64 (a * b) from rfl, show doH 6 b = 0 from rfl]
      go_enter Tryd.func11, Tryd.ntmps11
      go_wp2
      go_ret2
      exact ⟨rfl, rfl⟩
    · by_cases hb : b = 0
      · subst hb
        rw [show doV 7 a 0 = 0 from rfl, show doH 7 0 = 3 from rfl]
        go_enter Tryd.func11, Tryd.ntmps11
        go_wp2
        go_ret2
        exact ⟨rfl, rfl⟩
      · have h1 : doV 7 a b = wrap64 (a.tdiv b) := by simp [doV, hb]
        have h2 : doH 7 b = 0 := by simp [doH, hb]
        rw [h1, h2]
        clear h1 h2
        have hb0 : (b == 0) = false := by simpa using hb
        by_cases hm : b = -1
        · subst hm
          go_enter Tryd.func11, Tryd.ntmps11
          go_wp2
          go_ret2
          exact ⟨ret_two (ref_div a) rfl, rfl⟩
        · have hm1 : (b == -1) = false := by simpa using hm
          go_enter Tryd.func11, Tryd.ntmps11
          go_wp2
          go_ret2
          exact ⟨rfl, rfl⟩
    · rw [show doV 8 a b = bits .and .i64 a b from rfl, show doH 8 b = 0 from rfl]
      go_enter Tryd.func11, Tryd.ntmps11
      go_wp2
      go_ret2
      exact ⟨rfl, rfl⟩
    · rw [show doV 9 a b = bits .or .i64 a b from rfl, show doH 9 b = 0 from rfl]
      go_enter Tryd.func11, Tryd.ntmps11
      go_wp2
      go_ret2
      exact ⟨rfl, rfl⟩
    · rw [show doV 10 a b = bits .xor .i64 a b from rfl, show doH 10 b = 0 from rfl]
      go_enter Tryd.func11, Tryd.ntmps11
      go_wp2
      go_ret2
      exact ⟨ret_two (ref_xor a b) rfl, rfl⟩
    · by_cases h : a < b
      · have h1 : doV 11 a b = 1 := by simp [doV, h]
        rw [h1, show doH 11 b = 0 from rfl]
        go_enter Tryd.func11, Tryd.ntmps11
        go_wp2
        go_ret2
        exact ⟨rfl, rfl⟩
      · have h1 : doV 11 a b = 0 := by simp [doV, h]
        rw [h1, show doH 11 b = 0 from rfl]
        go_enter Tryd.func11, Tryd.ntmps11
        go_wp2
        go_ret2
        exact ⟨rfl, rfl⟩
    · by_cases h : a = b
      · subst h
        rw [show doV 12 a a = 1 from by simp [doV], show doH 12 a = 0 from rfl]
        have h3 : ¬ a < a := by omega
        go_enter Tryd.func11, Tryd.ntmps11
        go_wp2
        go_ret2
        exact ⟨rfl, rfl⟩
      · have h1 : doV 12 a b = 0 := by simp [doV, h]
        rw [h1, show doH 12 b = 0 from rfl]
        by_cases h3 : a < b
        · clear h
          go_enter Tryd.func11, Tryd.ntmps11
          go_wp2
          go_ret2
          exact ⟨rfl, rfl⟩
        · have h4 : b < a := by omega
          clear h
          go_enter Tryd.func11, Tryd.ntmps11
          go_wp2
          go_ret2
          exact ⟨rfl, rfl⟩

set_option maxHeartbeats 1000000 in
theorem numDoes_law (op a b : Int) (_hop : In64 op) (_ha : In64 a) (_hb : In64 b) (w : World) (hl : Laid w) :
    Calls Tryd.prog 3 #[.int .i64 op, .int .i64 a, .int .i64 b] w fun e w' => e = .returned (.bool true) ∧ New w w' := by
  have H := Lib.hid hl

  have h0 := New.refl w
  clear hl _hop _ha _hb
  go_enter Tryd.func3, Tryd.ntmps3
  go_wp2_with (first | (go_at_call 10; refine (do_from (w0 := w) _ _ _ _ (by assumption)).mono ?_; rintro e w1 ⟨rfl, h1⟩) | (go_at_call 11; refine (refDo_any _ _ _ _).mono ?_; rintro e w1 ⟨rfl, rfl⟩) | (go_at_call 12; refine (has_from (w0 := w) _ _ (by assumption)).mono ?_; rintro e w1 ⟨rfl, h1⟩) | (go_at_call 13; refine (refHas_any _ _).mono ?_; rintro e w1 ⟨rfl, rfl⟩) | (go_at_call 14; refine (knows_from H _ (by assumption)).mono ?_; rintro e w1 ⟨rfl, h1⟩))
  go_ret
  exact ⟨rfl, by assumption⟩
end Go.Proofs.YthcjhcofcjmmbaaDoor
