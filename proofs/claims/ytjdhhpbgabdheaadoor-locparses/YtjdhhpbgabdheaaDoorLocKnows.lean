/-
  The examples at the end of layer 2's laws ('knows'): true.
-/
import Derived.Test.YtjdhhpbgabdheaaDoorLocDo
namespace Go.Proofs.YtjdhhpbgabdheaaDoor
open Go.RowKit

set_option maxHeartbeats 1000000 in
theorem knows_from {w0 : World} (w : World) (h : New w0 w) : Calls Tryd.prog 11 #[] w fun e w' => e = .returned (.bool true) ∧ New w0 w' := by
  have t1 : textV 8 = ⟨#[115, 48]⟩ := by decide +kernel
  have t2 : textE 8 = 0 := by decide
  have r1 : rightB 23 = true := by decide
  have r2 : regB 7 = true := by decide
  have p1 : ∀ w, New w0 w → Calls Tryd.prog 13 #[.string ⟨#[115, 49, 53]⟩] w fun x w' => x = .returned (.tuple #[.int .i64 23, .int .i64 0]) ∧ New w0 w' :=
    fun w h => parse_is (w0 := w0) [115, 49, 53] (by decide) 23 0 (by decide +kernel) (by decide +kernel) w h
  have p2 : ∀ w, New w0 w → Calls Tryd.prog 13 #[.string ⟨#[114, 56]⟩] w fun x w' => x = .returned (.tuple #[.int .i64 0, .int .i64 2]) ∧ New w0 w' :=
    fun w h => parse_is (w0 := w0) [114, 56] (by decide) 0 2 (by decide +kernel) (by decide +kernel) w h
  have P1 := Lib.hid p1
  have P2 := Lib.hid p2
  clear p1 p2
  go_enter Tryd.func11, Tryd.ntmps11
  go_wp2_with fail
  refine (P1.out _ h).mono ?_
  rintro e w1 ⟨rfl, h1⟩
  go_wp2_with (go_at_call 8; refine (text_from _ _ h1).mono ?_; rintro e w2 ⟨rfl, h2⟩)
  refine (P2.out _ h2).mono ?_
  rintro e w3 ⟨rfl, h3⟩
  go_wp2_with (first
    | (go_at_call 9; refine (right_from _ _ (by assumption)).mono ?_; rintro e w1 ⟨rfl, h1⟩)
    | (go_at_call 10; refine (reg_from _ _ (by assumption)).mono ?_; rintro e w1 ⟨rfl, h1⟩))
  go_ret
  exact ⟨rfl, by assumption⟩
end Go.Proofs.YtjdhhpbgabdheaaDoor
