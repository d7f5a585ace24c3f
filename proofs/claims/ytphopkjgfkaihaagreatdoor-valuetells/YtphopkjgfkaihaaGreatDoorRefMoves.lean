/-
  The reference's Moves (joineryref03): what ins tells.
-/
import Derived.Test.YtphopkjgfkaihaaGreatDoorInsAll
import Derived.Test.YtphopkjgfkaihaaGreatDoorPlain
namespace Go.Proofs.YtphopkjgfkaihaaGreatDoor
open Go.RowKit

set_option maxHeartbeats 2000000 in
theorem refMoves_any (o d a b n t : Int) (w : World) :
    Calls Tryz.prog 26 #[.agg #[.int .i64 o, .int .i64 d, .int .i64 a, .int .i64 b, .int .i64 n, .int .i64 t]] w fun e w' => e = .returned (.bool (movesB o)) ∧ New w w' := by
  unfold movesB
  by_cases h : o = 1 ∨ o = 2 ∨ o = 3 ∨ o = 16
  · rw [decide_eq_true h]
    have H := Lib.hid h
    clear h
    go_enter Tryz.func26, Tryz.ntmps26
    go_wp2
    all_goals first
      | (go_ret; exact ⟨rfl, alloc_new _ _⟩)
      | (go_ret; exact ⟨congrArg (fun z => Ending.returned (.bool z)) (by first | exact beq_of (by have h := H.out; omega) | exact bneq_of (by have h := H.out; omega) | exact decide_eq_true (by have h := H.out; omega) | exact decide_eq_false (by have h := H.out; omega)), alloc_new _ _⟩)
      | (exfalso; have h := H.out; omega)
      | (go_ret; exact ⟨congrArg (fun z => Ending.returned (.bool z)) (show (decide (o ≤ 3) || o == 16) = _ from by have h := H.out; rw [decide_eq_false (by omega)]; first | exact beq_of (by omega) | exact bneq_of (by omega)), alloc_new _ _⟩)
  · rw [decide_eq_false h]
    have H := Lib.hid h
    clear h
    go_enter Tryz.func26, Tryz.ntmps26
    go_wp2
    all_goals first
      | (go_ret; exact ⟨rfl, alloc_new _ _⟩)
      | (go_ret; exact ⟨congrArg (fun z => Ending.returned (.bool z)) (by first | exact beq_of (by have h := H.out; omega) | exact bneq_of (by have h := H.out; omega) | exact decide_eq_true (by have h := H.out; omega) | exact decide_eq_false (by have h := H.out; omega)), alloc_new _ _⟩)
      | (exfalso; have h := H.out; omega)
      | (go_ret; exact ⟨congrArg (fun z => Ending.returned (.bool z)) (show (decide (o ≤ 3) || o == 16) = _ from by have h := H.out; rw [decide_eq_false (by omega)]; first | exact beq_of (by omega) | exact bneq_of (by omega)), alloc_new _ _⟩)

end Go.Proofs.YtphopkjgfkaihaaGreatDoor
