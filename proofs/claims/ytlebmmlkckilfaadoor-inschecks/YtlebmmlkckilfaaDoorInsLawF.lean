/-
  The law InsChecks: true at every input.
-/
import Derived.Test.YtlebmmlkckilfaaDoorRefChkJ
import Derived.Test.YtlebmmlkckilfaaDoorInsKnows
namespace Go.Proofs.YtlebmmlkckilfaaDoor
open Go.RowKit

set_option maxHeartbeats 2000000 in
set_option maxRecDepth 100000 in
theorem insChecks_law (o d a b n t m : Int) (_hx : In64I ⟨o, d, a, b, n, t⟩) (_hm : In64 m) (w : World) (hl : Laid w) :
    Calls Tryd.prog 3 #[.agg #[.int .i64 o, .int .i64 d, .int .i64 a, .int .i64 b, .int .i64 n, .int .i64 t], .int .i64 m] w fun e w' => e = .returned (.bool true) ∧ New w w' := by
  have HL := Lib.hid hl
  obtain ⟨q0, q1, q2, q3, q4, q5⟩ := cells_all (Has.box w ⟨o, d, a, b, n, t⟩)
  dsimp only at q0 q1 q2 q3 q4 q5
  clear hl _hx _hm
  go_enter Tryd.func3, Tryd.ntmps3
  go_wp2_with fail
  have hne := newW_any (w.alloc (.cells #[.int .i64 o, .int .i64 d, .int .i64 a, .int .i64 b, .int .i64 n, .int .i64 t] 23))
  refine wp_region_new (w0 := w.alloc (.cells #[.int .i64 o, .int .i64 d, .int .i64 a, .int .i64 b, .int .i64 n, .int .i64 t] 23)) (New.refl _) (by kernel_rfl) (by kernel_rfl) ?_
  repeat (go_big_quiet_step (first
    | (go_at_call 12; exact quiet_new (check_from _ _ _ _ _ _ _ _ (Lib.hid (HL.out.alloc _)) (Subtype.property _)))
    | (go_at_call 13; exact quiet_new (refCheck_from _ _ _ _ _ _ _ _ (Subtype.property _)))
    | (go_at_call 14; exact quiet_new (knows_from _ (Lib.hid (HL.out.alloc _)) (Subtype.property _)))))
  refine wpQuiet_nil ?_
  intro w2 h2
  clear q0 q1 q2 q3 q4 q5
  go_wp2
  go_ret
  exact ⟨rfl, (alloc_new _ _).trans h2⟩
end Go.Proofs.YtlebmmlkckilfaaDoor
