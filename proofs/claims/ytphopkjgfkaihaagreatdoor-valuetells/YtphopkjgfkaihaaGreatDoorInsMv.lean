/-
  The contract of ins.Moves: for every instruction.
-/
import Derived.Test.YtphopkjgfkaihaaGreatDoorPlain
import Derived.Test.YtphopkjgfkaihaaGreatDoorInsAll
namespace Go.Proofs.YtphopkjgfkaihaaGreatDoor
open Go.RowKit

theorem moves_any (o d a b n t : Int) (w : World) :
    Calls Tryz.prog 64 #[.agg #[.int .i64 o, .int .i64 d, .int .i64 a, .int .i64 b, .int .i64 n, .int .i64 t]] w fun e w' => e = .returned (.bool (movesB o)) ∧ New w w' := by
  go_enter Tryz.func64, Tryz.ntmps64
  go_wp2
  all_goals
    go_ret
    exact ⟨by simp_all [movesB], alloc_new _ _⟩
end Go.Proofs.YtphopkjgfkaihaaGreatDoor
