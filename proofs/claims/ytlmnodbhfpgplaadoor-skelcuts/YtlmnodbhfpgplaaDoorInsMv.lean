/-
  The contract of ins.Moves: for every instruction.
-/
import Derived.Test.YtlmnodbhfpgplaaDoorPlain
import Derived.Test.YtlmnodbhfpgplaaDoorInsAll
namespace Go.Proofs.YtlmnodbhfpgplaaDoor
open Go.RowKit

theorem moves_any (o d a b n t : Int) (w : World) :
    Calls Tryd.prog 32 #[.agg #[.int .i64 o, .int .i64 d, .int .i64 a, .int .i64 b, .int .i64 n, .int .i64 t]] w fun e w' => e = .returned (.bool (movesB o)) ∧ New w w' := by
  go_enter Tryd.func32, Tryd.ntmps32
  go_wp2
  all_goals
    go_ret
    exact ⟨by simp_all [movesB], alloc_new _ _⟩
end Go.Proofs.YtlmnodbhfpgplaaDoor
