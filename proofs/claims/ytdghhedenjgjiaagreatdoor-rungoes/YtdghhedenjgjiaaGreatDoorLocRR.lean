/-
  The contracts of loc.Right and loc.Reg: for every number.
-/
import Derived.Test.YtdghhedenjgjiaaGreatDoorProg
import Derived.Test.YtdghhedenjgjiaaGreatDoorShelf
import Derived.Test.YtdghhedenjgjiaaGreatDoorLocMath
namespace Go.Proofs.YtdghhedenjgjiaaGreatDoor
open Go.RowKit

theorem right_any (l : Int) (w : World) :
    Calls Tryz.prog 79 #[.int .i64 l] w fun e w' => e = .returned (.bool (rightB l)) ∧ w' = w := by
  by_cases h0 : 0 ≤ l
  · by_cases h1 : l < 24
    · have e : rightB l = true := by simp [rightB, h0, h1]
      rw [e]
      go_enter Tryz.func79, Tryz.ntmps79
      go_wp2
      go_ret
      simp [*]
    · have e : rightB l = false := by simp [rightB, h1]
      rw [e]
      go_enter Tryz.func79, Tryz.ntmps79
      go_wp2
      go_ret
      simp [*]
  · have e : rightB l = false := by simp [rightB, h0]
    rw [e]
    go_enter Tryz.func79, Tryz.ntmps79
    go_wp2
    go_ret
    simp [*]
theorem reg_any (l : Int) (w : World) :
    Calls Tryz.prog 80 #[.int .i64 l] w fun e w' => e = .returned (.bool (regB l)) ∧ w' = w := by
  by_cases h0 : 0 ≤ l
  · by_cases h1 : l < 8
    · have e : regB l = true := by simp [regB, h0, h1]
      rw [e]
      go_enter Tryz.func80, Tryz.ntmps80
      go_wp2
      go_ret
      simp [*]
    · have e : regB l = false := by simp [regB, h1]
      rw [e]
      go_enter Tryz.func80, Tryz.ntmps80
      go_wp2
      go_ret
      simp [*]
  · have e : regB l = false := by simp [regB, h0]
    rw [e]
    go_enter Tryz.func80, Tryz.ntmps80
    go_wp2
    go_ret
    simp [*]
end Go.Proofs.YtdghhedenjgjiaaGreatDoor
