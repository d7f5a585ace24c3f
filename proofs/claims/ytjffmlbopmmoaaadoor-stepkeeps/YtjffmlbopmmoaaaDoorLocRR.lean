/-
  The contracts of loc.Right and loc.Reg: for every number.
-/
import Derived.Test.YtjffmlbopmmoaaaDoorProg
import Derived.Test.YtjffmlbopmmoaaaDoorShelf
import Derived.Test.YtjffmlbopmmoaaaDoorLocMath
namespace Go.Proofs.YtjffmlbopmmoaaaDoor
open Go.RowKit

theorem right_any (l : Int) (w : World) :
    Calls Tryd.prog 49 #[.int .i64 l] w fun e w' => e = .returned (.bool (rightB l)) ∧ w' = w := by
  by_cases h0 : 0 ≤ l
  · by_cases h1 : l < 24
    · have e : rightB l = true := by simp [rightB, h0, h1]
      rw [e]
      go_enter Tryd.func49, Tryd.ntmps49
      go_wp2
      go_ret
      simp [*]
    · have e : rightB l = false := by simp [rightB, h1]
      rw [e]
      go_enter Tryd.func49, Tryd.ntmps49
      go_wp2
      go_ret
      simp [*]
  · have e : rightB l = false := by simp [rightB, h0]
    rw [e]
    go_enter Tryd.func49, Tryd.ntmps49
    go_wp2
    go_ret
    simp [*]
theorem reg_any (l : Int) (w : World) :
    Calls Tryd.prog 50 #[.int .i64 l] w fun e w' => e = .returned (.bool (regB l)) ∧ w' = w := by
  by_cases h0 : 0 ≤ l
  · by_cases h1 : l < 8
    · have e : regB l = true := by simp [regB, h0, h1]
      rw [e]
      go_enter Tryd.func50, Tryd.ntmps50
      go_wp2
      go_ret
      simp [*]
    · have e : regB l = false := by simp [regB, h1]
      rw [e]
      go_enter Tryd.func50, Tryd.ntmps50
      go_wp2
      go_ret
      simp [*]
  · have e : regB l = false := by simp [regB, h0]
    rw [e]
    go_enter Tryd.func50, Tryd.ntmps50
    go_wp2
    go_ret
    simp [*]
end Go.Proofs.YtjffmlbopmmoaaaDoor
