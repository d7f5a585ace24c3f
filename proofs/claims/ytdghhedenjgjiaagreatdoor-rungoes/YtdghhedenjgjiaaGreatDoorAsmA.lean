/-
  The last instruction of a function.
-/
import Derived.Test.YtdghhedenjgjiaaGreatDoorInsPrs
import Derived.Test.YtdghhedenjgjiaaGreatDoorFunAt
import Derived.Test.YtdghhedenjgjiaaGreatDoorAsmRead
namespace Go.Proofs.YtdghhedenjgjiaaGreatDoor
open Go.RowKit

theorem last_at {f : List I} (h : f.length ≠ 0) : lastI f = f[f.length - 1]'(by omega) := by
  unfold lastI
  rw [List.getD_eq_getElem?_getD, List.getElem?_eq_getElem (by omega)]
  rfl
end Go.Proofs.YtdghhedenjgjiaaGreatDoor
