/-
  A source as the reference's, in plain words.
-/
import Derived.Test.YtlmnodbhfpgplaaGreatDoorEnvAfter
namespace Go.Proofs.YtlmnodbhfpgplaaGreatDoor
open Go.RowKit

/-- A source as the reference's. -/
def refS (s : Sr) : Int × Int := if s.1 = 0 then (0, s.2) else if s.1 = 1 then (1, s.2) else (2, 0)
end Go.Proofs.YtlmnodbhfpgplaaGreatDoor
