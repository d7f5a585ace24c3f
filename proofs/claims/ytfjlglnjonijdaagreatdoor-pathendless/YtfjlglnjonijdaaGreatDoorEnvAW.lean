/-
  Both: tables' blocks and words' blocks.
-/
import Derived.Test.YtfjlglnjonijdaaGreatDoorEnvAfter
import Derived.Test.YtfjlglnjonijdaaGreatDoorWordA
