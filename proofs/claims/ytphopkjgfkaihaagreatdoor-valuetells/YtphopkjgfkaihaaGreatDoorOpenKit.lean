/-
  What a row's frame uses at every program: the table of types is laid out; no knob of its own.
-/
import Derived.Test.YtphopkjgfkaihaaGreatDoorRows
import Derived.Test.YtphopkjgfkaihaaGreatDoorPlain
import Derived.ProofKit
import Derived.OpenShut
import Derived.Deep.Slices
import Derived.Carry
namespace Go.Proofs.YtphopkjgfkaihaaGreatDoor
open Go.RowKit

theorem ownKnob_none : ownKnob Tryz.prog.godebug = none := by kernel_rfl
theorem laidOut : laidOutB Tryz.prog = true := by kernel_rfl
end Go.Proofs.YtphopkjgfkaihaaGreatDoor
