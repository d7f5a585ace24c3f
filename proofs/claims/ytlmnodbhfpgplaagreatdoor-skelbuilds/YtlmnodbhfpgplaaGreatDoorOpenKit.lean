/-
  What a row's frame uses at every program: the table of types is laid out; no knob of its own.
-/
import Derived.Test.YtlmnodbhfpgplaaGreatDoorRows
import Derived.Test.YtlmnodbhfpgplaaGreatDoorPlain
import Derived.ProofKit
import Derived.OpenShut
import Derived.Deep.Slices
import Derived.Carry
namespace Go.Proofs.YtlmnodbhfpgplaaGreatDoor
open Go.RowKit

theorem ownKnob_none : ownKnob Tryz.prog.godebug = none := by kernel_rfl
theorem laidOut : laidOutB Tryz.prog = true := by kernel_rfl
end Go.Proofs.YtlmnodbhfpgplaaGreatDoor
