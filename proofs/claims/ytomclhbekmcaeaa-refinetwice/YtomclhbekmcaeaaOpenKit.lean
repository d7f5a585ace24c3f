/-
  What a row's frame uses at every program: the table of types is laid out; no knob of its own.
-/
import Derived.Test.YtomclhbekmcaeaaRows
import Derived.Test.YtomclhbekmcaeaaPlain
import Derived.ProofKit
import Derived.OpenShut
import Derived.Deep.Slices
import Derived.Carry
namespace Go.Proofs.Ytomclhbekmcaeaa
open Go.RowKit

theorem ownKnob_none : ownKnob Try.prog.godebug = none := by kernel_rfl
theorem laidOut : laidOutB Try.prog = true := by kernel_rfl
end Go.Proofs.Ytomclhbekmcaeaa
