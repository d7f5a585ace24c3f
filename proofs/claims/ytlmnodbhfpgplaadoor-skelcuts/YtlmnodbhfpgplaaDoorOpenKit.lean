/-
  What a row's frame uses at every program: the table of types is laid out; no knob of its own.
-/
import Derived.Test.YtlmnodbhfpgplaaDoorRows
import Derived.Test.YtlmnodbhfpgplaaDoorPlain
import Derived.ProofKit
import Derived.OpenShut
import Derived.Deep.Slices
import Derived.Carry
namespace Go.Proofs.YtlmnodbhfpgplaaDoor
open Go.RowKit

theorem ownKnob_none : ownKnob Tryd.prog.godebug = none := by kernel_rfl
theorem laidOut : laidOutB Tryd.prog = true := by kernel_rfl
end Go.Proofs.YtlmnodbhfpgplaaDoor
