/-
  Layer 7's bound on what its laws look at ('great').
-/
import Derived.Test.YtlmnodbhfpgplaaGreatDoorStepG0
import Derived.Test.YtlmnodbhfpgplaaGreatDoorStepF
namespace Go.Proofs.YtlmnodbhfpgplaaGreatDoor
open Go.RowKit

/-- The law's bound. -/
def greatB (n k a : Nat) : Bool := decide (300 < n ∨ 100 < k ∨ 1000 < a)
theorem not_great {n k a : Nat} (h : greatB n k a = false) : n ≤ 300 ∧ k ≤ 100 ∧ a ≤ 1000 := by
  have := of_decide_eq_false h
  omega
end Go.Proofs.YtlmnodbhfpgplaaGreatDoor
