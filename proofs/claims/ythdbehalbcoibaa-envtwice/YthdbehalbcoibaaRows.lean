/-
  No cell of these rows narrows 'for every input' (looked for: loops, veiled, ifaces, maps, wideKeys, modest, calm, conditions, laid).
  DERIVED. THE GIVEN ROWS OF THIS SEAT. 4 by the template 'for every input the law returns true; each argument reads behind the call as it read before'; 0 by the template 'total and deterministic' (their statements: YthdbehalbcoibaaTotals.lean).
  GIVEN WITH THE SEED: the statements are not yours to turn. If you find one false, say at which input.
  Laid BY PROGRAM, IN A SANDBOX (cutbox-rows.mjs): the forced cells as the released guide's own fill.sh prints them over the translation 185e4c9772386ef7… (all of the seat's roots in one cut). By AI agents, Wed Nov 11 2026. No macro, syntax, notation, axiom, sorry.
-/
import Derived.Test.YthdbehalbcoibaaChecked
import GoSem.Claim
import GoSem.ClaimJoined
import GoSem.ClaimMapViews
import Derived.JoinedTies
import Derived.KernelRfl
namespace Go.Proofs.Ythdbehalbcoibaa
/- THE CELL 'sum', in the pinned program and in every row, IS THE sha256 OF THE DUMP (.gsa) THAT YthdbehalbcoibaaProg.lean LOADS. Nothing in Lean hashes anything: it is a label: what it is worth is what the hold of that sum in a sandbox is worth. -/
noncomputable def Try.pinned : Pinned := { name := "ythdbehalbcoibaa", sum := "185e4c9772386ef7117d9e853d6c8b19cb39b32961134e817dd07b03fc10fb92", checked := Try.checked }
namespace Rows
def none {H : Type} : Left H := { results := [], args := [] }

/-- 'joinerylaw05.EnvFills': WHATEVER THE INPUT: true; the input reads as it did. -/
def envFillsSpec : ChangeSpec := { name := "envFills", fn := fun _ => fun
  | [d1, d2, d3, d4] => { results := [.lit (.bool true)], args := [d1, d2, d3, d4] }
  | _ => none }
def envFillsRow : OpenClaim := { program := "ythdbehalbcoibaa", sum := "185e4c9772386ef7117d9e853d6c8b19cb39b32961134e817dd07b03fc10fb92", func := "joinery/joinerylaw05.EnvFills", spec := "envFills", unfollowed := true, recurses := true, apart := false }
def EnvFillsSaid : Prop := envFillsRow.holds Try.pinned (OpenSpec.ofChange envFillsSpec)

/-- ITS FALSE NEIGHBOUR: 'it returns false'. Refute it at one input. -/
def envFillsWrong : ChangeSpec := { name := "envFills", fn := fun _ => fun
  | [d1, d2, d3, d4] => { results := [.lit (.bool false)], args := [d1, d2, d3, d4] }
  | _ => none }
def EnvFillsWrongFalsely : Prop := envFillsRow.holds Try.pinned (OpenSpec.ofChange envFillsWrong)

/-- 'joinerylaw05.EnvChains': WHATEVER THE INPUT: true; the input reads as it did. -/
def envChainsSpec : ChangeSpec := { name := "envChains", fn := fun _ => fun
  | [d1, d2, d3, d4, d5] => { results := [.lit (.bool true)], args := [d1, d2, d3, d4, d5] }
  | _ => none }
def envChainsRow : OpenClaim := { program := "ythdbehalbcoibaa", sum := "185e4c9772386ef7117d9e853d6c8b19cb39b32961134e817dd07b03fc10fb92", func := "joinery/joinerylaw05.EnvChains", spec := "envChains", unfollowed := true, recurses := true, apart := false }
def EnvChainsSaid : Prop := envChainsRow.holds Try.pinned (OpenSpec.ofChange envChainsSpec)

/-- ITS FALSE NEIGHBOUR: 'it returns false'. Refute it at one input. -/
def envChainsWrong : ChangeSpec := { name := "envChains", fn := fun _ => fun
  | [d1, d2, d3, d4, d5] => { results := [.lit (.bool false)], args := [d1, d2, d3, d4, d5] }
  | _ => none }
def EnvChainsWrongFalsely : Prop := envChainsRow.holds Try.pinned (OpenSpec.ofChange envChainsWrong)

/-- 'joinerylaw05.EnvTwice': WHATEVER THE INPUT: true; the input reads as it did. -/
def envTwiceSpec : ChangeSpec := { name := "envTwice", fn := fun _ => fun
  | [d1, d2, d3, d4, d5] => { results := [.lit (.bool true)], args := [d1, d2, d3, d4, d5] }
  | _ => none }
def envTwiceRow : OpenClaim := { program := "ythdbehalbcoibaa", sum := "185e4c9772386ef7117d9e853d6c8b19cb39b32961134e817dd07b03fc10fb92", func := "joinery/joinerylaw05.EnvTwice", spec := "envTwice", unfollowed := true, recurses := true, apart := false }
def EnvTwiceSaid : Prop := envTwiceRow.holds Try.pinned (OpenSpec.ofChange envTwiceSpec)

/-- ITS FALSE NEIGHBOUR: 'it returns false'. Refute it at one input. -/
def envTwiceWrong : ChangeSpec := { name := "envTwice", fn := fun _ => fun
  | [d1, d2, d3, d4, d5] => { results := [.lit (.bool false)], args := [d1, d2, d3, d4, d5] }
  | _ => none }
def EnvTwiceWrongFalsely : Prop := envTwiceRow.holds Try.pinned (OpenSpec.ofChange envTwiceWrong)

/-- 'joinerylaw05.EnvOther': WHATEVER THE INPUT: true; the input reads as it did. -/
def envOtherSpec : ChangeSpec := { name := "envOther", fn := fun _ => fun
  | [d1, d2, d3] => { results := [.lit (.bool true)], args := [d1, d2, d3] }
  | _ => none }
def envOtherRow : OpenClaim := { program := "ythdbehalbcoibaa", sum := "185e4c9772386ef7117d9e853d6c8b19cb39b32961134e817dd07b03fc10fb92", func := "joinery/joinerylaw05.EnvOther", spec := "envOther", unfollowed := true, recurses := true, apart := false }
def EnvOtherSaid : Prop := envOtherRow.holds Try.pinned (OpenSpec.ofChange envOtherSpec)

/-- ITS FALSE NEIGHBOUR: 'it returns false'. Refute it at one input. -/
def envOtherWrong : ChangeSpec := { name := "envOther", fn := fun _ => fun
  | [d1, d2, d3] => { results := [.lit (.bool false)], args := [d1, d2, d3] }
  | _ => none }
def EnvOtherWrongFalsely : Prop := envOtherRow.holds Try.pinned (OpenSpec.ofChange envOtherWrong)

/- THE SECOND FORM. 'bulk': how many values and letters a reading holds, each counted each time it is reached (what is shared counts as often as it is met; a slice's spare places count too). A statement '..UptoSaid' is the law's where the arguments, and the package variables that the reading takes, are together of bulk at most 1048576: NARROWER than '..Said'. Prove '..Said' where nothing that the law and all that it calls make is longer than what came in: it says more and counts as full. Else prove '..UptoSaid'. A law counts once. -/
mutual
def uptoBulk {H : Type} : DataW H → Nat
  | .lit (.string bytes) => bytes.length + 1
  | .lit _ => 1
  | .nil => 1
  | .ptr d => uptoBulk d + 1
  | .slice elems spare => uptoBulkAll elems + uptoBulkAll spare + 1
  | .agg parts => uptoBulkAll parts + 1
  | .iface _ d => uptoBulk d + 1
  | .map entries => uptoBulkEntries entries + 1
  | .held _ => 1
def uptoBulkAll {H : Type} : List (DataW H) → Nat
  | [] => 0
  | d :: r => uptoBulk d + uptoBulkAll r
def uptoBulkEntries {H : Type} : List (Lit × DataW H) → Nat
  | [] => 0
  | x :: r => uptoBulkEntry x + uptoBulkEntries r
def uptoBulkEntry {H : Type} : Lit × DataW H → Nat
  | (.string bytes, d) => bytes.length + uptoBulk d + 1
  | (_, d) => uptoBulk d + 1
 end
def uptoSmall : (H : Type) → List (DataW H) → Bool := fun _ ds => decide (uptoBulkAll ds ≤ 1048576)
def OpenSpec.upto (s : _root_.Go.ChangeSpec) : _root_.Go.OpenSpec := { _root_.Go.OpenSpec.ofChange s with cond := some uptoSmall }

/-- 'joinerylaw05.EnvFills', WHERE WHAT IT READS IS OF BULK AT MOST 1048576: true; the input reads as it did. -/
def envFillsUptoRow : OpenClaim := { program := "ythdbehalbcoibaa", sum := "185e4c9772386ef7117d9e853d6c8b19cb39b32961134e817dd07b03fc10fb92", func := "joinery/joinerylaw05.EnvFills", spec := "envFills", unfollowed := true, recurses := true, apart := false, narrowed := true }
def EnvFillsUptoSaid : Prop := envFillsUptoRow.holds Try.pinned (OpenSpec.upto envFillsSpec)

/-- 'joinerylaw05.EnvChains', WHERE WHAT IT READS IS OF BULK AT MOST 1048576: true; the input reads as it did. -/
def envChainsUptoRow : OpenClaim := { program := "ythdbehalbcoibaa", sum := "185e4c9772386ef7117d9e853d6c8b19cb39b32961134e817dd07b03fc10fb92", func := "joinery/joinerylaw05.EnvChains", spec := "envChains", unfollowed := true, recurses := true, apart := false, narrowed := true }
def EnvChainsUptoSaid : Prop := envChainsUptoRow.holds Try.pinned (OpenSpec.upto envChainsSpec)

/-- 'joinerylaw05.EnvTwice', WHERE WHAT IT READS IS OF BULK AT MOST 1048576: true; the input reads as it did. -/
def envTwiceUptoRow : OpenClaim := { program := "ythdbehalbcoibaa", sum := "185e4c9772386ef7117d9e853d6c8b19cb39b32961134e817dd07b03fc10fb92", func := "joinery/joinerylaw05.EnvTwice", spec := "envTwice", unfollowed := true, recurses := true, apart := false, narrowed := true }
def EnvTwiceUptoSaid : Prop := envTwiceUptoRow.holds Try.pinned (OpenSpec.upto envTwiceSpec)

/-- 'joinerylaw05.EnvOther', WHERE WHAT IT READS IS OF BULK AT MOST 1048576: true; the input reads as it did. -/
def envOtherUptoRow : OpenClaim := { program := "ythdbehalbcoibaa", sum := "185e4c9772386ef7117d9e853d6c8b19cb39b32961134e817dd07b03fc10fb92", func := "joinery/joinerylaw05.EnvOther", spec := "envOther", unfollowed := true, recurses := true, apart := false, narrowed := true }
def EnvOtherUptoSaid : Prop := envOtherUptoRow.holds Try.pinned (OpenSpec.upto envOtherSpec)

end Rows
end Go.Proofs.Ythdbehalbcoibaa
