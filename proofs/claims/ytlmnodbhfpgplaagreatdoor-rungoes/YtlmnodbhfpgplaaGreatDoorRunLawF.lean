/-
  'RunGoes': a run that goes on did as many steps as it had fuel; with more it is where so many steps more lead: true, for every input.
-/
import Derived.Test.YtlmnodbhfpgplaaGreatDoorRunLawG
import Derived.Test.YtlmnodbhfpgplaaGreatDoorRunLawH
namespace Go.Proofs.YtlmnodbhfpgplaaGreatDoor
open Go.RowKit

theorem runGoes_law (v : Value) (f : List I) (rs : Nat → Int) (h a : Sl) (n : Int) (zs az : List Int) (mr : Int) (w : World) (hf : FunAt w v f) (hi : ∀ y ∈ f, In64I y) (hm : f.length ≤ maxLen) (hh : Hp w (.slice h.ao h.n h.c) zs) (ha : Hp w (.slice a.ao a.n a.c) az) (ht : Tame (.slice a.ao a.n a.c)) (hb : 0 ≤ mr ∧ mr ≤ 255) (hl : Laid w) :
    Calls Tryz.prog 3 #[v, .agg (caC rs h a n).toArray, .int .u8 mr] w fun e w' => e = .returned (.bool true) ∧ New w w' := by
  by_cases hX : (runR f rs zs az n.toNat).1.how = 0
  · exact runGoesA v f rs h a n zs az mr w hf hi hm hh ha ht hb hl hX
  · exact runGoesB v f rs h a n zs az mr w hf hi hm hh ha ht hb hl hX
end Go.Proofs.YtlmnodbhfpgplaaGreatDoor
