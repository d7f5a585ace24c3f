/-
  'SkelBuilds': a skeleton is the one that the document says: true, for every input.
-/
import Derived.Test.YtlmnodbhfpgplaaGreatDoorSkelK
import Derived.Test.YtlmnodbhfpgplaaGreatDoorSkelSame
import Derived.Test.YtlmnodbhfpgplaaGreatDoorRefAsmA
namespace Go.Proofs.YtlmnodbhfpgplaaGreatDoor
open Go.RowKit

set_option maxHeartbeats 16000000 in
set_option maxRecDepth 100000 in
theorem skelBuilds_walk (fv cv : Value) (f : List I) (cut : List Bool) (w : World) (hf : FunAt w fv f) (hc : RowAt w cv (cut.map .bool)) (hl : Laid w) :
    Calls Tryz.prog 4 #[fv, cv] w fun e w' => e = .returned (.bool true) ∧ New w w' := by
  obtain ⟨fa, fc, rfl⟩ := hf.form
  obtain ⟨ca, m, cc, rfl⟩ := hc.form
  have HL := Lib.hid hl
  have HF := Lib.hid hf
  have HC := Lib.hid hc
  clear hl hf hc
  obtain ⟨n, HN⟩ : ∃ n, Hid (f.length = n) := ⟨_, Lib.hid rfl⟩
  rw [HN.out] at HF ⊢
  cases d3 : decide ((300 : Int) < (n : Int)) with
  | true =>
    go_enter Tryz.func4, Tryz.ntmps4
    go_wp2_with (go_at_call 14; refine (knows_from _ HL.out (New.refl w)).mono ?_; rintro e wk ⟨rfl, hnk⟩)
    go_ret
    exact ⟨rfl, hnk⟩
  | false =>
    cases d4 : decide ((300 : Int) < (m : Int)) with
    | true =>
      go_enter Tryz.func4, Tryz.ntmps4
      go_wp2_with (go_at_call 14; refine (knows_from _ HL.out (New.refl w)).mono ?_; rintro e wk ⟨rfl, hnk⟩)
      go_ret
      exact ⟨rfl, hnk⟩
    | false =>
      by_cases hr : (chkF f).2 = 0
      case neg =>
        have q1 : ((chkF f).2 == 0) = false := bneq_of hr
        have HR := Lib.hid hr
        have HS := Lib.hid (Sep.start w)
        have T1 : Hid True := Lib.hid trivial
        have T2 : Hid True := Lib.hid trivial
        have T3 : Hid True := Lib.hid trivial
        have T4 : Hid True := Lib.hid trivial
        have T5 : Hid True := Lib.hid trivial
        clear hr
        go_enter Tryz.func4, Tryz.ntmps4
        go_wp2_with (first
          | (clear T1; go_at_call 15; refine (build_out fa n fc f (.slice ca m cc) _ (HL.out.new HS.out.nw) (HF.out.new HS.out.nw) HR.out).mono ?_; rintro e w1 ⟨rfl, hn1⟩; replace HS := Lib.hid (HS.out.go hn1); clear hn1)
          | (clear T2; refine wpList_alB rfl 61 rfl _ zeroSk_run _ rfl HS.out ?_; intro w3 g5 hs; replace HS := Lib.hid hs; clear hs)
          | (clear T3; refine wpList_stSW 0 rfl rfl 61 (.tmp 5) (.tmp 20) rfl g5 rfl _ rfl HS.out rfl (skC (0, noT) (.slice none 0 0)) rfl rfl (skC_one _ rfl) (by rw [skC_len]; exact infoSk) ?_; intro w4 hs; replace HS := Lib.hid hs; clear hs)
          | (clear T4; go_at_call 13; refine (rasmRight_any _ f _ (HF.out.new HS.out.nw)).mono ?_; rw [q1]; rintro e w5 ⟨rfl, hn1⟩; replace HS := Lib.hid (HS.out.go hn1); have x5 := HS.out.cell 0 rfl (skC_nd _ _); clear hn1)
          | (clear T5; go_at_call 14; refine (knows_from _ HL.out HS.out.nw).mono ?_; rintro e wk ⟨rfl, hnk⟩))
        go_ret
        exact ⟨rfl, hnk⟩
      case pos =>
        have q1 : ((chkF f).2 == 0) = true := beq_of hr
        have HR := Lib.hid hr
        have HS := Lib.hid (Sep.start w)
        obtain ⟨S, HSK⟩ : ∃ S, Hid (sklA f cut = S) := ⟨_, Lib.hid rfl⟩
        obtain ⟨N, HNN⟩ : ∃ N, Hid (S.nodes.length = N) := ⟨_, Lib.hid rfl⟩
        have HNA : Hid ((nodesA f cut).length = N) := Lib.hid (by rw [← HNN.out, ← HSK.out, skl_nodes, List.length_map])
        have HN2 : Hid (N ≤ 200) := Lib.hid (by
          rw [← HNA.out]
          exact Nat.le_trans (nds_len (nodes_nds hr cut)) (chk_len hr))
        have HB : Hid (∀ x ∈ S.nodes, x.2.length ≤ 10) := Lib.hid (by
          rw [← HSK.out, skl_nodes]
          intro x hx
          obtain ⟨p, _, rfl⟩ := List.mem_map.mp hx
          show (outsOf f cut p).length ≤ 10
          unfold outsOf fromsA
          rw [List.length_map]
          split <;> (try split) <;> simp)
        have hN2 := HN2.out
        have T1 : Hid True := Lib.hid trivial
        have T2 : Hid True := Lib.hid trivial
        have T3 : Hid True := Lib.hid trivial
        have T4 : Hid True := Lib.hid trivial
        have T5 : Hid True := Lib.hid trivial
        have T6 : Hid True := Lib.hid trivial
        have T7 : Hid True := Lib.hid trivial
        have T8 : Hid True := Lib.hid trivial
        have T9 : Hid True := Lib.hid trivial
        clear hr
        go_enter Tryz.func4, Tryz.ntmps4
        go_wp2_with (first
          | (clear T1; go_at_call 15; refine (build_in fa n fc f ca m cc cut _ (HL.out.new HS.out.nw) (HF.out.new HS.out.nw) (HC.out.new HS.out.nw) HR.out).mono ?_; rw [HSK.out]; rintro e w2 ⟨vs, rfl, hs⟩; obtain ⟨na, nc, hv⟩ := rowA_form hs.hd; rw [HNN.out] at hv; subst hv; replace HS := Lib.hid (HS.out.call hs); clear hs)
          | (clear T2; refine wpList_alB rfl 61 rfl _ zeroSk_run _ rfl HS.out ?_; intro w3 g5 hs; replace HS := Lib.hid hs; clear hs)
          | (clear T3; refine wpList_stSW 0 rfl rfl 61 (.tmp 5) (.tmp 20) rfl g5 rfl _ rfl HS.out rfl (skC S.entry (.slice na N nc)) rfl (by rw [skC_len, skC_len]) (skC_one _ rfl) (by rw [skC_len]; exact infoSk) ?_; intro w4 hs; replace HS := Lib.hid hs; clear hs)
          | (clear T4; go_at_call 13; refine (rasmRight_any _ f _ (HF.out.new HS.out.nw)).mono ?_; rw [q1]; rintro e w5 ⟨rfl, hn1⟩; replace HS := Lib.hid (HS.out.go hn1); clear hn1)
          | (clear T5; refine wpList_load_mid rfl 61 (.tmp 5) rfl g5 0 rfl (skC S.entry (.slice na N nc)) _ (HasC.all (HS.out.has 0 rfl)) Tryz.underlying61 rfl (by rw [skC_len]; exact infoSk) ?_)
          | (clear T6; go_at_call 17; refine (asSk_any S na N nc _ HNN.out (HS.out.rd 1 rfl) (by omega) HB.out).mono ?_; rintro e w6 ⟨kt, ct, va, vc, rfl, hs⟩; replace HS := Lib.hid (HS.out.call hs); clear hs)
          | (clear T7; go_at_call 18; refine (refBuild_any fa n fc f ca m cc cut _ (HF.out.new HS.out.nw) (HC.out.new HS.out.nw) HR.out).mono ?_; rw [HSK.out]; rintro e w7 ⟨ku, cu, vn, rfl, hs⟩; obtain ⟨ra, rc, hv⟩ := rowA_form (hs.rd 1 rfl); rw [HNN.out] at hv; subst hv; replace HS := Lib.hid (HS.out.call hs); clear hs)
          | (clear T8; go_at_call 16; refine (sameSk_any S kt ct ku cu va ra vc rc N _ HNN.out (by omega) HB.out (HS.out.rd 2 rfl) (HS.out.rd 0 rfl) (HS.out.rd 3 rfl) (HS.out.rd 1 rfl)).mono ?_; rintro e w8 ⟨rfl, hn1⟩; replace HS := Lib.hid (HS.out.go hn1); clear hn1)
          | (clear T9; go_at_call 14; refine (knows_from _ HL.out HS.out.nw).mono ?_; rintro e wk ⟨rfl, hnk⟩))
        go_ret
        exact ⟨rfl, hnk⟩
theorem skelBuilds_law (fv : Value) (f : List I) (cv : Value) (cut : List Bool) (w : World) (hf : FunAt w fv f) (_hi : ∀ x ∈ f, In64I x) (_hn : f.length ≤ maxLen) (hc : RowAt w cv (cut.map .bool)) (_hm : cut.length ≤ maxLen) (hl : Laid w) :
    Calls Tryz.prog 4 #[fv, cv] w fun e w' => e = .returned (.bool true) ∧ New w w' := skelBuilds_walk fv cv f cut w hf hc hl
end Go.Proofs.YtlmnodbhfpgplaaGreatDoor
