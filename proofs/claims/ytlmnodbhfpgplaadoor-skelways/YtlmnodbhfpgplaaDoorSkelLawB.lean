/-
  'SkelWays': the ways to each node are those that the document says: true, for every input.
-/
import Derived.Test.YtlmnodbhfpgplaaDoorSkelK
import Derived.Test.YtlmnodbhfpgplaaDoorSkelRefT
import Derived.Test.YtlmnodbhfpgplaaDoorRefAsmA
namespace Go.Proofs.YtlmnodbhfpgplaaDoor
open Go.RowKit

set_option maxHeartbeats 16000000 in
set_option maxRecDepth 100000 in
theorem skelWays_walk (fv cv : Value) (f : List I) (cut : List Bool) (w : World) (hf : FunAt w fv f) (hc : RowAt w cv (cut.map .bool)) (hl : Laid w) :
    Calls Tryd.prog 3 #[fv, cv] w fun e w' => e = .returned (.bool true) ∧ New w w' := by
  obtain ⟨fa, fc, rfl⟩ := hf.form
  obtain ⟨ca, m, cc, rfl⟩ := hc.form
  have HL := Lib.hid hl
  have HF := Lib.hid hf
  have HC := Lib.hid hc
  have HM : Hid (m = cut.length) := Lib.hid (by rw [hc.len, List.length_map])
  clear hl hf hc
  obtain ⟨n, HN⟩ : ∃ n, Hid (f.length = n) := ⟨_, Lib.hid rfl⟩
  rw [HN.out] at HF ⊢
  cases d3 : decide ((300 : Int) < (n : Int)) with
  | true =>
    go_enter Tryd.func3, Tryd.ntmps3
    go_wp2_with (go_at_call 7; refine (knows_from _ HL.out (New.refl w)).mono ?_; rintro e wk ⟨rfl, hnk⟩)
    go_ret
    exact ⟨rfl, hnk⟩
  | false =>
    cases d4 : decide ((300 : Int) < (m : Int)) with
    | true =>
      go_enter Tryd.func3, Tryd.ntmps3
      go_wp2_with (go_at_call 7; refine (knows_from _ HL.out (New.refl w)).mono ?_; rintro e wk ⟨rfl, hnk⟩)
      go_ret
      exact ⟨rfl, hnk⟩
    | false =>
      by_cases hr : (chkF f).2 = 0
      case neg =>
        have q1 : ((chkF f).2 == 0) = false := bneq_of hr
        have T1 : Hid True := Lib.hid trivial
        clear hr
        go_enter Tryd.func3, Tryd.ntmps3
        go_wp2_with (first
          | (clear T1; go_at_call 6; refine (rasmRight_any _ f _ HF.out).mono ?_; rw [q1]; rintro e w1 ⟨rfl, hn1⟩)
          | (go_at_call 7; refine (knows_from _ HL.out hn1).mono ?_; rintro e wk ⟨rfl, hnk⟩))
        go_ret
        exact ⟨rfl, hnk⟩
      case pos =>
        have q1 : ((chkF f).2 == 0) = true := beq_of hr
        have HR := Lib.hid hr
        have HS := Lib.hid (Sep.start w)
        have HFI : Hid (∀ k, k < (nodesA f cut).length → ∃ x r, edgesA (sklA f cut) (k : Int) = x :: r ∧ x.1 < (k : Int)) := Lib.hid fun k hk => edges_first hr cut hk
        obtain ⟨S, HSK⟩ : ∃ S, Hid (sklA f cut = S) := ⟨_, Lib.hid rfl⟩
        obtain ⟨N, HNN⟩ : ∃ N, Hid (S.nodes.length = N) := ⟨_, Lib.hid rfl⟩
        have HNA : Hid ((nodesA f cut).length = N) := Lib.hid (by rw [← HNN.out, ← HSK.out, skl_nodes, List.length_map])
        have HN2 : Hid (N ≤ 200) := Lib.hid (by
          rw [← HNA.out]
          exact Nat.le_trans (nds_len (nodes_nds hr cut)) (chk_len hr))
        have HB : Hid (∀ x ∈ S.nodes, x.2.length ≤ 10) := Lib.hid (by
          rw [← HSK.out, skl_nodes]
          intro x hx
          obtain ⟨p, _, rfl⟩ := List.mem_map.mp hx
          show (outsOf f cut p).length ≤ 10
          unfold outsOf fromsA
          rw [List.length_map]
          split <;> (try split) <;> simp)
        have HLN : Hid (∀ n, (edgesA S n).length ≤ 10000) := Lib.hid fun n => by
          have h1 := ed_len (s := S) (m := N) (k := 0) (n := n) HB.out
          rw [ed_done (by rw [HNN.out]; exact Nat.le_refl _), HNN.out] at h1
          have := HN2.out
          omega
        have hN2 := HN2.out
        have T1 : Hid True := Lib.hid trivial
        have T2 : Hid True := Lib.hid trivial
        have T3 : Hid True := Lib.hid trivial
        have T4 : Hid True := Lib.hid trivial
        have T5 : Hid True := Lib.hid trivial
        have T6 : Hid True := Lib.hid trivial
        have T7 : Hid True := Lib.hid trivial
        have T8 : Hid True := Lib.hid trivial
        have T9 : Hid True := Lib.hid trivial
        clear hr
        go_enter Tryd.func3, Tryd.ntmps3
        go_wp2_with (first
          | (clear T1; go_at_call 6; refine (rasmRight_any _ f _ HF.out).mono ?_; rw [q1]; rintro e w1 ⟨rfl, hn1⟩; replace HS := Lib.hid (HS.out.go hn1); clear hn1)
          | (clear T2; go_at_call 8; refine (build_in fa n fc f ca m cc cut _ (HL.out.new HS.out.nw) (HF.out.new HS.out.nw) (HC.out.new HS.out.nw) HR.out).mono ?_; rw [HSK.out]; rintro e w2 ⟨vs, rfl, hs⟩; obtain ⟨na, nc, hv⟩ := rowA_form hs.hd; rw [HNN.out] at hv; subst hv; replace HS := Lib.hid (HS.out.call hs); clear hs)
          | (clear T3; refine wpList_alB rfl 34 rfl _ zeroSk_run _ rfl HS.out ?_; intro w3 g5 hs; replace HS := Lib.hid hs; clear hs)
          | (clear T4; refine wpList_stSW 0 rfl rfl 34 (.tmp 5) (.tmp 30) rfl g5 rfl _ rfl HS.out rfl (skC S.entry (.slice na N nc)) rfl (by rw [skC_len, skC_len]) (skC_one _ rfl) (by rw [skC_len]; exact infoSk) ?_; intro w4 hs; replace HS := Lib.hid hs; clear hs)
          | (clear T5; refine wpList_load_mid rfl 34 (.tmp 5) rfl g5 0 rfl (skC S.entry (.slice na N nc)) _ (HasC.all (HS.out.has 0 rfl)) Tryd.underlying34 rfl (by rw [skC_len]; exact infoSk) ?_)
          | (clear T6; go_at_call 9; refine (ways_any S (.slice na N nc) _ (HS.out.rd 1 rfl) (by rw [HNN.out]; omega) HB.out).mono ?_; rw [HNN.out]; rintro e w5 ⟨vw, rfl, hs⟩; obtain ⟨wa, wc, hv⟩ := rowA_form hs.hd; rw [edTab_len] at hv; subst hv; replace HS := Lib.hid (HS.out.call hs); clear hs)
          | (clear T7; go_at_call 10; refine (refBuild_any fa n fc f ca m cc cut _ (HF.out.new HS.out.nw) (HC.out.new HS.out.nw) HR.out).mono ?_; rw [HSK.out]; rintro e w6 ⟨kt, ct, vn, rfl, hs⟩; obtain ⟨ra, rc, hv⟩ := rowA_form (hs.rd 1 rfl); rw [HNN.out] at hv; subst hv; replace HS := Lib.hid (HS.out.call hs); clear hs)
          | (clear T8; refine wpList_alB rfl 45 rfl _ zeroRs_run10 _ rfl HS.out ?_; intro w7 g8 hs; replace HS := Lib.hid hs; clear hs)
          | (clear T9; refine wpList_stSW 0 rfl rfl 45 (.tmp 8) (.tmp 36) rfl g8 rfl _ rfl HS.out rfl (rsC S.entry.1 (.slice (some ⟨kt, 0, none⟩) 24 ct) (.slice ra N rc)) rfl rfl (by simp [rsC, Value.oneCell']) infoRs ?_; intro w8 hs; replace HS := Lib.hid hs; have cn := HS.out.cell 0 rfl (k := 2) rfl; clear hs))
        go_loopw [9] (fun iv wr => ∃ k : Nat, iv = .int .i64 (k : Int) ∧ k ≤ N ∧ Hid (New w8 wr)) (fun iv _ => N - (intOf iv).toNat)
        case atStart => exact ⟨0, rfl, by omega, Lib.hid (New.refl _)⟩
        case round =>
          obtain ⟨k, rfl, hk, HNR⟩ := hrel
          have HT := Lib.hid (HS.out.go HNR.out)
          clear cn
          by_cases hkN : k < N
          · obtain ⟨x, r, hxr, hx⟩ := HFI.out k (by rw [HNA.out]; exact hkN)
            rw [HSK.out] at hxr
            obtain ⟨K, HK⟩ : ∃ K, Hid ((edgesA S (k : Int)).length = K) := ⟨_, Lib.hid rfl⟩
            have hK0 : K ≠ 0 := by rw [← HK.out, hxr]; simp
            have hKpos : 0 < K := by omega
            have hKb : K ≤ 10000 := by rw [← HK.out]; exact HLN.out _
            have HX0 : Hid ((edgesA S (k : Int))[0]? = some x) := Lib.hid (by rw [hxr]; rfl)
            have d0 : decide ((k : Int) ≤ x.1) = false := decide_eq_false (by omega)
            have cs := HT.out.has 0 rfl
            obtain ⟨b2, o2, c2, _, i2, r2, hE2⟩ := rowA_ix (P := Tryd.prog) (HT.out.rd 3 rfl) 38 Tryd.underlying38 sizeEs (edTab_at (edgesA S) hkN)
            obtain ⟨ve, hc2, hre⟩ := es_rd hE2
            subst hc2
            obtain ⟨ea, ec, hv⟩ := rowA_form hre
            rw [HK.out] at hv
            subst hv
            have HR2 := Lib.hid r2
            have HRE := Lib.hid hre
            have HI2 := Lib.hid i2
            have U1 : Hid True := Lib.hid trivial
            have U2 : Hid True := Lib.hid trivial
            clear hxr r2 hE2 hre hx i2 cs
            go_wp2_with (first
              | (clear U1; refine wpList_load_mid rfl 45 (.tmp 8) rfl g8 0 rfl (rsC S.entry.1 (.slice (some ⟨kt, 0, none⟩) 24 ct) (.slice ra N rc)) _ (HasC.all (HT.out.has 0 rfl)) Tryd.underlying45 rfl infoRs ?_)
              | (clear U2; go_at_call 11; refine (refTo_any S (some ⟨kt, 0, none⟩) 24 ct ra rc N (k : Int) _ HNN.out (HT.out.rd 2 rfl) (by omega) HB.out).mono ?_; rintro e wt ⟨vt, rfl, hs⟩; obtain ⟨la, lc, hv⟩ := rowA_form hs.hd; rw [HK.out] at hv; subst hv; have NT := Lib.hid hs.nw; have HLT := Lib.hid hs; have y0 := HR2.out _ NT.out 0 _ rfl; rw [Nat.add_zero] at y0; have i2 := HI2.out; obtain ⟨b3, o3, i3, r3⟩ := leaf_ix (P := Tryd.prog) (hs.rd 0 rfl) 47 Tryd.underlying47 sizeEd HX0.out; replace i3 : ∀ w', (Instr.indexAt 47 _ (.int .i64 0)).run Tryd.prog w' = .ok _ w' := i3; have x0 := r3 _ (New.refl _) 0 _ rfl; rw [Nat.add_zero] at x0; clear hs r3))
            go_loopw [11] (fun jv wr => ∃ j : Nat, jv = .int .i64 (j : Int) ∧ j ≤ K ∧ Hid (New wt wr)) (fun jv _ => K - (intOf jv).toNat)
            case atStart => exact ⟨0, rfl, by omega, Lib.hid (New.refl _)⟩
            case round =>
              obtain ⟨j, rfl, hj, HNJ⟩ := hrel
              by_cases hjK : j < K
              · obtain ⟨z, hz⟩ : ∃ z, (edgesA S (k : Int))[j]? = some z := ⟨_, List.getElem?_eq_getElem (by rw [HK.out]; exact hjK)⟩
                obtain ⟨b4, o4, i4, r4⟩ := leaf_ix (P := Tryd.prog) (HLT.out.rd 0 rfl) 47 Tryd.underlying47 sizeEd hz
                obtain ⟨b5, o5, i5, r5⟩ := leaf_ix (P := Tryd.prog) HRE.out 47 Tryd.underlying47 sizeEd hz
                have HR4 := Lib.hid r4
                have HR5 := Lib.hid r5
                have hq := neq_ed z.1 z.2
                have u3 := Tryd.underlying3
                have a3 := Tryd.isAgg3
                clear hz r4 r5 i3 x0 y0
                go_wp2_with fail
                have S0 : Hid (New wr wr.drew) := Lib.hid ((New.refl wr).drew)
                refine wp_region_noPanic ?_
                refine wp_region_held_drew (S := fun w' => New wr w') (by kernel_rfl) S0.out (fun _ => ?_)
                refine wpAnyH_take (i := 0) (v := .slice la K lc) rfl (by kernel_rfl) (by kernel_rfl) (by kernel_rfl) (fun _ _ _ h => h) (Or.inl ⟨rfl, fun _ _ => by go_simp⟩) S0.out ?_
                simp only [List.getElem_toArray, List.getElem_cons_zero, Act.put, List.setIfInBounds_toArray, List.set_cons_zero, List.set_cons_succ]
                refine wpAnyH_take (i := 1) (v := .int .i64 (j : Int)) rfl (by kernel_rfl) (by kernel_rfl) (by kernel_rfl) (fun _ _ _ h => h) (Or.inl ⟨rfl, fun _ _ => by go_simp⟩) S0.out ?_
                simp only [List.getElem_toArray, List.getElem_cons_zero, List.getElem_cons_succ, Act.put, List.setIfInBounds_toArray, List.set_cons_zero, List.set_cons_succ]
                refine wpAnyH_take (i := 2) (v := .pointer (some ⟨b4, o4, none⟩)) rfl (by kernel_rfl) (by kernel_rfl) (by kernel_rfl) (fun _ _ _ h => h) (ixV_if rfl 47 (.tmp 83) (.tmp 84) rfl _ _ _ rfl rfl i4) S0.out ?_
                simp only [List.getElem_toArray, List.getElem_cons_zero, List.getElem_cons_succ, Act.put, List.setIfInBounds_toArray, List.set_cons_zero, List.set_cons_succ]
                refine wpAnyH_take (i := 3) (v := .agg #[.int .i64 z.1, .int .i64 z.2]) rfl (by kernel_rfl) (by kernel_rfl) (by kernel_rfl) (fun _ _ _ h => h) (yieldsIf_load_mid (by rfl) _ _ rfl b4 o4 rfl (edK z) _ (fun w' h => HR4.out _ (HNJ.out.trans h)) Tryd.underlying50 rfl infoEd2) S0.out ?_
                simp only [List.getElem_toArray, List.getElem_cons_zero, List.getElem_cons_succ, Act.put, List.setIfInBounds_toArray, List.set_cons_zero, List.set_cons_succ]
                refine wpAnyH_take (i := 4) (v := .slice wa N wc) rfl (by kernel_rfl) (by kernel_rfl) (by kernel_rfl) (fun _ _ _ h => h) (Or.inl ⟨rfl, fun _ _ => by go_simp⟩) S0.out ?_
                simp only [List.getElem_toArray, List.getElem_cons_zero, List.getElem_cons_succ, Act.put, List.setIfInBounds_toArray, List.set_cons_zero, List.set_cons_succ]
                refine wpAnyH_take (i := 5) (v := .int .i64 (k : Int)) rfl (by kernel_rfl) (by kernel_rfl) (by kernel_rfl) (fun _ _ _ h => h) (Or.inl ⟨rfl, fun _ _ => by go_simp⟩) S0.out ?_
                simp only [List.getElem_toArray, List.getElem_cons_zero, List.getElem_cons_succ, Act.put, List.setIfInBounds_toArray, List.set_cons_zero, List.set_cons_succ]
                refine wpAnyH_take (i := 6) (v := .pointer (some ⟨b2, o2, none⟩)) rfl (by kernel_rfl) (by kernel_rfl) (by kernel_rfl) (fun _ _ _ h => h) (ixV_if rfl 38 (.tmp 87) (.tmp 88) rfl _ _ _ rfl rfl i2) S0.out ?_
                simp only [List.getElem_toArray, List.getElem_cons_zero, List.getElem_cons_succ, Act.put, List.setIfInBounds_toArray, List.set_cons_zero, List.set_cons_succ]
                refine wpAnyH_take (i := 7) (v := .slice ea K ec) rfl (by kernel_rfl) (by kernel_rfl) (by kernel_rfl) (fun _ _ _ h => h) (ldV_if rfl 47 Tryd.isAgg47 (.tmp 89) rfl ⟨b2, o2, none⟩ rfl (fun w' h => HR2.out w' ((NT.out.trans HNJ.out).trans h) 0 _ rfl)) S0.out ?_
                simp only [List.getElem_toArray, List.getElem_cons_zero, List.getElem_cons_succ, Act.put, List.setIfInBounds_toArray, List.set_cons_zero, List.set_cons_succ]
                refine wpAnyH_take (i := 8) (v := .int .i64 (j : Int)) rfl (by kernel_rfl) (by kernel_rfl) (by kernel_rfl) (fun _ _ _ h => h) (Or.inl ⟨rfl, fun _ _ => by go_simp⟩) S0.out ?_
                simp only [List.getElem_toArray, List.getElem_cons_zero, List.getElem_cons_succ, Act.put, List.setIfInBounds_toArray, List.set_cons_zero, List.set_cons_succ]
                refine wpAnyH_take (i := 9) (v := .pointer (some ⟨b5, o5, none⟩)) rfl (by kernel_rfl) (by kernel_rfl) (by kernel_rfl) (fun _ _ _ h => h) (ixV_if rfl 47 (.tmp 90) (.tmp 91) rfl _ _ _ rfl rfl i5) S0.out ?_
                simp only [List.getElem_toArray, List.getElem_cons_zero, List.getElem_cons_succ, Act.put, List.setIfInBounds_toArray, List.set_cons_zero, List.set_cons_succ]
                refine wpAnyH_take (i := 10) (v := .agg #[.int .i64 z.1, .int .i64 z.2]) rfl (by kernel_rfl) (by kernel_rfl) (by kernel_rfl) (fun _ _ _ h => h) (yieldsIf_load_mid (by rfl) _ _ rfl b5 o5 rfl (edK z) _ (fun w' h => HR5.out _ ((NT.out.trans HNJ.out).trans h)) Tryd.underlying50 rfl infoEd2) S0.out ?_
                simp only [List.getElem_toArray, List.getElem_cons_zero, List.getElem_cons_succ, Act.put, List.setIfInBounds_toArray, List.set_cons_zero, List.set_cons_succ]
                refine wpAnyH_forced [11] _ _ _ S0.out (by kernel_rfl) (by simp) ?_
                simp only [List.map_cons, List.map_nil, Array.getD_eq_getD_getElem?, List.getElem?_toArray, List.getElem?_cons_succ, List.getElem?_cons_zero, Option.getD_some]
                refine wpLS_value rfl (.bool false) S0.out (by go_simp) ?_
                simp only [Act.put, List.setIfInBounds_toArray, List.set_cons_zero, List.set_cons_succ]
                refine wpLS_nil ?_
                refine NoPanic.normal ?_
                go_wp2
                go_roundw
                case rel => exact ⟨j + 1, by go_num, by omega, Lib.hid (HNJ.out.trans S0.out)⟩
                case measure => simp [intOf]; omega
              · clear i3 x0 y0
                go_wp2_with fail
                go_roundw
                case rel => exact ⟨k + 1, by go_num, by omega, Lib.hid ((HNR.out.trans NT.out).trans HNJ.out)⟩
                case measure => simp [intOf]; omega
          · go_wp2_with (go_at_call 7; refine (knows_from _ HL.out HT.out.nw).mono ?_; rintro e wk ⟨rfl, hnk⟩)
            go_ret
            exact ⟨rfl, hnk⟩
theorem skelWays_law (fv : Value) (f : List I) (cv : Value) (cut : List Bool) (w : World) (hf : FunAt w fv f) (_hi : ∀ x ∈ f, In64I x) (_hn : f.length ≤ maxLen) (hc : RowAt w cv (cut.map .bool)) (_hm : cut.length ≤ maxLen) (hl : Laid w) :
    Calls Tryd.prog 3 #[fv, cv] w fun e w' => e = .returned (.bool true) ∧ New w w' := skelWays_walk fv cv f cut w hf hc hl
end Go.Proofs.YtlmnodbhfpgplaaDoor
