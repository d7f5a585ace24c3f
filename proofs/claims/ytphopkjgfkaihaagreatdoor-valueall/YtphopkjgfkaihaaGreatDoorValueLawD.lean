/-
  'ValueAll': what all places have by all ways is, way by way, what each has: true, for every input.
-/
import Derived.Test.YtphopkjgfkaihaaGreatDoorValueLaw0
namespace Go.Proofs.YtphopkjgfkaihaaGreatDoor
open Go.RowKit

set_option maxHeartbeats 16000000 in
set_option maxRecDepth 100000 in
theorem valueAll_walk (fv cv : Value) (f : List I) (cut : List Bool) (w : World) (hf : FunAt w fv f) (hc : RowAt w cv (cut.map .bool)) (hl : Laid w) :
    Calls Tryz.prog 4 #[fv, cv] w fun e w' => e = .returned (.bool true) ∧ New w w' := by
  obtain ⟨fa, fc, rfl⟩ := hf.form
  obtain ⟨ca, m, cc, rfl⟩ := hc.form
  have HL := Lib.hid hl
  have HF := Lib.hid hf
  have HC := Lib.hid hc
  clear hl hf hc
  obtain ⟨n, HN⟩ : ∃ n, Hid (f.length = n) := ⟨_, Lib.hid rfl⟩
  rw [HN.out] at HF ⊢
  cases d3 : decide ((60 : Int) < (n : Int)) with
  | true =>
    go_enter Tryz.func4, Tryz.ntmps4
    go_wp2_with (go_at_call 11; refine (knows_from11 _ HL.out (New.refl w)).mono ?_; rintro e wk ⟨rfl, hnk⟩)
    go_ret
    exact ⟨rfl, hnk⟩
  | false =>
    cases d4 : decide ((300 : Int) < (m : Int)) with
    | true =>
      go_enter Tryz.func4, Tryz.ntmps4
      go_wp2_with (go_at_call 11; refine (knows_from11 _ HL.out (New.refl w)).mono ?_; rintro e wk ⟨rfl, hnk⟩)
      go_ret
      exact ⟨rfl, hnk⟩
    | false =>
      by_cases hr : (chkF f).2 = 0
      case neg =>
        have q1 : ((chkF f).2 == 0) = false := bneq_of hr
        have T1 : Hid True := Lib.hid trivial
        clear hr
        go_enter Tryz.func4, Tryz.ntmps4
        go_wp2_with (first
          | (clear T1; go_at_call 10; refine (rasmRight_any _ f _ HF.out).mono ?_; rw [q1]; rintro e w1 ⟨rfl, hn1⟩)
          | (go_at_call 11; refine (knows_from11 _ HL.out hn1).mono ?_; rintro e wk ⟨rfl, hnk⟩))
        go_ret
        exact ⟨rfl, hnk⟩
      case pos =>
        have q1 : ((chkF f).2 == 0) = true := beq_of hr
        have HR := Lib.hid hr
        have HS := Lib.hid (Sep.start w)
        obtain ⟨F, hF⟩ := fact_tab f (sklA f cut)
        have HFT0 := Lib.hid hF
        have hgs := good_skl f cut
        have hin := inS_skl hr cut
        have hfw := skl_few hr cut
        have HALL := Lib.hid fun (fv v : Value) (w : World) (h1 : Laid w) (h2 : FunAt w fv f) (h3 : (nodesO v (sklA f cut).nodes).rd w) => all_pub h1 h2 hr h3
        have HFCT := Lib.hid fun (fv v : Value) (w : World) (h1 : Laid w) (h2 : FunAt w fv f) (h3 : (nodesO v (sklA f cut).nodes).rd w) => facts_pub h1 h2 hr h3 hF
        have HBY := Lib.hid fun (e : Ed) (l : Nat) (fv v : Value) (w : World) (he : hasE (sklA f cut) e) (hl : l < 24) (h1 : Laid w) (h2 : FunAt w fv f) (h3 : (nodesO v (sklA f cut).nodes).rd w) => by_pub e l h1 h2 hr h3 he hl
        have HBN := Lib.hid fun (e : Ed) (l : Int) (fv v : Value) (w : World) (he : ¬ (hasE (sklA f cut) e ∧ 0 ≤ l ∧ l < 24)) (h3 : (nodesO v (sklA f cut).nodes).rd w) => by_none (f := f) (fv := fv) e l hr h3 he
        obtain ⟨S, HSK⟩ : ∃ S, Hid (sklA f cut = S) := ⟨_, Lib.hid rfl⟩
        rw [HSK.out] at HALL HFCT HBY HBN HFT0 hgs hin hfw
        obtain ⟨N, HNN⟩ : ∃ N, Hid (S.nodes.length = N) := ⟨_, Lib.hid rfl⟩
        rw [HNN.out] at hfw HFCT
        have hN2 : N ≤ 200 := hfw
        have HGS := Lib.hid hgs
        have HIS := Lib.hid hin
        clear hr hF hgs hin hfw
        have T1 : Hid True := Lib.hid trivial
        have T2 : Hid True := Lib.hid trivial
        have T3 : Hid True := Lib.hid trivial
        have T4 : Hid True := Lib.hid trivial
        have T5 : Hid True := Lib.hid trivial
        have T6 : Hid True := Lib.hid trivial
        have T7 : Hid True := Lib.hid trivial
        have T8 : Hid True := Lib.hid trivial
        have T9 : Hid True := Lib.hid trivial
        go_enter Tryz.func4, Tryz.ntmps4
        go_wp2_with (first
          | (clear T1; go_at_call 10; refine (rasmRight_any _ f _ HF.out).mono ?_; rw [q1]; rintro e w1 ⟨rfl, hn1⟩; replace HS := Lib.hid (HS.out.go hn1); clear hn1)
          | (clear T2; go_at_call 12; refine (build_in fa n fc f ca m cc cut _ (HL.out.new HS.out.nw) (HF.out.new HS.out.nw) (HC.out.new HS.out.nw) HR.out).mono ?_; rw [HSK.out]; rintro e w2 ⟨vs, rfl, hs⟩; obtain ⟨na, nc, hv⟩ := rowA_form hs.hd; rw [HNN.out] at hv; subst hv; replace HS := Lib.hid (HS.out.call hs); clear hs)
          | (clear T3; refine wpList_alB rfl 34 rfl _ zeroSk_run _ rfl HS.out ?_; intro w3 g5 hs; replace HS := Lib.hid hs; clear hs)
          | (clear T4; refine wpList_stSW 0 rfl rfl 34 (.tmp 5) (.tmp 31) rfl g5 rfl _ rfl HS.out rfl (skC S.entry (.slice na N nc)) rfl (by rw [skC_len, skC_len]) (skC_one _ rfl) (by rw [skC_len]; exact infoSk) ?_; intro w4 hs; replace HS := Lib.hid hs; clear hs)
          | (clear T5; refine wpList_load_mid rfl 34 (.tmp 5) rfl g5 0 rfl (skC S.entry (.slice na N nc)) _ (HasC.all (HS.out.has 0 rfl)) Tryz.underlying34 rfl (by rw [skC_len]; exact infoSk) ?_)
          | (clear T6; go_at_call 17; refine (HALL.out _ _ _ (HL.out.new HS.out.nw) (HF.out.new HS.out.nw) (HS.out.rd 1 rfl)).mono ?_; rintro e w5 ⟨va, rfl, hs⟩; obtain ⟨aa, ac, hv⟩ := rowA_form hs.hd; rw [allT_len, HNN.out] at hv; subst hv; replace HS := Lib.hid (HS.out.call hs); clear hs)
          | (clear T7; go_at_call 14; refine (refBuild_any fa n fc f ca m cc cut _ (HF.out.new HS.out.nw) (HC.out.new HS.out.nw) HR.out).mono ?_; rw [HSK.out]; rintro e w6 ⟨kt, ct, vn, rfl, hs⟩; obtain ⟨ra, rc, hv⟩ := rowA_form (hs.rd 1 rfl); rw [HNN.out] at hv; subst hv; have HRS0 : Hid (RefS w6 S kt ct ra rc N) := Lib.hid ⟨hs.rd 0 rfl, hs.rd 1 rfl, HNN.out, hN2, HGS.out⟩; replace HS := Lib.hid (HS.out.call hs); clear hs)
          | (clear T8; refine wpList_alB rfl 48 rfl _ zeroRs_run10 _ rfl HS.out ?_; intro w7 g8 hs; replace HS := Lib.hid hs; clear hs)
          | (clear T9; refine wpList_stSW 0 rfl rfl 48 (.tmp 8) (.tmp 38) rfl g8 rfl _ rfl HS.out rfl (rsC S.entry.1 (.slice (some ⟨kt, 0, none⟩) 24 ct) (.slice ra N rc)) rfl rfl (by simp [rsC, Value.oneCell']) infoRs ?_; intro w8 hs; replace HS := Lib.hid hs; have cn := HS.out.cell 0 rfl (k := 2) rfl; clear hs))
        have HRA := Lib.hid (HS.out.rd 3 rfl)
        have B8 := Lib.hid (HS.out.has 0 rfl)
        have HRS : Hid (RefS w8 S kt ct ra rc N) := Lib.hid ⟨HS.out.rd 1 rfl, HS.out.rd 2 rfl, HNN.out, hN2, HGS.out⟩
        have N8 : Hid (New w w8) := Lib.hid HS.out.nw
        have HLN : Hid (∀ m : Int, (edgesA S m).length ≤ 100000) := Lib.hid fun m => by
          have h1 := ed_len (s := S) (m := N) (k := 0) (n := m) HGS.out.b
          rw [ed_done (by rw [HNN.out]; exact Nat.le_refl _), HNN.out] at h1
          omega
        clear HS cn
        go_loopw [9] (fun iv wr => ∃ k : Nat, iv = .int .i64 (k : Int) ∧ k ≤ N ∧ Hid (New w8 wr)) (fun iv _ => N - (intOf iv).toNat)
        case atStart => exact ⟨0, rfl, by omega, Lib.hid (New.refl _)⟩
        case round =>
          obtain ⟨k, rfl, hk, HNR⟩ := hrel
          have B8r := HasC.new B8.out HNR.out
          by_cases hkN : k < N
          · obtain ⟨es, HES⟩ : ∃ es, Hid (edgesA S (k : Int) = es) := ⟨_, Lib.hid rfl⟩
            obtain ⟨K, HK⟩ : ∃ K, Hid (es.length = K) := ⟨_, Lib.hid rfl⟩
            have hK : K ≤ 100000 := by rw [← HK.out, ← HES.out]; exact HLN.out _
            obtain ⟨b1, o1, u1, i1, r1, d1⟩ := nest_ix (P := Tryz.prog) HRA.out 53 Tryz.underlying53 sizeFs (allT_at (by rw [HNN.out]; exact hkN))
            obtain ⟨a1, c1, hu1⟩ := rowA_form d1
            rw [show (nodeT f S k).length = K by unfold nodeT; rw [List.length_map, HES.out, HK.out]] at hu1
            subst hu1
            have H1 := Lib.hid r1
            have HD1 := Lib.hid d1
            clear r1 d1
            have U1 : Hid True := Lib.hid trivial
            have U2 : Hid True := Lib.hid trivial
            go_wp2_with (first
              | (clear U1; refine wpList_load_mid rfl 48 (.tmp 8) rfl g8 0 rfl (rsC S.entry.1 (.slice (some ⟨kt, 0, none⟩) 24 ct) (.slice ra N rc)) _ (HasC.all B8r) Tryz.underlying48 rfl infoRs ?_)
              | (clear U2; go_at_call 18; refine (refTo_any S (some ⟨kt, 0, none⟩) 24 ct ra rc N (k : Int) _ HNN.out (HRS.out.n.new HNR.out) (by omega) HGS.out.b).mono ?_; rw [HES.out]; rintro e wt ⟨vt, rfl, hs⟩; obtain ⟨la, lc, hv⟩ := rowA_form hs.hd; rw [HK.out] at hv; subst hv; have NT : Hid (New w8 wt) := Lib.hid (HNR.out.trans hs.nw); have HE := Lib.hid (hs.rd 0 rfl); have y1 := H1.out _ NT.out; clear hs B8r))
            go_loopw [11] (fun jv wq => ∃ j : Nat, jv = .int .i64 (j : Int) ∧ j ≤ K ∧ Hid (New wt wq)) (fun jv _ => K - (intOf jv).toNat)
            case atStart => exact ⟨0, rfl, by omega, Lib.hid (New.refl _)⟩
            case round =>
              clear y1
              obtain ⟨j, rfl, hj, HNJ⟩ := hrel
              have y1 := H1.out _ (NT.out.trans HNJ.out)
              by_cases hjK : j < K
              · obtain ⟨e, he⟩ : ∃ e, es[j]? = some e := ⟨_, List.getElem?_eq_getElem (by rw [HK.out]; exact hjK)⟩
                have HEM : Hid (e ∈ edgesA S (k : Int)) := Lib.hid (by rw [HES.out]; exact List.mem_of_getElem? he)
                obtain ⟨b2, o2, u2, i2, r2, d2⟩ := nest_ix (P := Tryz.prog) HD1.out 57 Tryz.underlying57 sizeSs (nodeT_at (by rw [HES.out]; exact he))
                obtain ⟨a2, c2, hu2⟩ := rowA_form d2
                rw [show (rowT f S e).length = 24 by simp [rowT]] at hu2
                subst hu2
                obtain ⟨b4, o4, i4, r4⟩ := leaf_ix (P := Tryz.prog) HE.out 55 Tryz.underlying55 sizeEd he
                have H2 := Lib.hid r2
                have HD2 := Lib.hid d2
                have H4 := Lib.hid r4
                have y2 := r2 _ (NT.out.trans HNJ.out)
                clear he r2 d2 r4
                go_wp2_with fail
                go_loopw [12] (fun lv wz => ∃ l : Nat, lv = .int .i64 (l : Int) ∧ l ≤ 24 ∧ Hid (New wt wz)) (fun lv _ => 24 - (intOf lv).toNat)
                case atStart => exact ⟨0, rfl, by omega, HNJ⟩
                case round =>
                  clear y1 y2
                  obtain ⟨l, rfl, hl, HNZ⟩ := hrel
                  by_cases hl24 : l < 24
                  · obtain ⟨b3, o3, i3, r3⟩ := leaf_ix (P := Tryz.prog) HD2.out 58 Tryz.underlying58 sizeSr (rowT_at hl24)
                    obtain ⟨R, HRR⟩ : ∃ R, Hid (byA f S e l = R) := ⟨_, Lib.hid rfl⟩
                    rw [HRR.out] at r3
                    have H3 := Lib.hid r3
                    have hq : ∀ w, (binOp .neq 39 (.agg #[.int .i64 R.1, .int .i64 R.2]) (.agg (srcK R).toArray)).run Tryz.prog w = .ok (.bool false) w := fun w => by
                      have := neq_sr R R w
                      rw [decide_eq_true rfl] at this
                      exact this
                    have NZ : Hid (New w8 wr) := Lib.hid (NT.out.trans HNZ.out)
                    have u3 := Tryz.underlying3
                    have a3 := Tryz.isAgg3
                    have u4 := Tryz.underlying2
                    have a4 := Tryz.isAgg2
                    clear r3
                    go_wp2_with fail
                    have S0 : New wr wr.drew := (New.refl wr).drew
                    refine wp_region_noPanic ?_
                    refine wp_region_held_drew (S := fun w' => New wr w') (by kernel_rfl) S0 (fun _ => ?_)
                    refine wpAnyH_take (i := 0) (v := .slice aa N ac) rfl (by kernel_rfl) (by kernel_rfl) (by kernel_rfl) (fun _ _ _ h => h) (Or.inl ⟨rfl, fun _ _ => by go_simp⟩) S0 ?_
                    simp only [List.getElem_toArray, List.getElem_cons_zero, Act.put, List.setIfInBounds_toArray, List.set_cons_zero, List.set_cons_succ]
                    refine wpAnyH_take (i := 1) (v := .int .i64 (k : Int)) rfl (by kernel_rfl) (by kernel_rfl) (by kernel_rfl) (fun _ _ _ h => h) (Or.inl ⟨rfl, fun _ _ => by go_simp⟩) S0 ?_
                    simp only [List.getElem_toArray, List.getElem_cons_zero, List.getElem_cons_succ, Act.put, List.setIfInBounds_toArray, List.set_cons_zero, List.set_cons_succ]
                    refine wpAnyH_take (i := 2) (v := .pointer (some ⟨b1, o1, none⟩)) rfl (by kernel_rfl) (by kernel_rfl) (by kernel_rfl) (fun _ _ _ h => h) (ixV_if rfl 53 (.tmp 85) (.tmp 86) rfl _ _ _ rfl rfl i1) S0 ?_
                    simp only [List.getElem_toArray, List.getElem_cons_zero, List.getElem_cons_succ, Act.put, List.setIfInBounds_toArray, List.set_cons_zero, List.set_cons_succ]
                    refine wpAnyH_take (i := 3) (v := .slice a1 K c1) rfl (by kernel_rfl) (by kernel_rfl) (by kernel_rfl) (fun _ _ _ h => h) (ldV_if rfl 57 Tryz.isAgg57 (.tmp 87) rfl ⟨b1, o1, none⟩ rfl (fun w' h => H1.out _ (NZ.out.trans h))) S0 ?_
                    simp only [List.getElem_toArray, List.getElem_cons_zero, List.getElem_cons_succ, Act.put, List.setIfInBounds_toArray, List.set_cons_zero, List.set_cons_succ]
                    refine wpAnyH_take (i := 4) (v := .int .i64 (j : Int)) rfl (by kernel_rfl) (by kernel_rfl) (by kernel_rfl) (fun _ _ _ h => h) (Or.inl ⟨rfl, fun _ _ => by go_simp⟩) S0 ?_
                    simp only [List.getElem_toArray, List.getElem_cons_zero, List.getElem_cons_succ, Act.put, List.setIfInBounds_toArray, List.set_cons_zero, List.set_cons_succ]
                    refine wpAnyH_take (i := 5) (v := .pointer (some ⟨b2, o2, none⟩)) rfl (by kernel_rfl) (by kernel_rfl) (by kernel_rfl) (fun _ _ _ h => h) (ixV_if rfl 57 (.tmp 88) (.tmp 89) rfl _ _ _ rfl rfl i2) S0 ?_
                    simp only [List.getElem_toArray, List.getElem_cons_zero, List.getElem_cons_succ, Act.put, List.setIfInBounds_toArray, List.set_cons_zero, List.set_cons_succ]
                    refine wpAnyH_take (i := 6) (v := .slice a2 24 c2) rfl (by kernel_rfl) (by kernel_rfl) (by kernel_rfl) (fun _ _ _ h => h) (ldV_if rfl 58 Tryz.isAgg58 (.tmp 90) rfl ⟨b2, o2, none⟩ rfl (fun w' h => H2.out _ (NZ.out.trans h))) S0 ?_
                    simp only [List.getElem_toArray, List.getElem_cons_zero, List.getElem_cons_succ, Act.put, List.setIfInBounds_toArray, List.set_cons_zero, List.set_cons_succ]
                    refine wpAnyH_take (i := 7) (v := .int .i64 (l : Int)) rfl (by kernel_rfl) (by kernel_rfl) (by kernel_rfl) (fun _ _ _ h => h) (Or.inl ⟨rfl, fun _ _ => by go_simp⟩) S0 ?_
                    simp only [List.getElem_toArray, List.getElem_cons_zero, List.getElem_cons_succ, Act.put, List.setIfInBounds_toArray, List.set_cons_zero, List.set_cons_succ]
                    refine wpAnyH_take (i := 8) (v := .pointer (some ⟨b3, o3, none⟩)) rfl (by kernel_rfl) (by kernel_rfl) (by kernel_rfl) (fun _ _ _ h => h) (ixV_if rfl 58 (.tmp 91) (.tmp 92) rfl _ _ _ rfl rfl i3) S0 ?_
                    simp only [List.getElem_toArray, List.getElem_cons_zero, List.getElem_cons_succ, Act.put, List.setIfInBounds_toArray, List.set_cons_zero, List.set_cons_succ]
                    refine wpAnyH_take (i := 9) (v := .agg #[.int .i64 R.1, .int .i64 R.2]) rfl (by kernel_rfl) (by kernel_rfl) (by kernel_rfl) (fun _ _ _ h => h) (yieldsIf_load_mid (by rfl) _ _ rfl b3 o3 rfl (srcK R) _ (fun w' h => H3.out _ (NZ.out.trans h)) Tryz.underlying39 rfl infoSr) S0 ?_
                    simp only [List.getElem_toArray, List.getElem_cons_zero, List.getElem_cons_succ, Act.put, List.setIfInBounds_toArray, List.set_cons_zero, List.set_cons_succ]
                    refine wpAnyH_take (i := 10) (v := .slice fa n fc) rfl (by kernel_rfl) (by kernel_rfl) (by kernel_rfl) (fun _ _ _ h => h) (Or.inl ⟨rfl, fun _ _ => by go_simp⟩) S0 ?_
                    simp only [List.getElem_toArray, List.getElem_cons_zero, List.getElem_cons_succ, Act.put, List.setIfInBounds_toArray, List.set_cons_zero, List.set_cons_succ]
                    refine wpAnyH_take (i := 11) (v := rsV S kt ct ra rc N) rfl (by kernel_rfl) (by kernel_rfl) (by kernel_rfl) (fun _ _ _ h => h) (yieldsIf_load_mid (by rfl) _ _ rfl g8 0 rfl (rsC S.entry.1 (.slice (some ⟨kt, 0, none⟩) 24 ct) (.slice ra N rc)) _ (fun w' h => HasC.all (HasC.new B8.out (NZ.out.trans h))) Tryz.underlying48 rfl infoRs) S0 ?_
                    simp only [List.getElem_toArray, List.getElem_cons_zero, List.getElem_cons_succ, Act.put, List.setIfInBounds_toArray, List.set_cons_zero, List.set_cons_succ]
                    refine wpAnyH_take (i := 12) (v := .slice la K lc) rfl (by kernel_rfl) (by kernel_rfl) (by kernel_rfl) (fun _ _ _ h => h) (Or.inl ⟨rfl, fun _ _ => by go_simp⟩) S0 ?_
                    simp only [List.getElem_toArray, List.getElem_cons_zero, List.getElem_cons_succ, Act.put, List.setIfInBounds_toArray, List.set_cons_zero, List.set_cons_succ]
                    refine wpAnyH_take (i := 13) (v := .int .i64 (j : Int)) rfl (by kernel_rfl) (by kernel_rfl) (by kernel_rfl) (fun _ _ _ h => h) (Or.inl ⟨rfl, fun _ _ => by go_simp⟩) S0 ?_
                    simp only [List.getElem_toArray, List.getElem_cons_zero, List.getElem_cons_succ, Act.put, List.setIfInBounds_toArray, List.set_cons_zero, List.set_cons_succ]
                    refine wpAnyH_take (i := 14) (v := .pointer (some ⟨b4, o4, none⟩)) rfl (by kernel_rfl) (by kernel_rfl) (by kernel_rfl) (fun _ _ _ h => h) (ixV_if rfl 55 (.tmp 97) (.tmp 98) rfl _ _ _ rfl rfl i4) S0 ?_
                    simp only [List.getElem_toArray, List.getElem_cons_zero, List.getElem_cons_succ, Act.put, List.setIfInBounds_toArray, List.set_cons_zero, List.set_cons_succ]
                    refine wpAnyH_take (i := 15) (v := .agg #[.int .i64 e.1, .int .i64 e.2]) rfl (by kernel_rfl) (by kernel_rfl) (by kernel_rfl) (fun _ _ _ h => h) (yieldsIf_load_mid (by rfl) _ _ rfl b4 o4 rfl (edK e) _ (fun w' h => H4.out _ (HNZ.out.trans h)) Tryz.underlying42 rfl infoEd2) S0 ?_
                    simp only [List.getElem_toArray, List.getElem_cons_zero, List.getElem_cons_succ, Act.put, List.setIfInBounds_toArray, List.set_cons_zero, List.set_cons_succ]
                    refine wpAnyH_take (i := 16) (v := .int .i64 (l : Int)) rfl (by kernel_rfl) (by kernel_rfl) (by kernel_rfl) (fun _ _ _ h => h) (Or.inl ⟨rfl, fun _ _ => by go_simp⟩) S0 ?_
                    simp only [List.getElem_toArray, List.getElem_cons_zero, List.getElem_cons_succ, Act.put, List.setIfInBounds_toArray, List.set_cons_zero, List.set_cons_succ]
                    refine wpAnyH_forced [17, 18] _ _ _ S0 (by kernel_rfl) (by simp) ?_
                    simp only [List.map_cons, List.map_nil, Array.getD_eq_getD_getElem?, List.getElem?_toArray, List.getElem?_cons_succ, List.getElem?_cons_zero, Option.getD_some]
                    refine wpLS_call rfl 16 #[.slice fa n fc, rsV S kt ct ra rc N, .agg #[.int .i64 e.1, .int .i64 e.2], .int .i64 (l : Int)] (by go_simp) ?_
                    refine (rby_any (HRS.out.new (NZ.out.trans S0)) (HF.out.new (N8.out.trans (NZ.out.trans S0))) HIS.out hl24 (edge_has HEM.out)).mono ?_
                    rw [HRR.out]
                    rintro r w10 ⟨rfl, hn⟩
                    refine ⟨_, rfl, S0.trans hn, ?_⟩
                    simp only [Act.put, List.setIfInBounds_toArray, List.set_cons_zero, List.set_cons_succ]
                    refine wpLS_value rfl (.bool false) (S0.trans hn) (by go_simp) ?_
                    refine wpLS_nil ?_
                    have NF := Lib.hid (S0.trans hn)
                    refine NoPanic.normal ?_
                    clear S0 hn
                    go_wp2
                    go_roundw
                    case rel => exact ⟨l + 1, by go_num, by omega, Lib.hid (HNZ.out.trans NF.out)⟩
                    case measure => simp [intOf]; omega
                  · go_wp2_with fail
                    go_roundw
                    case rel => exact ⟨j + 1, by go_num, by omega, HNZ⟩
                    case measure => simp [intOf]; omega
              · go_wp2_with fail
                go_roundw
                case rel => exact ⟨k + 1, by go_num, by omega, Lib.hid (NT.out.trans HNJ.out)⟩
                case measure => simp [intOf]; omega
          · go_wp2_with (go_at_call 11; refine (knows_from11 _ HL.out (N8.out.trans HNR.out)).mono ?_; rintro e wk ⟨rfl, hnk⟩)
            go_ret
            exact ⟨rfl, hnk⟩
theorem valueAll_law (fv : Value) (f : List I) (cv : Value) (cut : List Bool) (w : World) (hf : FunAt w fv f) (_hi : ∀ x ∈ f, In64I x) (_hn : f.length ≤ maxLen) (hc : RowAt w cv (cut.map .bool)) (_hm : cut.length ≤ maxLen) (hl : Laid w) :
    Calls Tryz.prog 4 #[fv, cv] w fun e w' => e = .returned (.bool true) ∧ New w w' := valueAll_walk fv cv f cut w hf hc hl
end Go.Proofs.YtphopkjgfkaihaaGreatDoor
