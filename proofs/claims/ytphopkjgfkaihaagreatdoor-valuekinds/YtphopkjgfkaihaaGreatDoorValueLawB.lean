/-
  'ValueKinds': what comes from the beginning, what from a node, and what facts are: true, for every input.
-/
import Derived.Test.YtphopkjgfkaihaaGreatDoorValueLaw0
namespace Go.Proofs.YtphopkjgfkaihaaGreatDoor
open Go.RowKit

/-- What may come by a way. -/
theorem by_kinds (f : List I) (s : Skl) (e : Int × Int) (l : Nat) : (byA f s e l).1 = 2 ∨ (e.1 = -1 ∧ ((byA f s e l).1 = 1 ∨ (byA f s e l).1 = 0)) ∨ (e.1 ≠ -1 ∧ ((byA f s e l).1 = 3 ∨ (byA f s e l).1 = 4)) := by
  unfold byA
  by_cases h : e.1 = -1
  · rw [if_pos h]
    split
    · exact .inl rfl
    · split
      · exact .inr (.inl ⟨h, .inl rfl⟩)
      · exact .inr (.inl ⟨h, .inr rfl⟩)
  · rw [if_neg h]
    split
    · exact .inl rfl
    · split
      · exact .inr (.inr ⟨h, .inl rfl⟩)
      · exact .inr (.inr ⟨h, .inr rfl⟩)
set_option maxHeartbeats 16000000 in
set_option maxRecDepth 100000 in
theorem valueKinds_walk (fv cv : Value) (f : List I) (cut : List Bool) (w : World) (hf : FunAt w fv f) (hc : RowAt w cv (cut.map .bool)) (hl : Laid w) :
    Calls Tryz.prog 8 #[fv, cv] w fun e w' => e = .returned (.bool true) ∧ New w w' := by
  obtain ⟨fa, fc, rfl⟩ := hf.form
  obtain ⟨ca, m, cc, rfl⟩ := hc.form
  have HL := Lib.hid hl
  have HF := Lib.hid hf
  have HC := Lib.hid hc
  clear hl hf hc
  obtain ⟨n, HN⟩ : ∃ n, Hid (f.length = n) := ⟨_, Lib.hid rfl⟩
  rw [HN.out] at HF ⊢
  cases d3 : decide ((60 : Int) < (n : Int)) with
  | true =>
    go_enter Tryz.func8, Tryz.ntmps8
    go_wp2_with (go_at_call 11; refine (knows_from11 _ HL.out (New.refl w)).mono ?_; rintro e wk ⟨rfl, hnk⟩)
    go_ret
    exact ⟨rfl, hnk⟩
  | false =>
    cases d4 : decide ((300 : Int) < (m : Int)) with
    | true =>
      go_enter Tryz.func8, Tryz.ntmps8
      go_wp2_with (go_at_call 11; refine (knows_from11 _ HL.out (New.refl w)).mono ?_; rintro e wk ⟨rfl, hnk⟩)
      go_ret
      exact ⟨rfl, hnk⟩
    | false =>
      by_cases hr : (chkF f).2 = 0
      case neg =>
        have q1 : ((chkF f).2 == 0) = false := bneq_of hr
        have T1 : Hid True := Lib.hid trivial
        clear hr
        go_enter Tryz.func8, Tryz.ntmps8
        go_wp2_with (first
          | (clear T1; go_at_call 10; refine (rasmRight_any _ f _ HF.out).mono ?_; rw [q1]; rintro e w1 ⟨rfl, hn1⟩)
          | (go_at_call 11; refine (knows_from11 _ HL.out hn1).mono ?_; rintro e wk ⟨rfl, hnk⟩))
        go_ret
        exact ⟨rfl, hnk⟩
      case pos =>
        have q1 : ((chkF f).2 == 0) = true := beq_of hr
        have HR := Lib.hid hr
        have HS := Lib.hid (Sep.start w)
        obtain ⟨F, hF⟩ := fact_tab f (sklA f cut)
        have HFT0 := Lib.hid hF
        have hgs := good_skl f cut
        have hin := inS_skl hr cut
        have hfw := skl_few hr cut
        have HALL := Lib.hid fun (fv v : Value) (w : World) (h1 : Laid w) (h2 : FunAt w fv f) (h3 : (nodesO v (sklA f cut).nodes).rd w) => all_pub h1 h2 hr h3
        have HFCT := Lib.hid fun (fv v : Value) (w : World) (h1 : Laid w) (h2 : FunAt w fv f) (h3 : (nodesO v (sklA f cut).nodes).rd w) => facts_pub h1 h2 hr h3 hF
        have HBY := Lib.hid fun (e : Ed) (l : Nat) (fv v : Value) (w : World) (he : hasE (sklA f cut) e) (hl : l < 24) (h1 : Laid w) (h2 : FunAt w fv f) (h3 : (nodesO v (sklA f cut).nodes).rd w) => by_pub e l h1 h2 hr h3 he hl
        have HBN := Lib.hid fun (e : Ed) (l : Int) (fv v : Value) (w : World) (he : ¬ (hasE (sklA f cut) e ∧ 0 ≤ l ∧ l < 24)) (h3 : (nodesO v (sklA f cut).nodes).rd w) => by_none (f := f) (fv := fv) e l hr h3 he
        obtain ⟨S, HSK⟩ : ∃ S, Hid (sklA f cut = S) := ⟨_, Lib.hid rfl⟩
        rw [HSK.out] at HALL HFCT HBY HBN HFT0 hgs hin hfw
        obtain ⟨N, HNN⟩ : ∃ N, Hid (S.nodes.length = N) := ⟨_, Lib.hid rfl⟩
        rw [HNN.out] at hfw HFCT
        have hN2 : N ≤ 200 := hfw
        have HGS := Lib.hid hgs
        have HIS := Lib.hid hin
        clear hr hF hgs hin hfw
        have T1 : Hid True := Lib.hid trivial
        have T2 : Hid True := Lib.hid trivial
        have T3 : Hid True := Lib.hid trivial
        have T4 : Hid True := Lib.hid trivial
        go_enter Tryz.func8, Tryz.ntmps8
        go_wp2_with (first
          | (clear T1; go_at_call 10; refine (rasmRight_any _ f _ HF.out).mono ?_; rw [q1]; rintro e w1 ⟨rfl, hn1⟩; replace HS := Lib.hid (HS.out.go hn1); clear hn1)
          | (clear T2; go_at_call 12; refine (build_in fa n fc f ca m cc cut _ (HL.out.new HS.out.nw) (HF.out.new HS.out.nw) (HC.out.new HS.out.nw) HR.out).mono ?_; rw [HSK.out]; rintro e w2 ⟨vs, rfl, hs⟩; obtain ⟨na, nc, hv⟩ := rowA_form hs.hd; rw [HNN.out] at hv; subst hv; replace HS := Lib.hid (HS.out.call hs); clear hs)
          | (clear T3; refine wpList_alB rfl 34 rfl _ zeroSk_run _ rfl HS.out ?_; intro w3 g5 hs; replace HS := Lib.hid hs; clear hs)
          | (clear T4; refine wpList_stSW 0 rfl rfl 34 (.tmp 5) (.tmp 35) rfl g5 rfl _ rfl HS.out rfl (skC S.entry (.slice na N nc)) rfl (by rw [skC_len, skC_len]) (skC_one _ rfl) (by rw [skC_len]; exact infoSk) ?_; intro w4 hs; replace HS := Lib.hid hs; clear hs))
        have HLN : Hid (∀ m : Int, (edgesA S m).length ≤ 100000) := Lib.hid fun m => by
          have h1 := ed_len (s := S) (m := N) (k := 0) (n := m) HGS.out.b
          rw [ed_done (by rw [HNN.out]; exact Nat.le_refl _), HNN.out] at h1
          omega
        have S0 : New w4 w4.drew := (New.refl w4).drew
        have B5 := Lib.hid (HS.out.has 0 rfl)
        have HNO := Lib.hid (HS.out.rd 1 rfl)
        have N4 : Hid (New w w4) := Lib.hid HS.out.nw
        clear HS
        refine wp_region_noPanic ?_
        refine region_late (k := 10) (S := fun w' => New w4 w') (by kernel_rfl) S0 (fun _ => ?_)
        refine late_take (i := 0) (v := .agg (skC S.entry (.slice na N nc)).toArray) rfl (by kernel_rfl) (by kernel_rfl) (by kernel_rfl) (by kernel_rfl) (fun _ _ _ h => h) (yieldsIf_load_mid (by rfl) _ _ rfl g5 0 rfl (skC S.entry (.slice na N nc)) _ (fun w' h => HasC.all (HasC.new B5.out h)) Tryz.underlying34 rfl (by rw [skC_len]; exact infoSk)) S0 ?_
        simp only [List.getElem_toArray, List.getElem_cons_zero, Act.put, List.setIfInBounds_toArray, List.set_cons_zero, List.set_cons_succ]
        refine late_take (i := 2) (v := .slice fa n fc) rfl (by kernel_rfl) (by kernel_rfl) (by kernel_rfl) (by kernel_rfl) (fun _ _ _ h => h) (Or.inl ⟨rfl, fun _ _ => by go_simp⟩) S0 ?_
        simp only [List.getElem_toArray, List.getElem_cons_zero, List.getElem_cons_succ, Act.put, List.setIfInBounds_toArray, List.set_cons_zero, List.set_cons_succ]
        refine late_take (i := 3) (v := .agg (skC S.entry (.slice na N nc)).toArray) rfl (by kernel_rfl) (by kernel_rfl) (by kernel_rfl) (by kernel_rfl) (fun _ _ _ h => h) (yieldsIf_load_mid (by rfl) _ _ rfl g5 0 rfl (skC S.entry (.slice na N nc)) _ (fun w' h => HasC.all (HasC.new B5.out h)) Tryz.underlying34 rfl (by rw [skC_len]; exact infoSk)) S0 ?_
        simp only [List.getElem_toArray, List.getElem_cons_zero, List.getElem_cons_succ, Act.put, List.setIfInBounds_toArray, List.set_cons_zero, List.set_cons_succ]
        refine late_take (i := 5) (v := .slice fa n fc) rfl (by kernel_rfl) (by kernel_rfl) (by kernel_rfl) (by kernel_rfl) (fun _ _ _ h => h) (Or.inl ⟨rfl, fun _ _ => by go_simp⟩) S0 ?_
        simp only [List.getElem_toArray, List.getElem_cons_zero, List.getElem_cons_succ, Act.put, List.setIfInBounds_toArray, List.set_cons_zero, List.set_cons_succ]
        refine late_take (i := 6) (v := .agg (skC S.entry (.slice na N nc)).toArray) rfl (by kernel_rfl) (by kernel_rfl) (by kernel_rfl) (by kernel_rfl) (fun _ _ _ h => h) (yieldsIf_load_mid (by rfl) _ _ rfl g5 0 rfl (skC S.entry (.slice na N nc)) _ (fun w' h => HasC.all (HasC.new B5.out h)) Tryz.underlying34 rfl (by rw [skC_len]; exact infoSk)) S0 ?_
        simp only [List.getElem_toArray, List.getElem_cons_zero, List.getElem_cons_succ, Act.put, List.setIfInBounds_toArray, List.set_cons_zero, List.set_cons_succ]
        refine late_forced [1, 4, 7, 8, 9, 10] _ _ _ (by kernel_rfl) ?_
        refine LL_call rfl rfl 28 #[.agg (skC S.entry (.slice na N nc)).toArray] (by go_simp) ?_
        refine (ways_any S (.slice na N nc) _ (HNO.out.new S0) (by rw [HNN.out]; omega) HGS.out.b).mono ?_
        rw [HNN.out]
        rintro r wA ⟨vw, rfl, hs1⟩
        obtain ⟨wa, wc, hv⟩ := rowA_form hs1.hd
        rw [edTab_len] at hv
        subst hv
        refine ⟨_, rfl, S0.trans hs1.nw, ?_⟩
        simp only [List.getElem_toArray, List.getElem_cons_zero, List.getElem_cons_succ, Act.put, List.setIfInBounds_toArray, List.set_cons_zero, List.set_cons_succ]
        refine LL_call rfl rfl 17 #[.slice fa n fc, .agg (skC S.entry (.slice na N nc)).toArray] (by go_simp) ?_
        refine (HALL.out _ _ _ (HL.out.new (N4.out.trans (S0.trans hs1.nw))) (HF.out.new (N4.out.trans (S0.trans hs1.nw))) (HNO.out.new (S0.trans hs1.nw))).mono ?_
        rintro r wB ⟨va, rfl, hs2⟩
        obtain ⟨aa, ac, hv⟩ := rowA_form hs2.hd
        rw [allT_len, HNN.out] at hv
        subst hv
        refine ⟨_, rfl, (S0.trans hs1.nw).trans hs2.nw, ?_⟩
        simp only [List.getElem_toArray, List.getElem_cons_zero, List.getElem_cons_succ, Act.put, List.setIfInBounds_toArray, List.set_cons_zero, List.set_cons_succ]
        refine LL_call rfl rfl 20 #[.slice fa n fc, .agg (skC S.entry (.slice na N nc)).toArray] (by go_simp) ?_
        refine (HFCT.out _ _ _ (HL.out.new (N4.out.trans ((S0.trans hs1.nw).trans hs2.nw))) (HF.out.new (N4.out.trans ((S0.trans hs1.nw).trans hs2.nw))) (HNO.out.new ((S0.trans hs1.nw).trans hs2.nw))).mono ?_
        rintro r wC ⟨vf, rfl, hs3⟩
        obtain ⟨ffa, ffc, hv⟩ := rowA_form hs3.hd
        rw [tabK_len] at hv
        subst hv
        have NC : New w4 wC := ((S0.trans hs1.nw).trans hs2.nw).trans hs3.nw
        refine ⟨_, rfl, NC, ?_⟩
        simp only [List.getElem_toArray, List.getElem_cons_zero, List.getElem_cons_succ, Act.put, List.setIfInBounds_toArray, List.set_cons_zero, List.set_cons_succ]
        refine LL_val (v := .slice wa N wc) (w' := wC) rfl rfl (by go_simp) NC ?_
        simp only [List.getElem_toArray, List.getElem_cons_zero, List.getElem_cons_succ, Act.put, List.setIfInBounds_toArray, List.set_cons_zero, List.set_cons_succ]
        refine LL_val (v := .slice aa N ac) (w' := wC) rfl rfl (by go_simp) NC ?_
        simp only [List.getElem_toArray, List.getElem_cons_zero, List.getElem_cons_succ, Act.put, List.setIfInBounds_toArray, List.set_cons_zero, List.set_cons_succ]
        refine LL_val (v := .slice ffa N ffc) (w' := wC) rfl rfl (by go_simp) NC ?_
        simp only [List.getElem_toArray, List.getElem_cons_zero, List.getElem_cons_succ, Act.put, List.setIfInBounds_toArray, List.set_cons_zero, List.set_cons_succ]
        have HWR := Lib.hid ((hs1.rd 0 rfl).new (hs2.nw.trans hs3.nw))
        have HAR := Lib.hid ((hs2.rd 0 rfl).new hs3.nw)
        have HFR := Lib.hid (hs3.rd 0 rfl)
        have N8 : Hid (New w wC) := Lib.hid (N4.out.trans NC)
        refine NoPanic.normal ?_
        clear S0 NC hs1 hs2 hs3
        go_wp2_with fail
        go_loopw [10] (fun iv wr => ∃ k : Nat, iv = .int .i64 (k : Int) ∧ k ≤ N ∧ Hid (New wC wr)) (fun iv _ => N - (intOf iv).toNat)
        case atStart => exact ⟨0, rfl, by omega, Lib.hid (New.refl _)⟩
        case round =>
          obtain ⟨k, rfl, hk, HNR⟩ := hrel
          by_cases hkN : k < N
          · obtain ⟨es, HES⟩ : ∃ es, Hid (edgesA S (k : Int) = es) := ⟨_, Lib.hid rfl⟩
            obtain ⟨K, HK⟩ : ∃ K, Hid (es.length = K) := ⟨_, Lib.hid rfl⟩
            have hK : K ≤ 100000 := by rw [← HK.out, ← HES.out]; exact HLN.out _
            obtain ⟨b1, o1, u1, i1, r1, d1⟩ := nest_ix (P := Tryz.prog) HAR.out 53 Tryz.underlying53 sizeFs (allT_at (by rw [HNN.out]; exact hkN))
            obtain ⟨a1, c1, hu1⟩ := rowA_form d1
            rw [show (nodeT f S k).length = K by unfold nodeT; rw [List.length_map, HES.out, HK.out]] at hu1
            subst hu1
            obtain ⟨b5, o5, u5, i5, r5, d5⟩ := es_ix (P := Tryz.prog) HWR.out 88 Tryz.underlying88 sizeEs (edTab_at (edgesA S) hkN)
            rw [HES.out] at d5
            obtain ⟨a5, c5, hu5⟩ := rowA_form d5
            rw [HK.out] at hu5
            subst hu5
            obtain ⟨b6, o6, u6, i6, r6, d6⟩ := nest_ix (P := Tryz.prog) HFR.out 57 Tryz.underlying57 sizeSs (tabK_at F hkN)
            obtain ⟨a6, c6, hu6⟩ := rowA_form d6
            rw [rowK_len] at hu6
            subst hu6
            have H1 := Lib.hid r1
            have H5 := Lib.hid r5
            have H6 := Lib.hid r6
            have HD1 := Lib.hid d1
            have HD5 := Lib.hid d5
            have HD6 := Lib.hid d6
            have V1 : ∀ z : NewW wr, z.val.cell? ⟨b1, o1, none⟩ = some (.slice a1 K c1) := fun z => r1 _ (HNR.out.trans z.property)
            have V5 : ∀ z : NewW wr, z.val.cell? ⟨b5, o5, none⟩ = some (.slice a5 K c5) := fun z => r5 _ (HNR.out.trans z.property)
            have V6 : ∀ z : NewW wr, z.val.cell? ⟨b6, o6, none⟩ = some (.slice a6 24 c6) := fun z => r6 _ (HNR.out.trans z.property)
            clear r1 r5 r6 d1 d5 d6
            go_wp2_with fail
            have hne := newW_any wr
            refine wp_region_new (New.refl wr) (by kernel_rfl) (by kernel_rfl) ?_
            repeat (go_big_quiet_step (fail))
            refine wpQuiet_nil ?_
            intro w6 hn6
            have NQ : Hid (New wC w6) := Lib.hid (HNR.out.trans hn6)
            clear V1 V5 V6 hne hn6
            have y1 := H1.out _ NQ.out
            go_wp2_with fail
            clear y1
            go_loopw [11] (fun jv wq => ∃ j : Nat, jv = .int .i64 (j : Int) ∧ j ≤ K ∧ Hid (New wC wq)) (fun jv _ => K - (intOf jv).toNat)
            case atStart => exact ⟨0, rfl, by omega, NQ⟩
            case round =>
              obtain ⟨j, rfl, hj, HNJ⟩ := hrel
              have y1 := H1.out _ HNJ.out
              by_cases hjK : j < K
              · obtain ⟨e, he⟩ : ∃ e, es[j]? = some e := ⟨_, List.getElem?_eq_getElem (by rw [HK.out]; exact hjK)⟩
                have HEM : Hid (e ∈ edgesA S (k : Int)) := Lib.hid (by rw [HES.out]; exact List.mem_of_getElem? he)
                obtain ⟨b2, o2, u2, i2, r2, d2⟩ := nest_ix (P := Tryz.prog) HD1.out 57 Tryz.underlying57 sizeSs (nodeT_at (by rw [HES.out]; exact he))
                obtain ⟨a2, c2, hu2⟩ := rowA_form d2
                rw [show (rowT f S e).length = 24 by simp [rowT]] at hu2
                subst hu2
                obtain ⟨b4, o4, i4, r4⟩ := leaf_ix (P := Tryz.prog) HD5.out 55 Tryz.underlying55 sizeEd he
                have H2 := Lib.hid r2
                have HD2 := Lib.hid d2
                have y5 := H5.out _ HNJ.out
                have y4 := r4 _ HNJ.out 0 _ rfl
                rw [Nat.add_zero] at y4
                obtain ⟨bb, hbb⟩ : ∃ bb, decide (e.1 < 0) = bb := ⟨_, rfl⟩
                have HKD : Hid (∀ l, (byA f S e l).1 = 2 ∨ (bb = true ∧ ((byA f S e l).1 = 1 ∨ (byA f S e l).1 = 0)) ∨ (bb = false ∧ ((byA f S e l).1 = 3 ∨ (byA f S e l).1 = 4))) := Lib.hid fun l => by
                  rcases by_kinds f S e l with h | ⟨h, h2⟩ | ⟨h, h2⟩
                  · exact .inl h
                  · exact .inr (.inl ⟨by rw [← hbb, h]; rfl, h2⟩)
                  · refine .inr (.inr ⟨?_, h2⟩)
                    rw [← hbb]
                    rcases edge_from HEM.out with h3 | ⟨h3, _⟩
                    · exact absurd h3 h
                    · exact decide_eq_false (by omega)
                clear he r2 d2 r4
                go_wp2_with fail
                clear y1 y5 y4 hbb
                go_loopw [13] (fun lv wz => ∃ l : Nat, lv = .int .i64 (l : Int) ∧ l ≤ 24 ∧ Hid (New wC wz)) (fun lv _ => 24 - (intOf lv).toNat)
                case atStart => exact ⟨0, rfl, by omega, HNJ⟩
                case round =>
                  obtain ⟨l, rfl, hl, HNZ⟩ := hrel
                  by_cases hl24 : l < 24
                  · obtain ⟨b3, o3, i3, r3⟩ := leaf_ix (P := Tryz.prog) HD2.out 58 Tryz.underlying58 sizeSr (rowT_at hl24)
                    have y1 := H1.out _ HNZ.out
                    have y2 := H2.out _ HNZ.out
                    have y3 : wr.cell? ⟨b3, o3, none⟩ = some (.int .i64 (byA f S e l).1) := by
                      have := r3 _ HNZ.out 0 _ rfl
                      rwa [Nat.add_zero] at this
                    clear r3
                    rcases HKD.out l with h | ⟨hb, h | h⟩ | ⟨hb, h | h⟩
                    · rw [h] at y3
                      clear h
                      go_wp2_with fail
                      go_roundw
                      case rel => exact ⟨l + 1, by go_num, by omega, HNZ⟩
                      case measure => simp [intOf]; omega
                    · subst hb
                      rw [h] at y3
                      clear h
                      go_wp2_with fail
                      go_roundw
                      case rel => exact ⟨l + 1, by go_num, by omega, HNZ⟩
                      case measure => simp [intOf]; omega
                    · subst hb
                      rw [h] at y3
                      clear h
                      go_wp2_with fail
                      go_roundw
                      case rel => exact ⟨l + 1, by go_num, by omega, HNZ⟩
                      case measure => simp [intOf]; omega
                    · subst hb
                      rw [h] at y3
                      clear h
                      go_wp2_with fail
                      go_roundw
                      case rel => exact ⟨l + 1, by go_num, by omega, HNZ⟩
                      case measure => simp [intOf]; omega
                    · subst hb
                      rw [h] at y3
                      clear h
                      go_wp2_with fail
                      go_roundw
                      case rel => exact ⟨l + 1, by go_num, by omega, HNZ⟩
                      case measure => simp [intOf]; omega
                  · go_wp2_with fail
                    go_roundw
                    case rel => exact ⟨j + 1, by go_num, by omega, HNZ⟩
                    case measure => simp [intOf]; omega
              · go_wp2_with fail
                clear y1
                go_loopw [15] (fun lv wz => ∃ l : Nat, lv = .int .i64 (l : Int) ∧ l ≤ 24 ∧ Hid (New wC wz)) (fun lv _ => 24 - (intOf lv).toNat)
                case atStart => exact ⟨0, rfl, by omega, HNJ⟩
                case round =>
                  obtain ⟨l, rfl, hl, HNZ⟩ := hrel
                  have HZ := Lib.hid (Sep.start wr)
                  by_cases hl24 : l < 24
                  · obtain ⟨b3, o3, i3, r3⟩ := leaf_ix (P := Tryz.prog) HD6.out 58 Tryz.underlying58 sizeSr (rowK_at F k hl24)
                    have H3 := Lib.hid r3
                    have y6 := H6.out _ HNZ.out
                    have u3 := Tryz.underlying3
                    have a3 := Tryz.isAgg3
                    have u4 := Tryz.underlying2
                    have a4 := Tryz.isAgg2
                    have hfk := HFT0.out k l (by rw [HNN.out]; exact hkN) hl24
                    have hcs : F k l = (0, 0) ∨ (F k l).1 = 2 ∨ F k l = (4, (l : Int)) := by
                      rcases hfk with ⟨h | h, _⟩ | ⟨h, _⟩
                      · exact .inl h
                      · exact .inr (.inl h)
                      · exact .inr (.inr h)
                    obtain ⟨c, hc⟩ : ∃ c, F k l = c := ⟨_, rfl⟩
                    rw [hc] at hcs H3
                    clear r3 hfk hc
                    rcases hcs with h | h | h
                    · subst h
                      have hq1 : ∀ w, (binOp .neq 39 (.agg #[.int .i64 0, .int .i64 0]) (.agg #[.int .i64 0, .int .i64 0])).run Tryz.prog w = .ok (.bool false) w := fun w => neq_sr (0, 0) (0, 0) w
                      have V1 : Hid True := Lib.hid trivial
                      have V2 : Hid True := Lib.hid trivial
                      have V3 : Hid True := Lib.hid trivial
                      have V4 : Hid True := Lib.hid trivial
                      have V5 : Hid True := Lib.hid trivial
                      go_wp2_with (first
                        | (clear V1; refine wpList_load_mid rfl 39 (.tmp 152) rfl b3 o3 rfl [.int .i64 0, .int .i64 0] _ (H3.out _ (HNZ.out.trans HZ.out.nw)) Tryz.underlying39 rfl infoSr ?_)
                        | (clear V2; refine wpList_alB rfl 39 rfl _ zeroSr_run _ rfl HZ.out ?_; intro wy gx hs; replace HZ := Lib.hid hs; clear hs y6)
                        | (clear V3; refine wpList_stSW 0 rfl rfl 39 (.tmp 16) (.tmp 153) rfl gx rfl _ rfl HZ.out rfl [.int .i64 0, .int .i64 0] rfl rfl (by simp [Value.oneCell']) infoSr ?_; intro wv hs; replace HZ := Lib.hid hs; have x0 := HZ.out.cell 0 rfl (k := 0) rfl; clear hs)
                        | (clear V4; refine wpList_ldAG rfl 39 (.tmp 16) rfl gx 0 rfl [.int .i64 0, .int .i64 0] _ (HasC.all (HZ.out.has 0 rfl)) Tryz.underlying39 rfl infoSr ?_)
                        | (clear V5; refine wpList_ldAG rfl 39 (.tmp 16) rfl gx 0 rfl [.int .i64 0, .int .i64 0] _ (HasC.all (HZ.out.has 0 rfl)) Tryz.underlying39 rfl infoSr ?_))
                      go_roundw
                      case rel => exact ⟨l + 1, by go_num, by omega, Lib.hid (HNZ.out.trans HZ.out.nw)⟩
                      case measure => simp [intOf]; omega
                    · obtain ⟨c0, c1⟩ := c
                      have h' : c0 = 2 := h
                      subst h'
                      clear h
                      have V1 : Hid True := Lib.hid trivial
                      have V2 : Hid True := Lib.hid trivial
                      have V3 : Hid True := Lib.hid trivial
                      have V4 : Hid True := Lib.hid trivial
                      have V5 : Hid True := Lib.hid trivial
                      go_wp2_with (first
                        | (clear V1; refine wpList_load_mid rfl 39 (.tmp 152) rfl b3 o3 rfl [.int .i64 2, .int .i64 c1] _ (H3.out _ (HNZ.out.trans HZ.out.nw)) Tryz.underlying39 rfl infoSr ?_)
                        | (clear V2; refine wpList_alB rfl 39 rfl _ zeroSr_run _ rfl HZ.out ?_; intro wy gx hs; replace HZ := Lib.hid hs; clear hs y6)
                        | (clear V3; refine wpList_stSW 0 rfl rfl 39 (.tmp 16) (.tmp 153) rfl gx rfl _ rfl HZ.out rfl [.int .i64 2, .int .i64 c1] rfl rfl (by simp [Value.oneCell']) infoSr ?_; intro wv hs; replace HZ := Lib.hid hs; have x0 := HZ.out.cell 0 rfl (k := 0) rfl; clear hs)
                        | (clear V4; refine wpList_ldAG rfl 39 (.tmp 16) rfl gx 0 rfl [.int .i64 2, .int .i64 c1] _ (HasC.all (HZ.out.has 0 rfl)) Tryz.underlying39 rfl infoSr ?_)
                        | (clear V5; refine wpList_ldAG rfl 39 (.tmp 16) rfl gx 0 rfl [.int .i64 2, .int .i64 c1] _ (HasC.all (HZ.out.has 0 rfl)) Tryz.underlying39 rfl infoSr ?_))
                      go_roundw
                      case rel => exact ⟨l + 1, by go_num, by omega, Lib.hid (HNZ.out.trans HZ.out.nw)⟩
                      case measure => simp [intOf]; omega
                    · subst h
                      have hq1 : ∀ w, (binOp .neq 39 (.agg #[.int .i64 4, .int .i64 (l : Int)]) (.agg #[.int .i64 0, .int .i64 0])).run Tryz.prog w = .ok (.bool true) w := fun w => by
                        have := neq_sr (4, (l : Int)) (0, 0) w
                        rw [decide_eq_false (fun e => by have h1 := congrArg Prod.fst e; have h2 : (4 : Int) = 0 := h1; omega)] at this
                        exact this
                      have hq2 : ∀ w, (binOp .neq 39 (.agg #[.int .i64 4, .int .i64 (l : Int)]) (.agg #[.int .i64 4, .int .i64 (l : Int)])).run Tryz.prog w = .ok (.bool false) w := fun w => by
                        have := neq_sr (4, (l : Int)) (4, (l : Int)) w
                        rw [decide_eq_true rfl] at this
                        exact this
                      have hb4 := build_Sr2 4 (l : Int)
                      have V1 : Hid True := Lib.hid trivial
                      have V2 : Hid True := Lib.hid trivial
                      have V3 : Hid True := Lib.hid trivial
                      have V4 : Hid True := Lib.hid trivial
                      have V5 : Hid True := Lib.hid trivial
                      go_wp2_with (first
                        | (clear V1; refine wpList_load_mid rfl 39 (.tmp 152) rfl b3 o3 rfl [.int .i64 4, .int .i64 (l : Int)] _ (H3.out _ (HNZ.out.trans HZ.out.nw)) Tryz.underlying39 rfl infoSr ?_)
                        | (clear V2; refine wpList_alB rfl 39 rfl _ zeroSr_run _ rfl HZ.out ?_; intro wy gx hs; replace HZ := Lib.hid hs; clear hs y6)
                        | (clear V3; refine wpList_stSW 0 rfl rfl 39 (.tmp 16) (.tmp 153) rfl gx rfl _ rfl HZ.out rfl [.int .i64 4, .int .i64 (l : Int)] rfl rfl (by simp [Value.oneCell']) infoSr ?_; intro wv hs; replace HZ := Lib.hid hs; have x0 := HZ.out.cell 0 rfl (k := 0) rfl; clear hs)
                        | (clear V4; refine wpList_ldAG rfl 39 (.tmp 16) rfl gx 0 rfl [.int .i64 4, .int .i64 (l : Int)] _ (HasC.all (HZ.out.has 0 rfl)) Tryz.underlying39 rfl infoSr ?_)
                        | (clear V5; refine wpList_ldAG rfl 39 (.tmp 16) rfl gx 0 rfl [.int .i64 4, .int .i64 (l : Int)] _ (HasC.all (HZ.out.has 0 rfl)) Tryz.underlying39 rfl infoSr ?_))
                      go_roundw
                      case rel => exact ⟨l + 1, by go_num, by omega, Lib.hid (HNZ.out.trans HZ.out.nw)⟩
                      case measure => simp [intOf]; omega
                  · go_wp2_with fail
                    go_roundw
                    case rel => exact ⟨k + 1, by go_num, by omega, HNZ⟩
                    case measure => simp [intOf]; omega
          · go_wp2_with (go_at_call 11; refine (knows_from11 _ HL.out (N8.out.trans HNR.out)).mono ?_; rintro e wk ⟨rfl, hnk⟩)
            go_ret
            exact ⟨rfl, hnk⟩
theorem valueKinds_law (fv : Value) (f : List I) (cv : Value) (cut : List Bool) (w : World) (hf : FunAt w fv f) (_hi : ∀ x ∈ f, In64I x) (_hn : f.length ≤ maxLen) (hc : RowAt w cv (cut.map .bool)) (_hm : cut.length ≤ maxLen) (hl : Laid w) :
    Calls Tryz.prog 8 #[fv, cv] w fun e w' => e = .returned (.bool true) ∧ New w w' := valueKinds_walk fv cv f cut w hf hc hl
end Go.Proofs.YtphopkjgfkaihaaGreatDoor
