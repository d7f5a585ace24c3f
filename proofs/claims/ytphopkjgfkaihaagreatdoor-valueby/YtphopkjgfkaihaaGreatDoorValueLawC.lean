/-
  'ValueBy': what a place has by a way is what the document says: true, for every input.
-/
import Derived.Test.YtphopkjgfkaihaaGreatDoorValueLaw0
namespace Go.Proofs.YtphopkjgfkaihaaGreatDoor
open Go.RowKit

set_option maxHeartbeats 16000000 in
set_option maxRecDepth 100000 in
theorem valueBy_walk (fv cv : Value) (f : List I) (cut : List Bool) (fr k l : Int) (w : World) (hf : FunAt w fv f) (hc : RowAt w cv (cut.map .bool)) (hl : Laid w) :
    Calls Tryz.prog 3 #[fv, cv, .int .i64 fr, .int .i64 k, .int .i64 l] w fun e w' => e = .returned (.bool true) ∧ New w w' := by
  obtain ⟨fa, fc, rfl⟩ := hf.form
  obtain ⟨ca, m, cc, rfl⟩ := hc.form
  have HL := Lib.hid hl
  have HF := Lib.hid hf
  have HC := Lib.hid hc
  clear hl hf hc
  obtain ⟨n, HN⟩ : ∃ n, Hid (f.length = n) := ⟨_, Lib.hid rfl⟩
  rw [HN.out] at HF ⊢
  cases d3 : decide ((60 : Int) < (n : Int)) with
  | true =>
    go_enter Tryz.func3, Tryz.ntmps3
    go_wp2_with (go_at_call 11; refine (knows_from11 _ HL.out (New.refl w)).mono ?_; rintro e wk ⟨rfl, hnk⟩)
    go_ret
    exact ⟨rfl, hnk⟩
  | false =>
    cases d4 : decide ((300 : Int) < (m : Int)) with
    | true =>
      go_enter Tryz.func3, Tryz.ntmps3
      go_wp2_with (go_at_call 11; refine (knows_from11 _ HL.out (New.refl w)).mono ?_; rintro e wk ⟨rfl, hnk⟩)
      go_ret
      exact ⟨rfl, hnk⟩
    | false =>
      by_cases hr : (chkF f).2 = 0
      case neg =>
        have q1 : ((chkF f).2 == 0) = false := bneq_of hr
        have T1 : Hid True := Lib.hid trivial
        clear hr
        go_enter Tryz.func3, Tryz.ntmps3
        go_wp2_with (first
          | (clear T1; go_at_call 10; refine (rasmRight_any _ f _ HF.out).mono ?_; rw [q1]; rintro e w1 ⟨rfl, hn1⟩)
          | (go_at_call 11; refine (knows_from11 _ HL.out hn1).mono ?_; rintro e wk ⟨rfl, hnk⟩))
        go_ret
        exact ⟨rfl, hnk⟩
      case pos =>
        have q1 : ((chkF f).2 == 0) = true := beq_of hr
        have HR := Lib.hid hr
        have HS := Lib.hid (Sep.start w)
        obtain ⟨F, hF⟩ := fact_tab f (sklA f cut)
        have HFT0 := Lib.hid hF
        have hgs := good_skl f cut
        have hin := inS_skl hr cut
        have hfw := skl_few hr cut
        have HALL := Lib.hid fun (fv v : Value) (w : World) (h1 : Laid w) (h2 : FunAt w fv f) (h3 : (nodesO v (sklA f cut).nodes).rd w) => all_pub h1 h2 hr h3
        have HFCT := Lib.hid fun (fv v : Value) (w : World) (h1 : Laid w) (h2 : FunAt w fv f) (h3 : (nodesO v (sklA f cut).nodes).rd w) => facts_pub h1 h2 hr h3 hF
        have HBY := Lib.hid fun (e : Ed) (l : Nat) (fv v : Value) (w : World) (he : hasE (sklA f cut) e) (hl : l < 24) (h1 : Laid w) (h2 : FunAt w fv f) (h3 : (nodesO v (sklA f cut).nodes).rd w) => by_pub e l h1 h2 hr h3 he hl
        have HBN := Lib.hid fun (e : Ed) (l : Int) (fv v : Value) (w : World) (he : ¬ (hasE (sklA f cut) e ∧ 0 ≤ l ∧ l < 24)) (h3 : (nodesO v (sklA f cut).nodes).rd w) => by_none (f := f) (fv := fv) e l hr h3 he
        obtain ⟨S, HSK⟩ : ∃ S, Hid (sklA f cut = S) := ⟨_, Lib.hid rfl⟩
        rw [HSK.out] at HALL HFCT HBY HBN HFT0 hgs hin hfw
        obtain ⟨N, HNN⟩ : ∃ N, Hid (S.nodes.length = N) := ⟨_, Lib.hid rfl⟩
        rw [HNN.out] at hfw HFCT
        have hN2 : N ≤ 200 := hfw
        have HGS := Lib.hid hgs
        have HIS := Lib.hid hin
        clear hr hF hgs hin hfw
        have hbe := build_Ed2 fr k
        by_cases he : hasE S (fr, k) ∧ 0 ≤ l ∧ l < 24
        case neg =>
          have HE := Lib.hid he
          have e00 : ∀ w, (binOp .eql 39 (.agg (srcK (0, 0)).toArray) (.agg #[.int .i64 0, .int .i64 0])).run Tryz.prog w = .ok (.bool true) w := fun w => eql_sr (0, 0) (0, 0) w
          by_cases hh : hasE S (fr, k)
          case neg =>
            have HH := Lib.hid hh
            clear he hh
            have T1 : Hid True := Lib.hid trivial
            have T2 : Hid True := Lib.hid trivial
            have T3 : Hid True := Lib.hid trivial
            have T4 : Hid True := Lib.hid trivial
            have T5 : Hid True := Lib.hid trivial
            have T6 : Hid True := Lib.hid trivial
            have T7 : Hid True := Lib.hid trivial
            have T8 : Hid True := Lib.hid trivial
            have T9 : Hid True := Lib.hid trivial
            have T10 : Hid True := Lib.hid trivial
            have T11 : Hid True := Lib.hid trivial
            have T12 : Hid True := Lib.hid trivial
            have T13 : Hid True := Lib.hid trivial
            have T14 : Hid True := Lib.hid trivial
            have T15 : Hid True := Lib.hid trivial
            go_enter Tryz.func3, Tryz.ntmps3
            go_wp2_with (first
              | (clear T1; go_at_call 10; refine (rasmRight_any _ f _ HF.out).mono ?_; rw [q1]; rintro e w1 ⟨rfl, hn1⟩; replace HS := Lib.hid (HS.out.go hn1); clear hn1)
              | (clear T2; go_at_call 12; refine (build_in fa n fc f ca m cc cut _ (HL.out.new HS.out.nw) (HF.out.new HS.out.nw) (HC.out.new HS.out.nw) HR.out).mono ?_; rw [HSK.out]; rintro e w2 ⟨vs, rfl, hs⟩; obtain ⟨na, nc, hv⟩ := rowA_form hs.hd; rw [HNN.out] at hv; subst hv; replace HS := Lib.hid (HS.out.call hs); clear hs)
              | (clear T3; refine wpList_alB rfl 34 rfl _ zeroSk_run _ rfl HS.out ?_; intro w3 g5 hs; replace HS := Lib.hid hs; clear hs)
              | (clear T4; refine wpList_stSW 0 rfl rfl 34 (.tmp 11) (.tmp 33) rfl g5 rfl _ rfl HS.out rfl (skC S.entry (.slice na N nc)) rfl (by rw [skC_len, skC_len]) (skC_one _ rfl) (by rw [skC_len]; exact infoSk) ?_; intro w4 hs; replace HS := Lib.hid hs; clear hs)
              | (clear T5; refine wpList_load_mid rfl 34 (.tmp 11) rfl g5 0 rfl (skC S.entry (.slice na N nc)) _ (HasC.all (HS.out.has 0 rfl)) Tryz.underlying34 rfl (by rw [skC_len]; exact infoSk) ?_)
              | (clear T6; go_at_call 13; refine (HBN.out (fr, k) l (.slice fa n fc) _ _ HE.out (HS.out.rd 1 rfl)).mono ?_; rintro e w5 ⟨rfl, hn1⟩; replace HS := Lib.hid (HS.out.go hn1); clear hn1)
              | (clear T7; refine wpList_alB rfl 39 rfl _ zeroSr_run _ rfl HS.out ?_; intro wx g13 hs; replace HS := Lib.hid hs; clear hs)
              | (clear T8; refine wpList_stSW 0 rfl rfl 39 (.tmp 13) (.tmp 43) rfl g13 rfl _ rfl HS.out rfl (srcK (0, 0)) rfl rfl (srcK_one _) infoSr ?_; intro wy hs; replace HS := Lib.hid hs; clear hs)
              | (clear T9; go_at_call 14; refine (refBuild_any fa n fc f ca m cc cut _ (HF.out.new HS.out.nw) (HC.out.new HS.out.nw) HR.out).mono ?_; rw [HSK.out]; rintro e w6 ⟨kt, ct, vn, rfl, hs⟩; obtain ⟨ra, rc, hv⟩ := rowA_form (hs.rd 1 rfl); rw [HNN.out] at hv; subst hv; have HRS0 : Hid (RefS w6 S kt ct ra rc N) := Lib.hid ⟨hs.rd 0 rfl, hs.rd 1 rfl, HNN.out, hN2, HGS.out⟩; replace HS := Lib.hid (HS.out.call hs); clear hs)
              | (clear T10; refine wpList_alB rfl 48 rfl _ zeroRs_run10 _ rfl HS.out ?_; intro w7 g8 hs; replace HS := Lib.hid hs; clear hs)
              | (clear T11; refine wpList_stSW 0 rfl rfl 48 (.tmp 14) (.tmp 46) rfl g8 rfl _ rfl HS.out rfl (rsC S.entry.1 (.slice (some ⟨kt, 0, none⟩) 24 ct) (.slice ra N rc)) rfl rfl (by simp [rsC, Value.oneCell']) infoRs ?_; intro w8 hs; replace HS := Lib.hid hs; clear hs)
              | (clear T12; refine wpList_load_mid rfl 48 (.tmp 14) rfl g8 0 rfl (rsC S.entry.1 (.slice (some ⟨kt, 0, none⟩) 24 ct) (.slice ra N rc)) _ (HasC.all (HS.out.has 0 rfl)) Tryz.underlying48 rfl infoRs ?_)
              | (clear T13; go_at_call 15; refine (has_not (e := (fr, k)) ⟨HS.out.rd 1 rfl, HS.out.rd 2 rfl, HNN.out, hN2, HGS.out⟩ HH.out).mono ?_; rintro e w9 ⟨rfl, hn1⟩; replace HS := Lib.hid (HS.out.go hn1); clear hn1)
              | (clear T14; refine wpList_load_mid rfl 39 (.tmp 13) rfl g13 0 rfl (srcK (0, 0)) _ (HasC.all (HS.out.has 3 rfl)) Tryz.underlying39 rfl infoSr ?_)
              | (clear T15; go_at_call 11; refine (knows_from11 _ HL.out HS.out.nw).mono ?_; rintro e wk ⟨rfl, hnk⟩))
            go_ret
            exact ⟨rfl, hnk⟩
          case pos =>
            have HH := Lib.hid hh
            by_cases hl0 : l < 0
            · have d0 : decide (l < 0) = true := decide_eq_true hl0
              clear he hh hl0
              have T1 : Hid True := Lib.hid trivial
              have T2 : Hid True := Lib.hid trivial
              have T3 : Hid True := Lib.hid trivial
              have T4 : Hid True := Lib.hid trivial
              have T5 : Hid True := Lib.hid trivial
              have T6 : Hid True := Lib.hid trivial
              have T7 : Hid True := Lib.hid trivial
              have T8 : Hid True := Lib.hid trivial
              have T9 : Hid True := Lib.hid trivial
              have T10 : Hid True := Lib.hid trivial
              have T11 : Hid True := Lib.hid trivial
              have T12 : Hid True := Lib.hid trivial
              have T13 : Hid True := Lib.hid trivial
              have T14 : Hid True := Lib.hid trivial
              have T15 : Hid True := Lib.hid trivial
              go_enter Tryz.func3, Tryz.ntmps3
              go_wp2_with (first
                | (clear T1; go_at_call 10; refine (rasmRight_any _ f _ HF.out).mono ?_; rw [q1]; rintro e w1 ⟨rfl, hn1⟩; replace HS := Lib.hid (HS.out.go hn1); clear hn1)
                | (clear T2; go_at_call 12; refine (build_in fa n fc f ca m cc cut _ (HL.out.new HS.out.nw) (HF.out.new HS.out.nw) (HC.out.new HS.out.nw) HR.out).mono ?_; rw [HSK.out]; rintro e w2 ⟨vs, rfl, hs⟩; obtain ⟨na, nc, hv⟩ := rowA_form hs.hd; rw [HNN.out] at hv; subst hv; replace HS := Lib.hid (HS.out.call hs); clear hs)
                | (clear T3; refine wpList_alB rfl 34 rfl _ zeroSk_run _ rfl HS.out ?_; intro w3 g5 hs; replace HS := Lib.hid hs; clear hs)
                | (clear T4; refine wpList_stSW 0 rfl rfl 34 (.tmp 11) (.tmp 33) rfl g5 rfl _ rfl HS.out rfl (skC S.entry (.slice na N nc)) rfl (by rw [skC_len, skC_len]) (skC_one _ rfl) (by rw [skC_len]; exact infoSk) ?_; intro w4 hs; replace HS := Lib.hid hs; clear hs)
                | (clear T5; refine wpList_load_mid rfl 34 (.tmp 11) rfl g5 0 rfl (skC S.entry (.slice na N nc)) _ (HasC.all (HS.out.has 0 rfl)) Tryz.underlying34 rfl (by rw [skC_len]; exact infoSk) ?_)
                | (clear T6; go_at_call 13; refine (HBN.out (fr, k) l (.slice fa n fc) _ _ HE.out (HS.out.rd 1 rfl)).mono ?_; rintro e w5 ⟨rfl, hn1⟩; replace HS := Lib.hid (HS.out.go hn1); clear hn1)
                | (clear T7; refine wpList_alB rfl 39 rfl _ zeroSr_run _ rfl HS.out ?_; intro wx g13 hs; replace HS := Lib.hid hs; clear hs)
                | (clear T8; refine wpList_stSW 0 rfl rfl 39 (.tmp 13) (.tmp 43) rfl g13 rfl _ rfl HS.out rfl (srcK (0, 0)) rfl rfl (srcK_one _) infoSr ?_; intro wy hs; replace HS := Lib.hid hs; clear hs)
                | (clear T9; go_at_call 14; refine (refBuild_any fa n fc f ca m cc cut _ (HF.out.new HS.out.nw) (HC.out.new HS.out.nw) HR.out).mono ?_; rw [HSK.out]; rintro e w6 ⟨kt, ct, vn, rfl, hs⟩; obtain ⟨ra, rc, hv⟩ := rowA_form (hs.rd 1 rfl); rw [HNN.out] at hv; subst hv; have HRS0 : Hid (RefS w6 S kt ct ra rc N) := Lib.hid ⟨hs.rd 0 rfl, hs.rd 1 rfl, HNN.out, hN2, HGS.out⟩; replace HS := Lib.hid (HS.out.call hs); clear hs)
                | (clear T10; refine wpList_alB rfl 48 rfl _ zeroRs_run10 _ rfl HS.out ?_; intro w7 g8 hs; replace HS := Lib.hid hs; clear hs)
                | (clear T11; refine wpList_stSW 0 rfl rfl 48 (.tmp 14) (.tmp 46) rfl g8 rfl _ rfl HS.out rfl (rsC S.entry.1 (.slice (some ⟨kt, 0, none⟩) 24 ct) (.slice ra N rc)) rfl rfl (by simp [rsC, Value.oneCell']) infoRs ?_; intro w8 hs; replace HS := Lib.hid hs; clear hs)
                | (clear T12; refine wpList_load_mid rfl 48 (.tmp 14) rfl g8 0 rfl (rsC S.entry.1 (.slice (some ⟨kt, 0, none⟩) 24 ct) (.slice ra N rc)) _ (HasC.all (HS.out.has 0 rfl)) Tryz.underlying48 rfl infoRs ?_)
                | (clear T13; go_at_call 15; refine (has_yes (e := (fr, k)) ⟨HS.out.rd 1 rfl, HS.out.rd 2 rfl, HNN.out, hN2, HGS.out⟩ HH.out).mono ?_; rintro e w9 ⟨rfl, hn1⟩; replace HS := Lib.hid (HS.out.go hn1); clear hn1)
                | (clear T14; refine wpList_load_mid rfl 39 (.tmp 13) rfl g13 0 rfl (srcK (0, 0)) _ (HasC.all (HS.out.has 3 rfl)) Tryz.underlying39 rfl infoSr ?_)
                | (clear T15; go_at_call 11; refine (knows_from11 _ HL.out HS.out.nw).mono ?_; rintro e wk ⟨rfl, hnk⟩))
              go_ret
              exact ⟨rfl, hnk⟩
            · have d0 : decide (l < 0) = false := decide_eq_false hl0
              have d1 : decide (23 < l) = true := decide_eq_true (by
                by_cases h : 23 < l
                · exact h
                · exact absurd ⟨hh, by omega, by omega⟩ he)
              clear he hh hl0
              have T1 : Hid True := Lib.hid trivial
              have T2 : Hid True := Lib.hid trivial
              have T3 : Hid True := Lib.hid trivial
              have T4 : Hid True := Lib.hid trivial
              have T5 : Hid True := Lib.hid trivial
              have T6 : Hid True := Lib.hid trivial
              have T7 : Hid True := Lib.hid trivial
              have T8 : Hid True := Lib.hid trivial
              have T9 : Hid True := Lib.hid trivial
              have T10 : Hid True := Lib.hid trivial
              have T11 : Hid True := Lib.hid trivial
              have T12 : Hid True := Lib.hid trivial
              have T13 : Hid True := Lib.hid trivial
              have T14 : Hid True := Lib.hid trivial
              have T15 : Hid True := Lib.hid trivial
              go_enter Tryz.func3, Tryz.ntmps3
              go_wp2_with (first
                | (clear T1; go_at_call 10; refine (rasmRight_any _ f _ HF.out).mono ?_; rw [q1]; rintro e w1 ⟨rfl, hn1⟩; replace HS := Lib.hid (HS.out.go hn1); clear hn1)
                | (clear T2; go_at_call 12; refine (build_in fa n fc f ca m cc cut _ (HL.out.new HS.out.nw) (HF.out.new HS.out.nw) (HC.out.new HS.out.nw) HR.out).mono ?_; rw [HSK.out]; rintro e w2 ⟨vs, rfl, hs⟩; obtain ⟨na, nc, hv⟩ := rowA_form hs.hd; rw [HNN.out] at hv; subst hv; replace HS := Lib.hid (HS.out.call hs); clear hs)
                | (clear T3; refine wpList_alB rfl 34 rfl _ zeroSk_run _ rfl HS.out ?_; intro w3 g5 hs; replace HS := Lib.hid hs; clear hs)
                | (clear T4; refine wpList_stSW 0 rfl rfl 34 (.tmp 11) (.tmp 33) rfl g5 rfl _ rfl HS.out rfl (skC S.entry (.slice na N nc)) rfl (by rw [skC_len, skC_len]) (skC_one _ rfl) (by rw [skC_len]; exact infoSk) ?_; intro w4 hs; replace HS := Lib.hid hs; clear hs)
                | (clear T5; refine wpList_load_mid rfl 34 (.tmp 11) rfl g5 0 rfl (skC S.entry (.slice na N nc)) _ (HasC.all (HS.out.has 0 rfl)) Tryz.underlying34 rfl (by rw [skC_len]; exact infoSk) ?_)
                | (clear T6; go_at_call 13; refine (HBN.out (fr, k) l (.slice fa n fc) _ _ HE.out (HS.out.rd 1 rfl)).mono ?_; rintro e w5 ⟨rfl, hn1⟩; replace HS := Lib.hid (HS.out.go hn1); clear hn1)
                | (clear T7; refine wpList_alB rfl 39 rfl _ zeroSr_run _ rfl HS.out ?_; intro wx g13 hs; replace HS := Lib.hid hs; clear hs)
                | (clear T8; refine wpList_stSW 0 rfl rfl 39 (.tmp 13) (.tmp 43) rfl g13 rfl _ rfl HS.out rfl (srcK (0, 0)) rfl rfl (srcK_one _) infoSr ?_; intro wy hs; replace HS := Lib.hid hs; clear hs)
                | (clear T9; go_at_call 14; refine (refBuild_any fa n fc f ca m cc cut _ (HF.out.new HS.out.nw) (HC.out.new HS.out.nw) HR.out).mono ?_; rw [HSK.out]; rintro e w6 ⟨kt, ct, vn, rfl, hs⟩; obtain ⟨ra, rc, hv⟩ := rowA_form (hs.rd 1 rfl); rw [HNN.out] at hv; subst hv; have HRS0 : Hid (RefS w6 S kt ct ra rc N) := Lib.hid ⟨hs.rd 0 rfl, hs.rd 1 rfl, HNN.out, hN2, HGS.out⟩; replace HS := Lib.hid (HS.out.call hs); clear hs)
                | (clear T10; refine wpList_alB rfl 48 rfl _ zeroRs_run10 _ rfl HS.out ?_; intro w7 g8 hs; replace HS := Lib.hid hs; clear hs)
                | (clear T11; refine wpList_stSW 0 rfl rfl 48 (.tmp 14) (.tmp 46) rfl g8 rfl _ rfl HS.out rfl (rsC S.entry.1 (.slice (some ⟨kt, 0, none⟩) 24 ct) (.slice ra N rc)) rfl rfl (by simp [rsC, Value.oneCell']) infoRs ?_; intro w8 hs; replace HS := Lib.hid hs; clear hs)
                | (clear T12; refine wpList_load_mid rfl 48 (.tmp 14) rfl g8 0 rfl (rsC S.entry.1 (.slice (some ⟨kt, 0, none⟩) 24 ct) (.slice ra N rc)) _ (HasC.all (HS.out.has 0 rfl)) Tryz.underlying48 rfl infoRs ?_)
                | (clear T13; go_at_call 15; refine (has_yes (e := (fr, k)) ⟨HS.out.rd 1 rfl, HS.out.rd 2 rfl, HNN.out, hN2, HGS.out⟩ HH.out).mono ?_; rintro e w9 ⟨rfl, hn1⟩; replace HS := Lib.hid (HS.out.go hn1); clear hn1)
                | (clear T14; refine wpList_load_mid rfl 39 (.tmp 13) rfl g13 0 rfl (srcK (0, 0)) _ (HasC.all (HS.out.has 3 rfl)) Tryz.underlying39 rfl infoSr ?_)
                | (clear T15; go_at_call 11; refine (knows_from11 _ HL.out HS.out.nw).mono ?_; rintro e wk ⟨rfl, hnk⟩))
              go_ret
              exact ⟨rfl, hnk⟩
        case pos =>
          obtain ⟨hh, hl0, hl1⟩ := he
          obtain ⟨l', rfl⟩ : ∃ l' : Nat, l = (l' : Int) := ⟨l.toNat, by omega⟩
          have hl24 : l' < 24 := by omega
          have HH := Lib.hid hh
          have hby := fun (v : Value) (w : World) => HBY.out (fr, k) l' (.slice fa n fc) v w hh hl24
          obtain ⟨R, HRR⟩ : ∃ R, Hid (byA f S (fr, k) l' = R) := ⟨_, Lib.hid rfl⟩
          rw [HRR.out] at hby
          have HBYR := Lib.hid hby
          have hE : ∀ w, (binOp .eql 39 (.agg #[.int .i64 R.1, .int .i64 R.2]) (.agg (srcK R).toArray)).run Tryz.prog w = .ok (.bool true) w := fun w => by
            have := eql_sr R R w
            rw [decide_eq_true rfl] at this
            exact this
          have d0 : decide ((l' : Int) < 0) = false := decide_eq_false (by omega)
          have d1 : decide (23 < (l' : Int)) = false := decide_eq_false (by omega)
          clear hh hl0 hl1 hby
          have T1 : Hid True := Lib.hid trivial
          have T2 : Hid True := Lib.hid trivial
          have T3 : Hid True := Lib.hid trivial
          have T4 : Hid True := Lib.hid trivial
          have T5 : Hid True := Lib.hid trivial
          have T6 : Hid True := Lib.hid trivial
          have T7 : Hid True := Lib.hid trivial
          have T8 : Hid True := Lib.hid trivial
          have T9 : Hid True := Lib.hid trivial
          have T10 : Hid True := Lib.hid trivial
          have T11 : Hid True := Lib.hid trivial
          have T12 : Hid True := Lib.hid trivial
          have T13 : Hid True := Lib.hid trivial
          go_enter Tryz.func3, Tryz.ntmps3
          go_wp2_with (first
            | (clear T1; go_at_call 10; refine (rasmRight_any _ f _ HF.out).mono ?_; rw [q1]; rintro e w1 ⟨rfl, hn1⟩; replace HS := Lib.hid (HS.out.go hn1); clear hn1)
            | (clear T2; go_at_call 12; refine (build_in fa n fc f ca m cc cut _ (HL.out.new HS.out.nw) (HF.out.new HS.out.nw) (HC.out.new HS.out.nw) HR.out).mono ?_; rw [HSK.out]; rintro e w2 ⟨vs, rfl, hs⟩; obtain ⟨na, nc, hv⟩ := rowA_form hs.hd; rw [HNN.out] at hv; subst hv; replace HS := Lib.hid (HS.out.call hs); clear hs)
            | (clear T3; refine wpList_alB rfl 34 rfl _ zeroSk_run _ rfl HS.out ?_; intro w3 g5 hs; replace HS := Lib.hid hs; clear hs)
            | (clear T4; refine wpList_stSW 0 rfl rfl 34 (.tmp 11) (.tmp 33) rfl g5 rfl _ rfl HS.out rfl (skC S.entry (.slice na N nc)) rfl (by rw [skC_len, skC_len]) (skC_one _ rfl) (by rw [skC_len]; exact infoSk) ?_; intro w4 hs; replace HS := Lib.hid hs; clear hs)
            | (clear T5; refine wpList_load_mid rfl 34 (.tmp 11) rfl g5 0 rfl (skC S.entry (.slice na N nc)) _ (HasC.all (HS.out.has 0 rfl)) Tryz.underlying34 rfl (by rw [skC_len]; exact infoSk) ?_)
            | (clear T6; go_at_call 13; refine (HBYR.out _ _ (HL.out.new HS.out.nw) (HF.out.new HS.out.nw) (HS.out.rd 1 rfl)).mono ?_; rintro e w5 ⟨rfl, hn1⟩; replace HS := Lib.hid (HS.out.go hn1); clear hn1)
            | (clear T7; refine wpList_alB rfl 39 rfl _ zeroSr_run _ rfl HS.out ?_; intro wx g13 hs; replace HS := Lib.hid hs; clear hs)
            | (clear T8; refine wpList_stSW 0 rfl rfl 39 (.tmp 13) (.tmp 43) rfl g13 rfl _ rfl HS.out rfl (srcK R) rfl rfl (srcK_one _) infoSr ?_; intro wy hs; replace HS := Lib.hid hs; clear hs)
            | (clear T9; go_at_call 14; refine (refBuild_any fa n fc f ca m cc cut _ (HF.out.new HS.out.nw) (HC.out.new HS.out.nw) HR.out).mono ?_; rw [HSK.out]; rintro e w6 ⟨kt, ct, vn, rfl, hs⟩; obtain ⟨ra, rc, hv⟩ := rowA_form (hs.rd 1 rfl); rw [HNN.out] at hv; subst hv; have HRS0 : Hid (RefS w6 S kt ct ra rc N) := Lib.hid ⟨hs.rd 0 rfl, hs.rd 1 rfl, HNN.out, hN2, HGS.out⟩; replace HS := Lib.hid (HS.out.call hs); clear hs)
            | (clear T10; refine wpList_alB rfl 48 rfl _ zeroRs_run10 _ rfl HS.out ?_; intro w7 g8 hs; replace HS := Lib.hid hs; clear hs)
            | (clear T11; refine wpList_stSW 0 rfl rfl 48 (.tmp 14) (.tmp 46) rfl g8 rfl _ rfl HS.out rfl (rsC S.entry.1 (.slice (some ⟨kt, 0, none⟩) 24 ct) (.slice ra N rc)) rfl rfl (by simp [rsC, Value.oneCell']) infoRs ?_; intro w8 hs; replace HS := Lib.hid hs; clear hs)
            | (clear T12; refine wpList_load_mid rfl 48 (.tmp 14) rfl g8 0 rfl (rsC S.entry.1 (.slice (some ⟨kt, 0, none⟩) 24 ct) (.slice ra N rc)) _ (HasC.all (HS.out.has 0 rfl)) Tryz.underlying48 rfl infoRs ?_)
            | (clear T13; go_at_call 15; refine (has_yes (e := (fr, k)) ⟨HS.out.rd 1 rfl, HS.out.rd 2 rfl, HNN.out, hN2, HGS.out⟩ HH.out).mono ?_; rintro e w9 ⟨rfl, hn1⟩; replace HS := Lib.hid (HS.out.go hn1); clear hn1))
          have S0 : New w9 w9.drew := (New.refl w9).drew
          have B8 := Lib.hid (HS.out.has 0 rfl)
          have B13 := Lib.hid (HS.out.has 3 rfl)
          have HRS : Hid (RefS w9 S kt ct ra rc N) := Lib.hid ⟨HS.out.rd 1 rfl, HS.out.rd 2 rfl, HNN.out, hN2, HGS.out⟩
          have N9 : Hid (New w w9) := Lib.hid HS.out.nw
          have u3 := Tryz.underlying3
          have a3 := Tryz.isAgg3
          have u4 := Tryz.underlying2
          have a4 := Tryz.isAgg2
          refine wp_region_noPanic ?_
          refine region_late (k := 12) (S := fun w' => New w9 w') (by kernel_rfl) S0 (fun _ => ?_)
          refine late_take (i := 0) (v := .agg #[.int .i64 R.1, .int .i64 R.2]) rfl (by kernel_rfl) (by kernel_rfl) (by kernel_rfl) (by kernel_rfl) (fun _ _ _ h => h) (yieldsIf_load_mid (by rfl) _ _ rfl g13 0 rfl (srcK R) _ (fun w' h => HasC.all (HasC.new B13.out h)) Tryz.underlying39 rfl infoSr) S0 ?_
          simp only [List.getElem_toArray, List.getElem_cons_zero, Act.put, List.setIfInBounds_toArray, List.set_cons_zero, List.set_cons_succ]
          refine late_take (i := 1) (v := .slice fa n fc) rfl (by kernel_rfl) (by kernel_rfl) (by kernel_rfl) (by kernel_rfl) (fun _ _ _ h => h) (Or.inl ⟨rfl, fun _ _ => by go_simp⟩) S0 ?_
          simp only [List.getElem_toArray, List.getElem_cons_zero, List.getElem_cons_succ, Act.put, List.setIfInBounds_toArray, List.set_cons_zero, List.set_cons_succ]
          refine late_take (i := 2) (v := rsV S kt ct ra rc N) rfl (by kernel_rfl) (by kernel_rfl) (by kernel_rfl) (by kernel_rfl) (fun _ _ _ h => h) (yieldsIf_load_mid (by rfl) _ _ rfl g8 0 rfl (rsC S.entry.1 (.slice (some ⟨kt, 0, none⟩) 24 ct) (.slice ra N rc)) _ (fun w' h => HasC.all (HasC.new B8.out h)) Tryz.underlying48 rfl infoRs) S0 ?_
          simp only [List.getElem_toArray, List.getElem_cons_zero, List.getElem_cons_succ, Act.put, List.setIfInBounds_toArray, List.set_cons_zero, List.set_cons_succ]
          refine late_take (i := 3) (v := .int .i64 fr) rfl (by kernel_rfl) (by kernel_rfl) (by kernel_rfl) (by kernel_rfl) (fun _ _ _ h => h) (Or.inl ⟨rfl, fun _ _ => by go_simp⟩) S0 ?_
          simp only [List.getElem_toArray, List.getElem_cons_zero, List.getElem_cons_succ, Act.put, List.setIfInBounds_toArray, List.set_cons_zero, List.set_cons_succ]
          refine late_take (i := 4) (v := .int .i64 k) rfl (by kernel_rfl) (by kernel_rfl) (by kernel_rfl) (by kernel_rfl) (fun _ _ _ h => h) (Or.inl ⟨rfl, fun _ _ => by go_simp⟩) S0 ?_
          simp only [List.getElem_toArray, List.getElem_cons_zero, List.getElem_cons_succ, Act.put, List.setIfInBounds_toArray, List.set_cons_zero, List.set_cons_succ]
          refine late_take (i := 5) (v := .agg #[.int .i64 fr, .int .i64 k]) rfl (by kernel_rfl) (by kernel_rfl) (by kernel_rfl) (by kernel_rfl) (fun _ _ _ h => h) (Or.inl ⟨rfl, fun _ _ => by go_simp⟩) S0 ?_
          simp only [List.getElem_toArray, List.getElem_cons_zero, List.getElem_cons_succ, Act.put, List.setIfInBounds_toArray, List.set_cons_zero, List.set_cons_succ]
          refine late_take (i := 6) (v := .int .i64 (l' : Int)) rfl (by kernel_rfl) (by kernel_rfl) (by kernel_rfl) (by kernel_rfl) (fun _ _ _ h => h) (Or.inl ⟨rfl, fun _ _ => by go_simp⟩) S0 ?_
          simp only [List.getElem_toArray, List.getElem_cons_zero, List.getElem_cons_succ, Act.put, List.setIfInBounds_toArray, List.set_cons_zero, List.set_cons_succ]
          refine late_forced [7, 8, 9, 10, 11, 12] _ _ _ (by kernel_rfl) ?_
          refine LL_call rfl rfl 16 #[.slice fa n fc, rsV S kt ct ra rc N, .agg #[.int .i64 fr, .int .i64 k], .int .i64 (l' : Int)] (by go_simp) ?_
          refine (rby_any (e := (fr, k)) (HRS.out.new S0) (HF.out.new (N9.out.trans S0)) HIS.out hl24 HH.out).mono ?_
          rw [HRR.out]
          rintro r w10 ⟨rfl, hn⟩
          refine ⟨_, rfl, S0.trans hn, ?_⟩
          simp only [List.getElem_toArray, List.getElem_cons_zero, List.getElem_cons_succ, Act.put, List.setIfInBounds_toArray, List.set_cons_zero, List.set_cons_succ]
          refine LL_val (v := .bool true) (w' := w10) rfl rfl (by go_simp) (S0.trans hn) ?_
          simp only [List.getElem_toArray, List.getElem_cons_zero, List.getElem_cons_succ, Act.put, List.setIfInBounds_toArray, List.set_cons_zero, List.set_cons_succ]
          refine LL_val (v := .bool true) (w' := w10) rfl rfl (by go_simp) (S0.trans hn) ?_
          simp only [List.getElem_toArray, List.getElem_cons_zero, List.getElem_cons_succ, Act.put, List.setIfInBounds_toArray, List.set_cons_zero, List.set_cons_succ]
          refine LL_callG rfl rfl 11 #[] (by go_simp) ?_
          refine (knows_from11 _ (HL.out.new (N9.out.trans S0)) hn).mono ?_
          rintro r w11 ⟨rfl, hn2⟩
          refine ⟨_, rfl, S0.trans hn2, ?_⟩
          simp only [List.getElem_toArray, List.getElem_cons_zero, List.getElem_cons_succ, Act.put, List.setIfInBounds_toArray, List.set_cons_zero, List.set_cons_succ]
          refine LL_val (v := .bool true) (w' := w11) rfl rfl (by go_simp) (S0.trans hn2) ?_
          simp only [List.getElem_toArray, List.getElem_cons_zero, List.getElem_cons_succ, Act.put, List.setIfInBounds_toArray, List.set_cons_zero, List.set_cons_succ]
          refine LL_val (v := .bool true) (w' := w11) rfl rfl (by go_simp) (S0.trans hn2) ?_
          simp only [List.getElem_toArray, List.getElem_cons_zero, List.getElem_cons_succ, Act.put, List.setIfInBounds_toArray, List.set_cons_zero, List.set_cons_succ]
          have NF := Lib.hid ((N9.out.trans S0).trans hn2)
          refine NoPanic.normal ?_
          clear S0 hn hn2
          go_wp2
          go_ret
          exact ⟨rfl, NF.out⟩
theorem valueBy_law (fv : Value) (f : List I) (cv : Value) (cut : List Bool) (fr k l : Int) (w : World) (hf : FunAt w fv f) (_hi : ∀ x ∈ f, In64I x) (_hn : f.length ≤ maxLen) (hc : RowAt w cv (cut.map .bool)) (_hm : cut.length ≤ maxLen) (_h1 : In64 fr) (_h2 : In64 k) (_h3 : In64 l) (hl : Laid w) :
    Calls Tryz.prog 3 #[fv, cv, .int .i64 fr, .int .i64 k, .int .i64 l] w fun e w' => e = .returned (.bool true) ∧ New w w' := valueBy_walk fv cv f cut fr k l w hf hc hl
end Go.Proofs.YtphopkjgfkaihaaGreatDoor
