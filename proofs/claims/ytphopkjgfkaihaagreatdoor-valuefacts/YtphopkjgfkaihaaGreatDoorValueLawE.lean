/-
  'ValueFacts': the facts of what was built are those of which the reference says: true, for every input.
-/
import Derived.Test.YtphopkjgfkaihaaGreatDoorValueLaw0
import Derived.Test.YtphopkjgfkaihaaGreatDoorValueO
namespace Go.Proofs.YtphopkjgfkaihaaGreatDoor
open Go.RowKit

set_option maxHeartbeats 16000000 in
set_option maxRecDepth 100000 in
theorem valueFacts_walk (fv cv : Value) (f : List I) (cut : List Bool) (w : World) (hf : FunAt w fv f) (hc : RowAt w cv (cut.map .bool)) (hl : Laid w) :
    Calls Tryz.prog 5 #[fv, cv] w fun e w' => e = .returned (.bool true) ∧ New w w' := by
  obtain ⟨fa, fc, rfl⟩ := hf.form
  obtain ⟨ca, m, cc, rfl⟩ := hc.form
  have HL := Lib.hid hl
  have HF := Lib.hid hf
  have HC := Lib.hid hc
  clear hl hf hc
  obtain ⟨n, HN⟩ : ∃ n, Hid (f.length = n) := ⟨_, Lib.hid rfl⟩
  rw [HN.out] at HF ⊢
  cases d3 : decide ((60 : Int) < (n : Int)) with
  | true =>
    go_enter Tryz.func5, Tryz.ntmps5
    go_wp2_with (go_at_call 11; refine (knows_from11 _ HL.out (New.refl w)).mono ?_; rintro e wk ⟨rfl, hnk⟩)
    go_ret
    exact ⟨rfl, hnk⟩
  | false =>
    cases d4 : decide ((300 : Int) < (m : Int)) with
    | true =>
      go_enter Tryz.func5, Tryz.ntmps5
      go_wp2_with (go_at_call 11; refine (knows_from11 _ HL.out (New.refl w)).mono ?_; rintro e wk ⟨rfl, hnk⟩)
      go_ret
      exact ⟨rfl, hnk⟩
    | false =>
      by_cases hr : (chkF f).2 = 0
      case neg =>
        have q1 : ((chkF f).2 == 0) = false := bneq_of hr
        have T1 : Hid True := Lib.hid trivial
        clear hr
        go_enter Tryz.func5, Tryz.ntmps5
        go_wp2_with (first
          | (clear T1; go_at_call 10; refine (rasmRight_any _ f _ HF.out).mono ?_; rw [q1]; rintro e w1 ⟨rfl, hn1⟩)
          | (go_at_call 11; refine (knows_from11 _ HL.out hn1).mono ?_; rintro e wk ⟨rfl, hnk⟩))
        go_ret
        exact ⟨rfl, hnk⟩
      case pos =>
        have q1 : ((chkF f).2 == 0) = true := beq_of hr
        have HR := Lib.hid hr
        have HS := Lib.hid (Sep.start w)
        obtain ⟨F, hF⟩ := fact_tab f (sklA f cut)
        have HFT0 := Lib.hid hF
        have hgs := good_skl f cut
        have hin := inS_skl hr cut
        have hfw := skl_few hr cut
        have HALL := Lib.hid fun (fv v : Value) (w : World) (h1 : Laid w) (h2 : FunAt w fv f) (h3 : (nodesO v (sklA f cut).nodes).rd w) => all_pub h1 h2 hr h3
        have HFCT := Lib.hid fun (fv v : Value) (w : World) (h1 : Laid w) (h2 : FunAt w fv f) (h3 : (nodesO v (sklA f cut).nodes).rd w) => facts_pub h1 h2 hr h3 hF
        have HBY := Lib.hid fun (e : Ed) (l : Nat) (fv v : Value) (w : World) (he : hasE (sklA f cut) e) (hl : l < 24) (h1 : Laid w) (h2 : FunAt w fv f) (h3 : (nodesO v (sklA f cut).nodes).rd w) => by_pub e l h1 h2 hr h3 he hl
        have HBN := Lib.hid fun (e : Ed) (l : Int) (fv v : Value) (w : World) (he : ¬ (hasE (sklA f cut) e ∧ 0 ≤ l ∧ l < 24)) (h3 : (nodesO v (sklA f cut).nodes).rd w) => by_none (f := f) (fv := fv) e l hr h3 he
        obtain ⟨S, HSK⟩ : ∃ S, Hid (sklA f cut = S) := ⟨_, Lib.hid rfl⟩
        rw [HSK.out] at HALL HFCT HBY HBN HFT0 hgs hin hfw
        obtain ⟨N, HNN⟩ : ∃ N, Hid (S.nodes.length = N) := ⟨_, Lib.hid rfl⟩
        rw [HNN.out] at hfw HFCT
        have hN2 : N ≤ 200 := hfw
        have HGS := Lib.hid hgs
        have HIS := Lib.hid hin
        clear hr hF hgs hin hfw
        have HOO : Hid (∀ c n l, isF c → n < N → l < 24 → (HasFact f S c n l ↔ F n l = c)) := Lib.hid fun c n l hc hn hl => by
          have h := is_iff (cut := cut) (k := F n l) (n := n) (l := l) HR.out (by rw [HSK.out]; exact HFT0.out n l (by rw [HNN.out]; exact hn) hl) hc
          rw [HSK.out] at h
          exact h
        have HVV : Hid (∀ n l, n < N → l < 24 → F n l = (4, (l : Int)) ∨ F n l = (0, 0) ∨ (F n l).1 = 2 ∧ NumOf f (F n l).2) := Lib.hid fun n l hn hl => by
          rcases HFT0.out n l (by rw [HNN.out]; exact hn) hl with ⟨h1 | h1, h2⟩ | ⟨h1, _⟩
          · exact .inr (.inl h1)
          · exact .inr (.inr ⟨h1, fact_num HR.out (cut := cut) h1 n (by rw [HSK.out]; exact h2)⟩)
          · exact .inl h1
        have hn60 : n ≤ 1000 := by have := of_decide_eq_false d3; omega
        have T1 : Hid True := Lib.hid trivial
        have T2 : Hid True := Lib.hid trivial
        have T3 : Hid True := Lib.hid trivial
        have T4 : Hid True := Lib.hid trivial
        have T5 : Hid True := Lib.hid trivial
        have T6 : Hid True := Lib.hid trivial
        have T7 : Hid True := Lib.hid trivial
        have T8 : Hid True := Lib.hid trivial
        have T9 : Hid True := Lib.hid trivial
        have T10 : Hid True := Lib.hid trivial
        go_enter Tryz.func5, Tryz.ntmps5
        go_wp2_with (first
          | (clear T1; go_at_call 10; refine (rasmRight_any _ f _ HF.out).mono ?_; rw [q1]; rintro e w1 ⟨rfl, hn1⟩; replace HS := Lib.hid (HS.out.go hn1); clear hn1)
          | (clear T2; go_at_call 12; refine (build_in fa n fc f ca m cc cut _ (HL.out.new HS.out.nw) (HF.out.new HS.out.nw) (HC.out.new HS.out.nw) HR.out).mono ?_; rw [HSK.out]; rintro e w2 ⟨vs, rfl, hs⟩; obtain ⟨na, nc, hv⟩ := rowA_form hs.hd; rw [HNN.out] at hv; subst hv; replace HS := Lib.hid (HS.out.call hs); clear hs)
          | (clear T3; refine wpList_alB rfl 34 rfl _ zeroSk_run _ rfl HS.out ?_; intro w3 g5 hs; replace HS := Lib.hid hs; clear hs)
          | (clear T4; refine wpList_stSW 0 rfl rfl 34 (.tmp 5) (.tmp 25) rfl g5 rfl _ rfl HS.out rfl (skC S.entry (.slice na N nc)) rfl (by rw [skC_len, skC_len]) (skC_one _ rfl) (by rw [skC_len]; exact infoSk) ?_; intro w4 hs; replace HS := Lib.hid hs; clear hs)
          | (clear T5; refine wpList_ldAG rfl 34 (.tmp 5) rfl g5 0 rfl (skC S.entry (.slice na N nc)) _ (HasC.all (HS.out.has 0 rfl)) Tryz.underlying34 rfl (by rw [skC_len]; exact infoSk) ?_)
          | (clear T6; go_at_call 20; refine (HFCT.out _ _ _ (HL.out.new HS.out.nw) (HF.out.new HS.out.nw) (HS.out.rd 1 rfl)).mono ?_; rintro e w5 ⟨v5, rfl, hs⟩; obtain ⟨ya, yc, hv⟩ := rowA_form hs.hd; rw [tabK_len] at hv; subst hv; replace HS := Lib.hid (HS.out.call hs); clear hs)
          | (clear T7; go_at_call 14; refine (refBuild_any fa n fc f ca m cc cut _ (HF.out.new HS.out.nw) (HC.out.new HS.out.nw) HR.out).mono ?_; rw [HSK.out]; rintro e w6 ⟨kt, ct, vn, rfl, hs⟩; obtain ⟨ra, rc, hv⟩ := rowA_form (hs.rd 1 rfl); rw [HNN.out] at hv; subst hv; have HRS : Hid (RefS w6 S kt ct ra rc N) := Lib.hid ⟨hs.rd 0 rfl, hs.rd 1 rfl, HNN.out, hN2, HGS.out⟩; replace HS := Lib.hid (HS.out.call hs); clear hs)
          | (clear T8; go_at_call 21; refine (rfacts_any HRS.out (HF.out.new HS.out.nw) HIS.out hn60 HOO.out HVV.out).mono ?_; rintro e w7 ⟨v7, rfl, hs⟩; obtain ⟨xa, xc, hv⟩ := rowA_form hs.hd; rw [tabK_len] at hv; subst hv; replace HS := Lib.hid (HS.out.call hs); clear hs)
          | (clear T9; go_at_call 19; refine (same_facts _ _ N _ _ F _ (HS.out.rd 3 rfl) (HS.out.rd 0 rfl) (by omega)).mono ?_; rintro e w8 ⟨rfl, hn⟩; replace HS := Lib.hid (HS.out.go hn); clear hn)
          | (clear T10; go_at_call 11; refine (knows_from11 _ HL.out HS.out.nw).mono ?_; rintro e wk ⟨rfl, hnk⟩))
        go_ret
        exact ⟨rfl, hnk⟩
theorem valueFacts_law (fv : Value) (f : List I) (cv : Value) (cut : List Bool) (w : World) (hf : FunAt w fv f) (_hi : ∀ x ∈ f, In64I x) (_hn : f.length ≤ maxLen) (hc : RowAt w cv (cut.map .bool)) (_hm : cut.length ≤ maxLen) (hl : Laid w) :
    Calls Tryz.prog 5 #[fv, cv] w fun e w' => e = .returned (.bool true) ∧ New w w' := valueFacts_walk fv cv f cut w hf hc hl
end Go.Proofs.YtphopkjgfkaihaaGreatDoor
