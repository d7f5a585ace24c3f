/-
  'PathEndless': where a path leads nowhere, all steps only move; and where it leads somewhere, it has fewer steps than there are instructions: true, for every input.
-/
import Derived.Test.YtfjlglnjonijdaaGreatDoorPathLawE
namespace Go.Proofs.YtfjlglnjonijdaaGreatDoor
open Go.RowKit

set_option maxHeartbeats 16000000 in
set_option maxRecDepth 100000 in
theorem pathEndless_out (v : Value) (f : List I) (l : Ws) (s : Sl) (p q : Int) (zs : List Int) (w : World) (hf : FunAt w v f) (hp : Hp w (.slice s.ao s.n s.c) zs) (hl : Laid w) (h : f.length ≤ 300 → zs.length ≤ 100 → mcB f ⟨l, zs, p, q⟩ = true → False) :
    Calls Tryz.prog 4 #[v, .agg (cellsS l s p q).toArray] w fun e w' => e = .returned (.bool true) ∧ New w w' := by
  obtain ⟨ao, fc, rfl⟩ := hf.form
  have HL := Lib.hid hl
  have HF := Lib.hid hf
  have HP := Lib.hid hp
  have HZ := Lib.hid hp.len
  have HH := Lib.hid h
  have T1 : Hid True := Lib.hid trivial
  have T2 : Hid True := Lib.hid trivial
  clear hl hf hp h
  by_cases h3 : f.length ≤ 300
  · have d3 : decide ((300 : Int) < (f.length : Int)) = false := decide_eq_false (by omega)
    by_cases h1 : s.n ≤ 100
    · have d1 : decide ((100 : Int) < (s.n : Int)) = false := decide_eq_false (by omega)
      have HM : Hid (mcB f ⟨l, zs, p, q⟩ = false) := Lib.hid (by
        cases e : mcB f ⟨l, zs, p, q⟩ with
        | false => rfl
        | true => exact (HH.out h3 (by have := HZ.out; omega) e).elim)
      go_enter Tryz.func4, Tryz.ntmps4
      go_wp2_with (first
        | (clear T1; refine wpList_boxX rfl 28 (.tmp 1) rfl (cellsS l s p q) rfl ?_; intro wx gs hgs hls H1 hn; have HS : Hid (HasS wx gs l s p q) := Lib.hid H1; have HN := Lib.hid hn; have ngs : w.heap.size ≤ gs := hgs; have c48 := HasS.hp HS.out; clear H1 hn hls hgs)
        | (clear T2; refine wpList_ldSG rfl (.tmp 3) rfl gs rfl HS.out ?_)
        | (go_at_call 6; refine (as_any l s p q _).mono ?_; rintro e wa ⟨as1, rfl, ha, hn⟩; have HAs := Lib.hid ha; have IS : Hid (HasS wa gs l s p q) := Lib.hid (HasC.new HS.out hn); have IN := Lib.hid (HN.out.trans hn); clear ha hn)
        | (go_at_call 5; refine (refRight_any _ f ⟨l, zs, p, q⟩ as1 s _ (HF.out.new IN.out) (HP.out.new IN.out) HAs.out).mono ?_; rw [HM.out]; rintro e wb ⟨rfl, hn⟩; have JS : Hid (HasS wb gs l s p q) := Lib.hid (HasC.new IS.out hn); have JN := Lib.hid (IN.out.trans hn); have c49 := HasS.at JS.out; clear hn HAs c48)
        | (go_at_call 7; refine (knows_from _ HL.out JN.out).mono ?_; rintro e wk ⟨rfl, hnk⟩))
      go_ret
      exact ⟨rfl, hnk⟩
    · have d1 : decide ((100 : Int) < (s.n : Int)) = true := decide_eq_true (by omega)
      go_enter Tryz.func4, Tryz.ntmps4
      go_wp2_with (first
        | (clear T1; refine wpList_boxX rfl 28 (.tmp 1) rfl (cellsS l s p q) rfl ?_; intro wx gs hgs hls H1 hn; have HS : Hid (HasS wx gs l s p q) := Lib.hid H1; have HN := Lib.hid hn; have ngs : w.heap.size ≤ gs := hgs; have c48 := HasS.hp HS.out; clear H1 hn hls hgs)
        | (go_at_call 7; refine (knows_from _ HL.out HN.out).mono ?_; rintro e wk ⟨rfl, hnk⟩))
      go_ret
      exact ⟨rfl, hnk⟩
  · have d3 : decide ((300 : Int) < (f.length : Int)) = true := decide_eq_true (by omega)
    go_enter Tryz.func4, Tryz.ntmps4
    go_wp2_with (first
      | (clear T1; refine wpList_boxX rfl 28 (.tmp 1) rfl (cellsS l s p q) rfl ?_; intro wx gs hgs hls H1 hn; have HS : Hid (HasS wx gs l s p q) := Lib.hid H1; have HN := Lib.hid hn; have ngs : w.heap.size ≤ gs := hgs; have c48 := HasS.hp HS.out; clear H1 hn hls hgs)
      | (go_at_call 7; refine (knows_from _ HL.out HN.out).mono ?_; rintro e wk ⟨rfl, hnk⟩))
    go_ret
    exact ⟨rfl, hnk⟩
set_option maxHeartbeats 16000000 in
set_option maxRecDepth 100000 in
theorem pathEndless_in (ao : Option Addr) (n fc : Nat) (f : List I) (l : Ws) (s : Sl) (p q : Int) (zs : List Int) (w : World) (hf : FunAt w (.slice ao n fc) f) (hp : Hp w (.slice s.ao s.n s.c) zs) (hl : Laid w) (h3 : f.length ≤ 300) (hz : zs.length ≤ 100) (hm : mcB f ⟨l, zs, p, q⟩ = true) :
    Calls Tryz.prog 4 #[.slice ao n fc, .agg (cellsS l s p q).toArray] w fun e w' => e = .returned (.bool true) ∧ New w w' := by
  have HL := Lib.hid hl
  have HF := Lib.hid hf
  have HP := Lib.hid hp
  have HLN := Lib.hid hf.len
  have d3 : decide ((300 : Int) < (n : Int)) = false := decide_eq_false (by have := HLN.out; omega)
  have d1 : decide ((100 : Int) < (s.n : Int)) = false := decide_eq_false (by have := hp.len; omega)
  have HM := Lib.hid hm
  have HI := Lib.hid (mc_in hm)
  have HZ : Hid (zs.length ≤ 1000) := Lib.hid (by omega)
  have hn300 : n ≤ 300 := by have := HLN.out; omega
  obtain ⟨o, m, to, tb, hg⟩ := goes_mk (mc_in hm)
  have HG := Lib.hid hg
  have m200 := hg.m200
  have T1 : Hid True := Lib.hid trivial
  have T2 : Hid True := Lib.hid trivial
  have T3 : Hid True := Lib.hid trivial
  have T4 : Hid True := Lib.hid trivial
  have T5 : Hid True := Lib.hid trivial
  clear hl hf hp h3 hz hm hg
  rcases HG.out.fin with ⟨e1, e2, e3⟩ | ⟨t0, t1, t2, _, _, _⟩
  · have dn : decide (0 ≤ to) = false := decide_eq_false (by omega)
    have HNV := Lib.hid e3
    clear e1 e2 e3
    go_enter Tryz.func4, Tryz.ntmps4
    go_wp2_with (first
      | (clear T1; refine wpList_boxX rfl 28 (.tmp 1) rfl (cellsS l s p q) rfl ?_; intro wx gs hgs hls H1 hn; have HS : Hid (HasS wx gs l s p q) := Lib.hid H1; have HN := Lib.hid hn; have ngs : w.heap.size ≤ gs := hgs; have c48 := HasS.hp HS.out; clear H1 hn hls hgs)
      | (clear T2; refine wpList_ldSG rfl (.tmp 3) rfl gs rfl HS.out ?_)
      | (go_at_call 6; refine (as_any l s p q _).mono ?_; rintro e wa ⟨as1, rfl, ha, hn⟩; have HAs := Lib.hid ha; have IS : Hid (HasS wa gs l s p q) := Lib.hid (HasC.new HS.out hn); have IN := Lib.hid (HN.out.trans hn); clear ha hn)
      | (go_at_call 5; refine (refRight_any _ f ⟨l, zs, p, q⟩ as1 s _ (HF.out.new IN.out) (HP.out.new IN.out) HAs.out).mono ?_; rw [HM.out]; rintro e wb ⟨rfl, hn⟩; have JS : Hid (HasS wb gs l s p q) := Lib.hid (HasC.new IS.out hn); have JN := Lib.hid (IN.out.trans hn); have c49 := HasS.at JS.out; clear hn HAs c48)
      | (clear T3; go_at_call 8; refine (path_is (q := to) (t := tb) (k := (m : Int)) HL.out JN.out (HF.out.new JN.out) HI.out HG.out.wy HG.out.eto HG.out.etb HG.out.est).mono ?_; rintro e wc ⟨rfl, hn⟩; have KS : Hid (HasS wc gs l s p q) := Lib.hid (HasC.new JS.out hn); have KN := Lib.hid (JN.out.trans hn); clear hn c49)
      | (clear T4; refine wpList_alX rfl 40 rfl _ zeroP_run _ rfl ?_; intro wd g5 hg5 hl5 H5 hn; have L5 : Hid (HasP wd g5 0 noT 0) := Lib.hid H5; have n5 : w.heap.size ≤ g5 := Nat.le_trans KN.out.size hg5; have LS : Hid (HasS wd gs l s p q) := Lib.hid (HasC.new KS.out hn); have ds5 : gs ≠ g5 := Nat.ne_of_lt (Nat.lt_of_lt_of_le (HasC.lt KS.out) hg5); have LN := Lib.hid (KN.out.trans hn); clear H5 hn)
      | (clear T5; refine wpList_stP rfl rfl (.tmp 5) (.tmp 34) rfl g5 rfl (to := to) (t := tb) (n := (m : Int)) rfl L5.out ?_; intro we h5 k5; have M5 : Hid (HasP we g5 to tb (m : Int)) := Lib.hid h5; have MS : Hid (HasS we gs l s p q) := Lib.hid (HasC.kept LS.out k5 ds5); have MN := Lib.hid (k5.below _ n5 LN.out); have x0 := HasP.at M5.out; have x1 := HasP.st M5.out; clear h5 k5))
    go_loopw [7] (fun nv wr => ∃ (k : Nat) (s2 : Sl), nv = .int .i64 (k : Int) ∧ k ≤ 2 * n + 2 ∧ Hid (HasS wr gs (fil (tbA f p k) l) s2 (itA f p k) q) ∧ Hid (Hp wr (.slice s2.ao s2.n s2.c) zs) ∧ Hid (New w wr)) (fun nv _ => 2 * n + 2 - (intOf nv).toNat)
    case atStart => exact ⟨0, s, rfl, by omega, Lib.hid (by show HasS we gs (fil newT l) s p q; rw [fil_new]; exact MS.out), Lib.hid (HP.out.new MN.out), MN⟩
    case round =>
      obtain ⟨k, s2, rfl, hk, RS, RH, RN⟩ := hrel
      clear x0 x1
      have U1 : Hid True := Lib.hid trivial
      have U2 : Hid True := Lib.hid trivial
      have U3 : Hid True := Lib.hid trivial
      have U4 : Hid True := Lib.hid trivial
      have U5 : Hid True := Lib.hid trivial
      have U6 : Hid True := Lib.hid trivial
      have U7 : Hid True := Lib.hid trivial
      have U8 : Hid True := Lib.hid trivial
      have U9 : Hid True := Lib.hid trivial
      by_cases hkm : k < 2 * n + 2
      · have hkm' : (k : Int) < 2 * (n : Int) + 2 := by omega
        obtain ⟨hr, hs⟩ := goes_step HM.out (k := k) fun j _ => HNV.out j
        have hin := it_in HI.out (n := k) fun j _ => HNV.out j
        obtain ⟨qn, HQ⟩ : ∃ qn : Nat, Hid (itA f p k = (qn : Int)) := ⟨(itA f p k).toNat, Lib.hid (by have := hin.2.1; omega)⟩
        have hqn : qn < n := by have := hin.2.2; rw [HQ.out] at this; have := HLN.out; omega
        obtain ⟨fb, fo, x, ex, hix, hrg⟩ := FunAt.ix HF.out hqn
        have HX : Hid (movesB x.op = true) := Lib.hid (by
          have h0 : insA f (itA f p k) = x := by
            rw [HQ.out]
            unfold insA
            rw [Int.toNat_natCast, List.getD_eq_getElem?_getD, ex]
            rfl
          have h1 := HNV.out k
          unfold mvA at h1
          rw [h0] at h1
          exact h1)
        have HRG := Lib.hid hrg
        have dq0 : decide ((qn : Int) < 0) = false := decide_eq_false (by omega)
        have dq1 : decide ((n : Int) ≤ (qn : Int)) = false := decide_eq_false (by omega)
        have nq : ¬ (n : Int) ≤ (qn : Int) := by omega
        rw [HQ.out] at RS hr hs
        have HR := Lib.hid hr
        have HST := Lib.hid hs
        have r49 := HasS.at RS.out
        clear hr hs ex hrg hin
        go_wp2_with (first
          | (clear U1; refine wpList_ldM rfl 53 (.tmp 78) rfl fb fo rfl (cells6 x) _ (HRG.out _ RN.out) Tryz.underlying53 rfl (by rw [cells6_len]; exact infoI) ?_)
          | (clear U2; go_at_call 12; refine (refMoves_any x.op x.d x.a x.b x.n x.t _).mono ?_; rw [HX.out]; rintro e wq ⟨rfl, hn⟩; have QS : Hid (HasS wq gs (fil (tbA f p k) l) s2 (qn : Int) q) := Lib.hid (HasC.new RS.out hn); have QH := Lib.hid (RH.out.new hn); have QN := Lib.hid (RN.out.trans hn); clear hn r49)
          | (clear U3; refine wpList_ldS rfl (.tmp 3) rfl gs rfl QS.out ?_)
          | (clear U4; go_at_call 9; refine (stepDo_fr HL.out QN.out (HF.out.new QN.out) QH.out (Hp.nil _) (by decide) HR.out HST.out).mono ?_; rintro e wh ⟨s3, ve, so, rfl, h1, h2, h3, hn, f1, _, _⟩; obtain ⟨eo, ec, e1⟩ := h2.form; subst e1; have SH := Lib.hid h1; have SF := Lib.hid f1; have SS := Lib.hid (HasC.new QS.out hn); have SN := Lib.hid (QN.out.trans hn); have L7 := HasC.lt QS.out; clear h1 h2 h3 hn f1)
          | (clear U5; refine wpList_alX rfl 28 rfl _ zeroS_run _ rfl ?_; intro wi g9 hg9 hl9 H9 hn9; have V9 : Hid (HasS wi g9 noWs nilS 0 0) := Lib.hid H9; clear H9)
          | (clear U6; refine wpList_alX rfl 46 rfl _ zeroO_run _ rfl ?_; intro wj g11 hg11 hl11 H11 hn11; have W11 : Hid (HasO wj g11 0 0 nilS) := Lib.hid H11; have W9 : Hid (HasS wj g9 noWs nilS 0 0) := Lib.hid (HasC.new V9.out hn11); have d911 : g9 ≠ g11 := Nat.ne_of_lt (Nat.lt_of_lt_of_le (HasC.lt V9.out) hg11); have NJ := Lib.hid (hn9.trans hn11); have q11 : wh.heap.size ≤ g11 := Nat.le_trans hn9.size hg11; clear H11 hn9 hn11)
          | (clear U7; refine wpList_stS rfl rfl (.tmp 8) (.tmp 87) rfl g9 rfl (l := fil (tbA f p (k + 1)) l) (s := s3) (p := itA f p (k + 1)) (q := q) rfl W9.out ?_; intro wl h9 k9; have X9 : Hid (HasS wl g9 (fil (tbA f p (k + 1)) l) s3 (itA f p (k + 1)) q) := Lib.hid h9; have X11 : Hid (HasO wl g11 0 0 nilS) := Lib.hid (HasC.kept W11.out k9 (Ne.symm d911)); have NL := Lib.hid (k9.below wh hg9 NJ.out); clear h9 k9)
          | (clear U8; refine wpList_stO rfl rfl (.tmp 10) (.tmp 89) rfl g11 rfl 0 0 so rfl X11.out ?_; intro wm h11 k11; have Y11 : Hid (HasO wm g11 0 0 so) := Lib.hid h11; have Y9 : Hid (HasS wm g9 (fil (tbA f p (k + 1)) l) s3 (itA f p (k + 1)) q) := Lib.hid (HasC.kept X9.out k11 d911); have NM := Lib.hid (k11.below wh q11 NL.out); have YS := Lib.hid (HasC.new SS.out NM.out); have YH := Lib.hid (SH.out.new NM.out); have YN := Lib.hid (SN.out.trans NM.out); have z0 := HasO.how Y11.out; clear h11 k11)
          | (clear U9; refine wpList_ldS rfl (.tmp 8) rfl g9 rfl Y9.out ?_; have UX : Hid True := Lib.hid trivial)
          | (clear UX; refine wpList_stS rfl rfl (.tmp 3) (.tmp 103) rfl gs rfl (l := fil (tbA f p (k + 1)) l) (s := s3) (p := itA f p (k + 1)) (q := q) rfl YS.out ?_; intro wn h7 k7; have ZS := Lib.hid h7; have ZH := Lib.hid (YH.out.far SF.out L7 k7.other); have ZN := Lib.hid (k7.below _ ngs YN.out); clear h7 k7))
        go_roundw
        case rel => exact ⟨k + 1, s3, by go_num, by omega, ZS, ZH, ZN⟩
        case measure => simp [intOf]; omega
      · have hkm' : ¬ (k : Int) < 2 * (n : Int) + 2 := by omega
        go_wp2_with (first
          | (go_at_call 7; refine (knows_from _ HL.out RN.out).mono ?_; rintro e wk ⟨rfl, hnk⟩))
        go_ret
        exact ⟨rfl, hnk⟩
  · have dn : decide (0 ≤ to) = true := decide_eq_true t0
    have dm : decide ((m : Int) < (n : Int)) = true := decide_eq_true (by have := HLN.out; omega)
    have dt : decide (to < (n : Int)) = true := decide_eq_true (by have := HLN.out; omega)
    have hmn : (m : Int) < (n : Int) := by have := HLN.out; omega
    have hmn' : m < n := by omega
    clear t0 t1 t2
    go_enter Tryz.func4, Tryz.ntmps4
    go_wp2_with (first
      | (clear T1; refine wpList_boxX rfl 28 (.tmp 1) rfl (cellsS l s p q) rfl ?_; intro wx gs hgs hls H1 hn; have HS : Hid (HasS wx gs l s p q) := Lib.hid H1; have HN := Lib.hid hn; have ngs : w.heap.size ≤ gs := hgs; have c48 := HasS.hp HS.out; clear H1 hn hls hgs)
      | (clear T2; refine wpList_ldSG rfl (.tmp 3) rfl gs rfl HS.out ?_)
      | (go_at_call 6; refine (as_any l s p q _).mono ?_; rintro e wa ⟨as1, rfl, ha, hn⟩; have HAs := Lib.hid ha; have IS : Hid (HasS wa gs l s p q) := Lib.hid (HasC.new HS.out hn); have IN := Lib.hid (HN.out.trans hn); clear ha hn)
      | (go_at_call 5; refine (refRight_any _ f ⟨l, zs, p, q⟩ as1 s _ (HF.out.new IN.out) (HP.out.new IN.out) HAs.out).mono ?_; rw [HM.out]; rintro e wb ⟨rfl, hn⟩; have JS : Hid (HasS wb gs l s p q) := Lib.hid (HasC.new IS.out hn); have JN := Lib.hid (IN.out.trans hn); have c49 := HasS.at JS.out; clear hn HAs c48)
      | (clear T3; go_at_call 8; refine (path_is (q := to) (t := tb) (k := (m : Int)) HL.out JN.out (HF.out.new JN.out) HI.out HG.out.wy HG.out.eto HG.out.etb HG.out.est).mono ?_; rintro e wc ⟨rfl, hn⟩; have KS : Hid (HasS wc gs l s p q) := Lib.hid (HasC.new JS.out hn); have KN := Lib.hid (JN.out.trans hn); clear hn c49)
      | (clear T4; refine wpList_alX rfl 40 rfl _ zeroP_run _ rfl ?_; intro wd g5 hg5 hl5 H5 hn; have L5 : Hid (HasP wd g5 0 noT 0) := Lib.hid H5; have n5 : w.heap.size ≤ g5 := Nat.le_trans KN.out.size hg5; have LS : Hid (HasS wd gs l s p q) := Lib.hid (HasC.new KS.out hn); have ds5 : gs ≠ g5 := Nat.ne_of_lt (Nat.lt_of_lt_of_le (HasC.lt KS.out) hg5); have LN := Lib.hid (KN.out.trans hn); clear H5 hn)
      | (clear T5; refine wpList_stP rfl rfl (.tmp 5) (.tmp 34) rfl g5 rfl (to := to) (t := tb) (n := (m : Int)) rfl L5.out ?_; intro we h5 k5; have M5 : Hid (HasP we g5 to tb (m : Int)) := Lib.hid h5; have MS : Hid (HasS we gs l s p q) := Lib.hid (HasC.kept LS.out k5 ds5); have MN := Lib.hid (k5.below _ n5 LN.out); have x0 := HasP.at M5.out; have x1 := HasP.st M5.out; clear h5 k5)
      | (go_at_call 7; refine (knows_from _ HL.out MN.out).mono ?_; rintro e wk ⟨rfl, hnk⟩))
    go_ret
    exact ⟨rfl, hnk⟩
theorem pathEndless_law (v : Value) (f : List I) (l : Ws) (s : Sl) (p q : Int) (zs : List Int) (w : World) (hf : FunAt w v f) (_hi : ∀ y ∈ f, In64I y) (_hm : f.length ≤ maxLen) (hp : Hp w (.slice s.ao s.n s.c) zs) (hl : Laid w) :
    Calls Tryz.prog 4 #[v, .agg (cellsS l s p q).toArray] w fun e w' => e = .returned (.bool true) ∧ New w w' := by
  by_cases h : f.length ≤ 300 ∧ zs.length ≤ 100 ∧ mcB f ⟨l, zs, p, q⟩ = true
  · obtain ⟨ao, fc, rfl⟩ := hf.form
    exact pathEndless_in ao _ fc f l s p q zs w hf hp hl h.1 h.2.1 h.2.2
  · exact pathEndless_out v f l s p q zs w hf hp hl fun h1 h2 h3 => h ⟨h1, h2, h3⟩
end Go.Proofs.YtfjlglnjonijdaaGreatDoor
