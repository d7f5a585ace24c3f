/-
  The contract of run.Run: for every function and case.
-/
import Derived.Test.YtlmnodbhfpgplaaGreatDoorRunE
namespace Go.Proofs.YtlmnodbhfpgplaaGreatDoor
open Go.RowKit

set_option maxHeartbeats 32000000 in
set_option maxRecDepth 100000 in
theorem run_in (rs : Nat → Int) (h a : Sl) (n : Nat) (f : List I) (zs0 az : List Int) (ao : Option Addr) (fn fc : Nat) (w : World) (hl : Laid w) (hf : FunAt w (.slice ao fn fc) f) (hh : Hp w (svS h) zs0) (ha : Hp w (svS a) az) (hr : (chkF f).2 = 0) (hz : zs0.length ≤ 16) (hal : az.length ≤ 5000) (hn : n ≤ 5000) :
    Calls Tryz.prog 8 #[.slice ao fn fc, .agg (caC rs h a (n : Int)).toArray] w fun e w' => Rd w w' e (runR f rs zs0 az n) := by
  have q1 : ((chkF f).2 == 0) = true := beq_of hr
  have hhn : h.n = zs0.length := Hp.len hh
  have han : a.n = az.length := Hp.len ha
  have q2 : caseN h.n a.n (n : Int) = true := decide_eq_true (by omega)
  have hh1 : h.n ≤ 1000 := by omega
  have HL := Lib.hid hl
  have HF := Lib.hid hf
  have HH := Lib.hid hh
  have HA := Lib.hid ha
  have HAL : Hid (az.length ≤ 100000) := Lib.hid (by omega)
  have HM0 : Hid (mcB f (begM rs zs0) = true) := Lib.hid (beg_right hr hz)
  have H200 : Hid (f.length ≤ 200) := Lib.hid (right_iff.mp hr).1
  have HFN : Hid (fn = f.length) := Lib.hid hf.len
  obtain ⟨R, HR0⟩ : ∃ R, Hid (runR f rs zs0 az n = R) := ⟨_, Lib.hid rfl⟩
  rw [HR0.out]
  clear hl hf hh ha hr hz hal hhn han
  go_enter Tryz.func8, Tryz.ntmps8
  have Tr1 : Hid True := Lib.hid trivial
  have Tr2 : Hid True := Lib.hid trivial
  have Tr3 : Hid True := Lib.hid trivial
  have Tr4 : Hid True := Lib.hid trivial
  have Tr5 : Hid True := Lib.hid trivial
  have Tr6 : Hid True := Lib.hid trivial
  have Tr7 : Hid True := Lib.hid trivial
  have Tr8 : Hid True := Lib.hid trivial
  go_wp2_with (first
    | (go_at_call 22; refine (asmRight_any _ f _ (HL.out.new HN.out) (HF.out.new HN.out)).mono ?_; rw [q1]; rintro e wx ⟨rfl, hnx⟩; replace A3 : Hid (HasK wx g3 rs h a n) := Lib.hid (HasC.new A3.out hnx); replace A4 : Hid (HasTr wx g4 nilS 0 0 nilS 0 0) := Lib.hid (HasC.new A4.out hnx); replace A5 : Hid (HasS wx g5 noWs nilS 0 0) := Lib.hid (HasC.new A5.out hnx); replace HN := Lib.hid (HN.out.trans hnx); clear hnx)
    | (go_at_call 21; refine (runRight_any rs h a n _).mono ?_; rw [q2]; rintro e wx ⟨rfl, hnx⟩; replace A3 : Hid (HasK wx g3 rs h a n) := Lib.hid (HasC.new A3.out hnx); replace A4 : Hid (HasTr wx g4 nilS 0 0 nilS 0 0) := Lib.hid (HasC.new A4.out hnx); replace A5 : Hid (HasS wx g5 noWs nilS 0 0) := Lib.hid (HasC.new A5.out hnx); replace HN := Lib.hid (HN.out.trans hnx); clear hnx)
    | (go_at_call 23; have b7 := HasC.lt A7.out; refine (begin_any (HH.out.new HN.out) hh1).mono ?_; rintro e wx ⟨s0, rfl, hs0, hnx, hfr⟩; have HS0 : Hid (Hp wx (svS s0) zs0) := Lib.hid hs0; have HSx : Hid (Hp wx (svS s0) zs0) := Lib.hid hs0; have HN0 := Lib.hid HN.out; have HFR : Hid (Fresh wz.heap.size (svS s0) zs0) := Lib.hid hfr; replace A3 : Hid (HasK wx g3 rs h a n) := Lib.hid (HasC.new A3.out hnx); replace A4 : Hid (HasTr wx g4 nilS 0 0 nilS 0 0) := Lib.hid (HasC.new A4.out hnx); replace A5 : Hid (HasS wx g5 noWs nilS 0 0) := Lib.hid (HasC.new A5.out hnx); replace A7 : Hid (HasTr wx g7 nilS 0 0 nilS 0 0) := Lib.hid (HasC.new A7.out hnx); replace HN := Lib.hid (HN.out.trans hnx); have z8 := hnx.size; clear hnx hs0 hfr)
    | (clear Tr1; refine wpList_boxX rfl 26 (.tmp 1) rfl (caC rs h a n) rfl ?_; intro wx g3 hg3 hl3 H3 hn3; have A3 : Hid (HasK wx g3 rs h a n) := Lib.hid H3; have HN := Lib.hid hn3; clear H3 hn3)
    | (clear Tr2; refine wpList_alX rfl 33 rfl _ zeroT_run _ rfl ?_; intro wx g4 hg4 hl4 H4 hn4; have A4 : Hid (HasTr wx g4 nilS 0 0 nilS 0 0) := Lib.hid H4; have l34 : g3 < g4 := Nat.lt_of_lt_of_le hl3 hg4; replace A3 : Hid (HasK wx g3 rs h a n) := Lib.hid (HasC.new A3.out hn4); replace HN := Lib.hid (HN.out.trans hn4); clear H4 hn4 hl3)
    | (clear Tr3; refine wpList_alX rfl 38 rfl _ zeroS_run _ rfl ?_; intro wx g5 hg5 hl5 H5 hn5; have A5 : Hid (HasS wx g5 noWs nilS 0 0) := Lib.hid H5; have l45 : g4 < g5 := Nat.lt_of_lt_of_le hl4 hg5; replace A3 : Hid (HasK wx g3 rs h a n) := Lib.hid (HasC.new A3.out hn5); replace A4 : Hid (HasTr wx g4 nilS 0 0 nilS 0 0) := Lib.hid (HasC.new A4.out hn5); replace HN := Lib.hid (HN.out.trans hn5); clear H5 hn5 hl4)
    | (clear Tr4; refine wpList_ldK rfl (.tmp 3) rfl g3 rfl A3.out ?_)
    | (clear Tr5; have b5 := HasC.lt A5.out; refine wpList_alX rfl 33 rfl _ zeroT_run _ rfl ?_; intro wz g7 hg7 hl7 H7 hn7; have A7 : Hid (HasTr wz g7 nilS 0 0 nilS 0 0) := Lib.hid H7; have l57 : g5 < g7 := Nat.lt_of_lt_of_le b5 hg7; replace A3 : Hid (HasK wz g3 rs h a n) := Lib.hid (HasC.new A3.out hn7); replace A4 : Hid (HasTr wz g4 nilS 0 0 nilS 0 0) := Lib.hid (HasC.new A4.out hn7); replace A5 : Hid (HasS wz g5 noWs nilS 0 0) := Lib.hid (HasC.new A5.out hn7); replace HN := Lib.hid (HN.out.trans hn7); clear H7 hn7)
    | (clear Tr6; refine wpList_ldK rfl (.tmp 3) rfl g3 rfl A3.out ?_)
    | (clear Tr7; refine wpList_alX rfl 38 rfl _ zeroS_run _ rfl ?_; intro wy g8 hg8 hl8 H8 hn8; have A8 : Hid (HasS wy g8 noWs nilS 0 0) := Lib.hid H8; clear H8)
    | (clear Tr8; refine wpList_stS rfl rfl (.tmp 8) (.tmp 25) rfl g8 rfl (l := begL rs) (s := s0) (p := 0) (q := 0) rfl A8.out ?_; intro wb H9 k9; have N9 : New wx wb := k9.below wx hg8 hn8; replace HS0 : Hid (Hp wb (svS s0) zs0) := Lib.hid (HS0.out.new N9); have G : Hid (Gx w.heap.size g3 g4 g5 g7 g8) := Lib.hid ⟨hg3, l34, l45, l57, (by omega)⟩; have AP : Hid (Ap (Gs w.heap.size g4 g5 g7 g8 nilS) (svS s0) zs0) := Lib.hid (ap_begin G.out HFR.out b7 HSx.out hg8 (Nat.le_trans HN0.out.size (Nat.le_refl _))); have FR : Hid (Fl w wb wb.heap.size g3 g4 g5 g7 g8 rs h a n nilS 0 0 nilS 0 0 (begL rs) s0 0 0) := Lib.hid ⟨HasC.new A3.out N9, HasC.new A4.out N9, HasC.new A5.out N9, HasC.new A7.out N9, H9, HN.out.trans N9, Nat.le_refl _⟩; have c10 := HasK.fuel FR.out.cs; have hb8 : g8 < wb.heap.size := HasC.lt H9; clear H9 k9 hn8 N9 A3 A4 A5 A7 A8 HN))
  have b7B : g7 < wb.heap.size := HasC.lt FR.out.t
  have b8B : g8 < wb.heap.size := HasC.lt FR.out.s
  have HWB0 : Hid (w.heap.size ≤ wb.heap.size) := Lib.hid FR.out.new.size
  have L0 : Lp w wb wb.heap.size g3 g4 g5 g7 g8 rs h a n f az R 0 nilS nilS s0 (begL rs) zs0 0 0 0 [] := ⟨FR.out, Evs.nil _ _, HS0.out, AP.out, Hp.nil _, HM0.out, HR0.out, Int.le_refl 0, Int.le_refl 0, Nat.le_refl 0⟩
  clear FR HS0 AP HM0 HR0 HSx HFR HN0 c10
  go_loopw [28] (fun kv wr => ∃ (k : Nat) (e o s : Sl) (l : Ws) (zs : List Int) (p q wk : Int) (es : List Ev), kv = .int .i64 k ∧ k ≤ n ∧ Hid (Lp w wr wb.heap.size g3 g4 g5 g7 g8 rs h a n f az R k e o s l zs p q wk es)) (fun kv _ => n - (intOf kv).toNat)
  case atStart => exact ⟨0, nilS, nilS, s0, begL rs, zs0, 0, 0, 0, [], rfl, by omega, Lib.hid L0⟩
  case round =>
    obtain ⟨k, e, o, s, l, zs, p, q, wk, es, rfl, hk, LP⟩ := hrel
    have FR := Lib.hid LP.out.fr
    have EV := Lib.hid LP.out.ev
    have HS := Lib.hid LP.out.hs
    have AP := Lib.hid LP.out.ap
    have HM := Lib.hid LP.out.mc
    have HON := Lib.hid LP.out.on
    have hw0 := LP.out.w0
    have hw1 := LP.out.w1
    have hel := LP.out.el
    have c10 := HasK.fuel FR.out.cs
    by_cases hlt : k < n
    · have hlt' : (k : Int) < (n : Int) := by omega
      have c82 := HasS.at FR.out.s
      have hmm := mc_iff.mp HM.out
      have hp0 : 0 ≤ p := hmm.2.1
      have hpn : p < f.length := hmm.2.2.1
      have HZ16 : Hid (zs.length ≤ 16) := Lib.hid hmm.2.2.2.1
      obtain ⟨fb, fo, x, ex, hix, hrg⟩ := FunAt.ix HF.out (i := p.toNat) (by have := HFN.out; omega)
      rw [show ((p.toNat : Nat) : Int) = p from by omega] at hix
      have HXE : Hid (insA f p = x) := Lib.hid (by
        unfold insA
        rw [List.getD_eq_getElem?_getD, ex]
        rfl)
      have HX := Lib.hid hrg
      obtain ⟨⟨⟨l2, z2, p2, q2⟩, es2, how, val, oh⟩, HRs⟩ : ∃ r, Hid (stp f ⟨l, zs, p, q⟩ az = r) := ⟨_, Lib.hid rfl⟩
      obtain ⟨wk2, HW2⟩ : ∃ wk2, Hid (wk + wk1 x = wk2) := ⟨_, Lib.hid rfl⟩
      have HWK : Hid (wk + 1 * wk1 x = wk2) := Lib.hid (by rw [Int.one_mul]; exact HW2.out)
      have hwx := wk1_bound x
      have HWB : Hid (0 ≤ wk ∧ wk ≤ 10000) := Lib.hid (by omega)
      have HWB2 : Hid (0 ≤ wk2 ∧ wk2 ≤ 10000) := Lib.hid (by have := HW2.out; omega)
      have HWL : Hid (0 ≤ wk2 ∧ wk2 ≤ (k : Int) + 1) := Lib.hid (by have := HW2.out; omega)
      have kb1 : 0 ≤ (k : Int) ∧ (k : Int) ≤ 10000 := by omega
      have hev2 : es2.length ≤ 1 := by
        have := stp_ev (f := f) (s := ⟨l, zs, p, q⟩) (az := az)
        rw [HRs.out] at this
        exact this
      have HEL : Hid (es.length + es2.length ≤ 100000) := Lib.hid (by omega)
      have HEK : Hid ((es ++ es2).length ≤ k + 1) := Lib.hid (by rw [List.length_append]; omega)
      have HNX := Lib.hid (run_next hlt HON.out HRs.out HXE.out HW2.out)
      have HMK : Hid (mcB f ⟨l2, z2, p2, q2⟩ = true) := Lib.hid (by have := stp_keeps (az := az) HM.out; rwa [HRs.out] at this)
      clear hmm hrg ex hel hev2 hwx hw0 hw1 LP
      have Tr1 : Hid True := Lib.hid trivial
      have Tr2 : Hid True := Lib.hid trivial
      have Tr3 : Hid True := Lib.hid trivial
      have Tr4 : Hid True := Lib.hid trivial
      have Tr5 : Hid True := Lib.hid trivial
      have Tr6 : Hid True := Lib.hid trivial
      have Tr7 : Hid True := Lib.hid trivial
      have Tr8 : Hid True := Lib.hid trivial
      have Tr9 : Hid True := Lib.hid trivial
      have Tr10 : Hid True := Lib.hid trivial
      have Tr11 : Hid True := Lib.hid trivial
      have Tr12 : Hid True := Lib.hid trivial
      have Tr13 : Hid True := Lib.hid trivial
      have Tr14 : Hid True := Lib.hid trivial
      have Tr15 : Hid True := Lib.hid trivial
      go_upto_region 12 with (first
        | (go_at_call 24; have b8 := HasC.lt FR.out.s; have GL := Lib.hid (Gs.lt G.out b8 EV.out); refine (stepDo_fr HL.out FR.out.new (HF.out.new FR.out.new) HS.out (HA.out.new FR.out.new) HAL.out HM.out HRs.out).mono ?_; rintro r w3 ⟨s2, ve, so, rfl, h1, h2, h3, hn, f1, f2, f3⟩; obtain ⟨eo, ec, e1⟩ := h2.form; subst e1; have RWS : Hid (Rw w3 (Gs w.heap.size g4 g5 g7 g8 e) s s2 so zs z2 oh) := Lib.hid ⟨HS.out.new hn, AP.out, h1, f1.ap GL.out, h3, f3.ap GL.out⟩; have HE := Lib.hid h2; replace I9 := Lib.hid (I9.out.new hn); replace FR := Lib.hid (FR.out.grow hn); replace EV := Lib.hid (EV.out.new hn); have d9 := HasC.lt (show HasC w3 g9 79 (cells6 x) from I9.out); clear h1 h2 h3 f1 f2 f3 hn GL b8)
        | (go_at_call 25; refine (counted_is (x := x) rfl HWK.out kb1 HWB.out (by omega) _).mono ?_; rintro r wc ⟨rfl, hn⟩; replace I9 := Lib.hid (I9.out.new hn); replace B10 : Hid (HasS wc g10 l2 s2 p2 q2) := Lib.hid (HasC.new B10.out hn); replace O12 : Hid (HasO wc g12 how val so) := Lib.hid (HasC.new O12.out hn); replace RWS := Lib.hid (RWS.out.new hn); replace FR := Lib.hid (FR.out.grow hn); replace EV := Lib.hid (EV.out.new hn); clear hn)
        | (clear Tr1; refine wpList_ldE rfl (.tmp 33) rfl fb fo rfl (HX.out _ FR.out.new) ?_)
        | (clear Tr2; refine wpList_alX rfl 79 rfl _ Tryz.zeroValue79 [.int .i64 0, .int .i64 0, .int .i64 0, .int .i64 0, .int .i64 0, .int .i64 0] rfl ?_; intro w1 g9 hg9 hl9 H9 hn1; have I9 := Lib.hid H9; clear H9)
        | (clear Tr3; refine wpList_stX rfl rfl 79 (.tmp 9) (.tmp 34) rfl g9 0 rfl _ rfl I9.out (cells6 x) rfl (by simp [cells6]) (by simp [cells6, Value.oneCell']) (by rw [cells6_len]; exact infoI) (cs' := cells6 x) (by simp [cells6]) ?_; intro w2 H2 k2; have hn : New wr w2 := k2.below wr hg9 hn1; replace I9 : Hid (Has w2 g9 x) := Lib.hid H2; have l89 : g8 < g9 := Nat.lt_of_lt_of_le (HasC.lt FR.out.s) hg9; replace HS := Lib.hid (HS.out.new hn); replace FR := Lib.hid (FR.out.grow hn); replace EV := Lib.hid (EV.out.new hn); have c9 := HasK.an FR.out.cs; clear H2 k2 hn1 hn hg9 hl9)
        | (clear Tr4; refine wpList_ldS rfl (.tmp 8) rfl g8 rfl FR.out.s ?_)
        | (clear Tr5; refine wpList_alX rfl 38 rfl _ zeroS_run _ rfl ?_; intro w4 g10 hg10 hl10 H10 hn4; have B10 : Hid (HasS w4 g10 noWs nilS 0 0) := Lib.hid H10; have l910 : g9 < g10 := Nat.lt_of_lt_of_le d9 hg10; clear H10)
        | (clear Tr6; refine wpList_alX rfl 31 rfl _ zeroO_run _ rfl ?_; intro w5 g12 hg12 hl12 H12 hn5; have O12 : Hid (HasO w5 g12 0 0 nilS) := Lib.hid H12; have l1012 : g10 < g12 := Nat.lt_of_lt_of_le hl10 hg12; replace B10 : Hid (HasS w5 g10 noWs nilS 0 0) := Lib.hid (HasC.new B10.out hn5); clear H12)
        | (clear Tr7; refine wpList_stS rfl rfl (.tmp 10) (.tmp 41) rfl g10 rfl (l := l2) (s := s2) (p := p2) (q := q2) rfl B10.out ?_; intro w6 H6 k6; replace B10 : Hid (HasS w6 g10 l2 s2 p2 q2) := Lib.hid H6; replace O12 : Hid (HasO w6 g12 0 0 nilS) := Lib.hid (HasC.kept O12.out k6 (Nat.ne_of_gt l1012)); have hn6 : New w3 w6 := k6.below w3 hg10 (hn4.trans hn5); clear H6 k6)
        | (clear Tr8; refine wpList_stO rfl rfl (.tmp 12) (.tmp 43) rfl g12 rfl how val so rfl O12.out ?_; intro w7 H7 k7; have hn : New w3 w7 := k7.below w3 (Nat.le_trans hn4.size hg12) hn6; replace O12 : Hid (HasO w7 g12 how val so) := Lib.hid H7; replace B10 : Hid (HasS w7 g10 l2 s2 p2 q2) := Lib.hid (HasC.kept B10.out k7 (Nat.ne_of_lt l1012)); replace I9 := Lib.hid (I9.out.new hn); replace HE := Lib.hid (HE.out.new hn); replace RWS := Lib.hid (RWS.out.new hn); replace FR := Lib.hid (FR.out.grow hn); replace EV := Lib.hid (EV.out.new hn); have c7 := HasTr.ev FR.out.t; clear H7 k7 hn hn4 hn5 hn6 hg10 hl10 hg12 hl12)
        | (clear Tr9; at_builtin; refine wpList_appEv rfl (.tmp 46) (.tmp 47) rfl wb.heap.size (svS e) es rfl EV.out _ rfl es2 HE.out HEL.out FR.out.sz ?_; intro v2 w8 hE2 hgr hw2; obtain ⟨e2, e3⟩ : ∃ e2 : Sl, v2 = .slice e2.ao e2.n e2.c := (by obtain ⟨a1, a2, a3⟩ := hE2.form; exact ⟨⟨a1, _, a2⟩, a3⟩); subst e3; replace RWS : Hid (Rw w8 (Gs w.heap.size g4 g5 g7 g8 e2) s s2 so zs z2 oh) := Lib.hid (RWS.out.grown hgr hw2); replace I9 : Hid (Has w8 g9 x) := Lib.hid (HasC.grown (show HasC w7 g9 79 (cells6 x) from I9.out) EV.out (by decide) hgr); replace B10 : Hid (HasS w8 g10 l2 s2 p2 q2) := Lib.hid (HasC.grown B10.out EV.out (by decide) hgr); replace O12 : Hid (HasO w8 g12 how val so) := Lib.hid (HasC.grown O12.out EV.out (by decide) hgr); replace FR := Lib.hid (FR.out.grown EV.out hgr HWB0.out); replace EV : Hid (Evs w8 wb.heap.size (svS e2) (es ++ es2)) := Lib.hid hE2; clear hE2 hgr hw2 HE)
        | (clear Tr10; refine wpList_stTe rfl rfl (.tmp 49) (.tmp 48) rfl g7 rfl e2 rfl FR.out.t ?_; intro w9 H9 k9; have n79 : g9 ≠ g7 := Nat.ne_of_gt (Nat.lt_trans G.out.l78 l89); have n710 : g10 ≠ g7 := Nat.ne_of_gt (Nat.lt_trans (Nat.lt_trans G.out.l78 l89) l910); have n712 : g12 ≠ g7 := Nat.ne_of_gt (Nat.lt_trans (Nat.lt_trans (Nat.lt_trans G.out.l78 l89) l910) l1012); replace I9 : Hid (Has w9 g9 x) := Lib.hid ((k9.other _ n79).trans I9.out); replace B10 : Hid (HasS w9 g10 l2 s2 p2 q2) := Lib.hid (HasC.kept B10.out k9 n710); replace O12 : Hid (HasO w9 g12 how val so) := Lib.hid (HasC.kept O12.out k9 n712); replace RWS := Lib.hid (RWS.out.keep (Gs.k7 k9)); replace FR := Lib.hid (FR.out.turn7 G.out H9 k9); replace EV := Lib.hid (EV.out.kept k9 b7B); clear n79 n710 n712; clear H9 k9)
        | (clear Tr11; refine wpList_ldOm rfl (.tmp 12) rfl g12 rfl O12.out ?_)
        | (clear Tr12; refine wpList_stTo rfl rfl (.tmp 51) (.tmp 50) rfl g7 rfl how val so rfl FR.out.t ?_; intro w9 H9 k9; have n79 : g9 ≠ g7 := Nat.ne_of_gt (Nat.lt_trans G.out.l78 l89); have n710 : g10 ≠ g7 := Nat.ne_of_gt (Nat.lt_trans (Nat.lt_trans G.out.l78 l89) l910); have n712 : g12 ≠ g7 := Nat.ne_of_gt (Nat.lt_trans (Nat.lt_trans (Nat.lt_trans G.out.l78 l89) l910) l1012); replace I9 : Hid (Has w9 g9 x) := Lib.hid ((k9.other _ n79).trans I9.out); replace B10 : Hid (HasS w9 g10 l2 s2 p2 q2) := Lib.hid (HasC.kept B10.out k9 n710); replace O12 : Hid (HasO w9 g12 how val so) := Lib.hid (HasC.kept O12.out k9 n712); replace RWS := Lib.hid (RWS.out.keep (Gs.k7 k9)); replace FR := Lib.hid (FR.out.turn7 G.out H9 k9); replace EV := Lib.hid (EV.out.kept k9 b7B); clear n79 n710 n712; clear H9 k9)
        | (clear Tr13; refine wpList_ldTr rfl (.tmp 7) rfl g7 rfl FR.out.t ?_)
        | (clear Tr14; refine wpList_ldI rfl (.tmp 9) rfl g9 rfl I9.out ?_)
        | (clear Tr15; refine wpList_stTr rfl rfl (.tmp 7) (.tmp 54) rfl g7 rfl e2 how val so ((k : Int) + 1) wk2 rfl FR.out.t ?_; intro wv H9 k9; have n79 : g9 ≠ g7 := Nat.ne_of_gt (Nat.lt_trans G.out.l78 l89); have n710 : g10 ≠ g7 := Nat.ne_of_gt (Nat.lt_trans (Nat.lt_trans G.out.l78 l89) l910); have n712 : g12 ≠ g7 := Nat.ne_of_gt (Nat.lt_trans (Nat.lt_trans (Nat.lt_trans G.out.l78 l89) l910) l1012); replace I9 : Hid (Has wv g9 x) := Lib.hid ((k9.other _ n79).trans I9.out); replace B10 : Hid (HasS wv g10 l2 s2 p2 q2) := Lib.hid (HasC.kept B10.out k9 n710); replace O12 : Hid (HasO wv g12 how val so) := Lib.hid (HasC.kept O12.out k9 n712); replace RWS := Lib.hid (RWS.out.keep (Gs.k7 k9)); replace FR := Lib.hid (FR.out.turn7 G.out H9 k9); replace EV := Lib.hid (EV.out.kept k9 b7B); clear n79 n710 n712; have o12 := HasO.how O12.out; have c10 := HasK.fuel FR.out.cs; have c74 := HasTr.st FR.out.t; clear H9 k9))
      by_cases h0 : how = 0
      · have e0 : 0 = how := h0.symm
        subst e0
        have hgo : val = 0 ∧ oh = [] := by
          have := stp_go0 (f := f) (s := ⟨l, zs, p, q⟩) (az := az) (by rw [HRs.out])
          rwa [HRs.out] at this
        obtain ⟨ev0, eo0⟩ := hgo
        have ev0 : 0 = val := ev0.symm
        have eo0 : [] = oh := eo0.symm
        subst ev0 eo0
        cases hsb : stlB l l2 p q p2 q2 zs z2 with
        | true =>
          have HSB := Lib.hid hsb
          have hst := stl_iff.mp hsb
          obtain ⟨st3, HST3⟩ : ∃ st3, Hid ((k : Int) + 1 + ((n : Int) - ((k : Int) + 1)) = st3) := ⟨_, Lib.hid rfl⟩
          obtain ⟨wk3, HWK3⟩ : ∃ wk3, Hid (wk2 + ((n : Int) - ((k : Int) + 1)) * wk1 x = wk3) := ⟨_, Lib.hid rfl⟩
          have hsame : (⟨l2, z2, p2, q2⟩ : Mc) = ⟨l, zs, p, q⟩ := by
            have := stp_same (az := az) HM.out (by rw [HRs.out]; exact fun i hi => (hst.1.2.2 i hi).symm) (by rw [HRs.out]; exact (list_eqB hst.2).symm) (by rw [HRs.out]; exact hst.1.1.symm) (by rw [HRs.out]; exact hst.1.2.1.symm)
            rwa [HRs.out] at this
          have HRF : Hid ((⟨es ++ es2, 0, 0, [], st3, wk3⟩, ⟨l2, z2, p2, q2⟩) = R) := Lib.hid (run_stands hlt HNX.out HRs.out HXE.out rfl hsame HST3.out HWK3.out)
          clear hsb hst hsame
          have Tr1 : Hid True := Lib.hid trivial
          have Tr2 : Hid True := Lib.hid trivial
          go_wp2_with (first
            | (go_at_call 26; refine (still_is RWS.out.h1 RWS.out.h2 HZ16.out HSB.out).mono ?_; rintro r wt ⟨rfl, hn⟩; replace I9 := Lib.hid (I9.out.new hn); replace B10 : Hid (HasS wt g10 l2 s2 p2 q2) := Lib.hid (HasC.new B10.out hn); replace RWS := Lib.hid (RWS.out.new hn); replace FR := Lib.hid (FR.out.grow hn); replace EV := Lib.hid (EV.out.new hn); clear hn)
            | (clear Tr1; refine wpList_ldS rfl (.tmp 8) rfl g8 rfl FR.out.s ?_)
            | (clear Tr2; refine wpList_ldS rfl (.tmp 10) rfl g10 rfl B10.out ?_))
          have b1 := G.out.n3; have b2 := G.out.l34; have b3 := G.out.l45; have b4 := G.out.l57; have b5 := G.out.l78
          have D0 : Hid (New wt wt.drew) := Lib.hid ((New.refl wt).drew)
          have F0 := Lib.hid (FR.out.grow D0.out)
          replace EV := Lib.hid (EV.out.new D0.out)
          replace RWS := Lib.hid (RWS.out.new D0.out)
          have S0 : Hid (HasTr wt.drew g7 e2 0 0 so ((k : Int) + 1) wk2 ∧ HasS wt.drew g10 l2 s2 p2 q2 ∧ Has wt.drew g9 x ∧ HasK wt.drew g3 rs h a n) := Lib.hid ⟨F0.out.t, HasC.new B10.out D0.out, I9.out.new D0.out, F0.out.cs⟩
          refine wp_region_noPanic ?_
          refine wp_region_held_drew (S := fun w' => HasTr w' g7 e2 0 0 so ((k : Int) + 1) wk2 ∧ HasS w' g10 l2 s2 p2 q2 ∧ Has w' g9 x ∧ HasK w' g3 rs h a n) (by kernel_rfl) S0.out (fun _ => ?_)
          refine wpAnyH_take (i := 0) (v := .agg (trC e2 0 0 so ((k : Int) + 1) wk2).toArray) rfl (by kernel_rfl) (by kernel_rfl) (by kernel_rfl) (fun _ _ _ h => h) (ldTr_if rfl (.tmp 7) rfl g7 rfl (fun w' h => h.1)) S0.out ?_
          simp only [List.getElem_toArray, List.getElem_cons_zero, Act.put, List.setIfInBounds_toArray, List.set_cons_zero, List.set_cons_succ]
          refine wpAnyH_take (i := 1) (v := .agg #[.int .i64 (x).op, .int .i64 (x).d, .int .i64 (x).a, .int .i64 (x).b, .int .i64 (x).n, .int .i64 (x).t]) rfl (by kernel_rfl) (by kernel_rfl) (by kernel_rfl) (fun _ _ _ h => h) (ldI_if rfl (.tmp 9) rfl g9 rfl (fun w' h => h.2.2.1)) S0.out ?_
          simp only [List.getElem_toArray, List.getElem_cons_zero, List.getElem_cons_succ, Act.put, List.setIfInBounds_toArray, List.set_cons_zero, List.set_cons_succ]
          refine wpAnyH_take (i := 2) (v := .pointer (some ⟨g3, 10, none⟩)) rfl (by kernel_rfl) (by kernel_rfl) (by kernel_rfl) (fun _ _ _ h => h) (Or.inl ⟨rfl, fun _ _ => by go_simp⟩) S0.out ?_
          simp only [List.getElem_toArray, List.getElem_cons_zero, List.getElem_cons_succ, Act.put, List.setIfInBounds_toArray, List.set_cons_zero, List.set_cons_succ]
          refine wpAnyH_take (i := 3) (v := .int .i64 (n : Int)) rfl (by kernel_rfl) (by kernel_rfl) (by kernel_rfl) (fun _ _ _ h => h) (ldC_if rfl 3 Tryz.isAgg3 (.tmp 65) rfl ⟨g3, 10, none⟩ rfl (fun w' h => HasK.fuel h.2.2.2)) S0.out ?_
          simp only [List.getElem_toArray, List.getElem_cons_zero, List.getElem_cons_succ, Act.put, List.setIfInBounds_toArray, List.set_cons_zero, List.set_cons_succ]
          refine wpAnyH_take (i := 4) (v := .pointer (some ⟨g7, 4, none⟩)) rfl (by kernel_rfl) (by kernel_rfl) (by kernel_rfl) (fun _ _ _ h => h) (Or.inl ⟨rfl, fun _ _ => by go_simp⟩) S0.out ?_
          simp only [List.getElem_toArray, List.getElem_cons_zero, List.getElem_cons_succ, Act.put, List.setIfInBounds_toArray, List.set_cons_zero, List.set_cons_succ]
          refine wpAnyH_take (i := 5) (v := .int .i64 ((k : Int) + 1)) rfl (by kernel_rfl) (by kernel_rfl) (by kernel_rfl) (fun _ _ _ h => h) (ldC_if rfl 3 Tryz.isAgg3 (.tmp 67) rfl ⟨g7, 4, none⟩ rfl (fun w' h => HasTr.st h.1)) S0.out ?_
          simp only [List.getElem_toArray, List.getElem_cons_zero, List.getElem_cons_succ, Act.put, List.setIfInBounds_toArray, List.set_cons_zero, List.set_cons_succ]
          refine wpAnyH_take (i := 6) (v := .int .i64 ((n : Int) - ((k : Int) + 1))) rfl (by kernel_rfl) (by kernel_rfl) (by kernel_rfl) (fun _ _ _ h => h) (Or.inl ⟨rfl, fun _ _ => by go_simp; rw [IntKind.wrap_i64]; omega⟩) S0.out ?_
          simp only [List.getElem_toArray, List.getElem_cons_zero, List.getElem_cons_succ, Act.put, List.setIfInBounds_toArray, List.set_cons_zero, List.set_cons_succ]
          refine wpAnyH_take (i := 8) (v := .agg (cellsS l2 s2 p2 q2).toArray) rfl (by kernel_rfl) (by kernel_rfl) (by kernel_rfl) (fun _ _ _ h => h) (ldS_if rfl (.tmp 10) rfl g10 rfl (fun w' h => h.2.1)) S0.out ?_
          simp only [List.getElem_toArray, List.getElem_cons_zero, List.getElem_cons_succ, Act.put, List.setIfInBounds_toArray, List.set_cons_zero, List.set_cons_succ]
          refine wpAnyH_call (i := 7) rfl rfl (by kernel_rfl) 25 #[.agg (trC e2 0 0 so ((k : Int) + 1) wk2).toArray, .agg #[.int .i64 (x).op, .int .i64 (x).d, .int .i64 (x).a, .int .i64 (x).b, .int .i64 (x).n, .int .i64 (x).t], .int .i64 ((n : Int) - ((k : Int) + 1))] (by go_simp) ?_
          refine (counted_is (x := x) HST3.out HWK3.out (by omega) HWB2.out (by omega) _).mono ?_
          rintro r wc ⟨rfl, hnc⟩
          have S1 : Hid (HasTr wc g7 e2 0 0 so ((k : Int) + 1) wk2 ∧ HasS wc g10 l2 s2 p2 q2 ∧ Has wc g9 x ∧ HasK wc g3 rs h a n) := Lib.hid ⟨HasC.new S0.out.1 hnc, HasC.new S0.out.2.1 hnc, S0.out.2.2.1.new hnc, HasC.new S0.out.2.2.2 hnc⟩
          replace F0 := Lib.hid (F0.out.grow hnc)
          replace EV := Lib.hid (EV.out.new hnc)
          replace RWS := Lib.hid (RWS.out.new hnc)
          refine ⟨_, rfl, S1.out, ?_⟩
          simp only [List.getElem_toArray, List.getElem_cons_zero, List.getElem_cons_succ, Act.put, List.setIfInBounds_toArray, List.set_cons_zero, List.set_cons_succ]
          refine wpAnyH_forced [9, 10, 11] _ _ _ S1.out (by kernel_rfl) (by simp) ?_
          simp only [List.map_cons, List.map_nil, Array.getD_eq_getD_getElem?, List.getElem?_toArray, List.getElem?_cons_succ, List.getElem?_cons_zero, Option.getD_some]
          refine wpLS_stX rfl rfl _ (.tmp 4) (.tmp 70) rfl g4 rfl _ rfl F0.out.rt (trC e2 (0) (0) so (st3) (wk3)) rfl (by simp [trC]) (by simp [trC, Value.oneCell']) infoTr ?_
          intro w4 H4 k4
          have S2 : Hid (HasTr w4 g7 e2 0 0 so ((k : Int) + 1) wk2 ∧ HasS w4 g10 l2 s2 p2 q2 ∧ Has w4 g9 x ∧ HasK w4 g3 rs h a n) := Lib.hid ⟨HasC.kept S1.out.1 k4 (by omega), HasC.kept S1.out.2.1 k4 (by omega), (k4.other _ (by omega)).trans S1.out.2.2.1, HasC.kept S1.out.2.2.2 k4 (by omega)⟩
          refine ⟨S2.out, ?_⟩
          refine wpLS_stX rfl rfl _ (.tmp 5) (.tmp 71) rfl g5 rfl _ rfl (HasC.kept F0.out.rz k4 (by omega)) (cellsS l2 s2 (p2) (q2)) rfl (by rw [cellsS_len, cellsS_len]) (cellsS_one _ _ _ _) (by rw [cellsS_len]; exact infoSt) ?_
          intro w5 H5 k5
          have S3 : Hid (HasTr w5 g7 e2 0 0 so ((k : Int) + 1) wk2 ∧ HasS w5 g10 l2 s2 p2 q2 ∧ Has w5 g9 x ∧ HasK w5 g3 rs h a n) := Lib.hid ⟨HasC.kept S2.out.1 k5 (by omega), HasC.kept S2.out.2.1 k5 (by omega), (k5.other _ (by omega)).trans S2.out.2.2.1, HasC.kept S2.out.2.2.2 k5 (by omega)⟩
          refine ⟨S3.out, ?_⟩
          refine wpLS_value rfl (.int .i64 0) S3.out (by go_simp) ?_
          simp only [Act.put, List.setIfInBounds_toArray, List.set_cons_zero, List.set_cons_succ]
          refine wpLS_nil ?_
          refine NoPanic.normal ?_
          go_wp2
          have NW : New w w5 := k5.below _ (by omega) (k4.below _ (by omega) F0.out.new)
          have RW := ((RWS.out.keep (Gs.k4 k4)).keep (Gs.k5 k5))
          have EVE := (EV.out.kept k4 (by omega)).kept k5 (by omega)
          exact bodyPost_ret (results_cct (p := 4) (v := 5) (u := 6) rfl _ _ g4 g5 _ _ _ rfl (loadVar_C (HasC.kept H4 k5 (by omega)) Tryz.underlying33 rfl infoTr) rfl (loadVar_C H5 Tryz.underlying38 rfl (by rw [cellsS_len]; exact infoSt)) rfl) rfl (Rd.of HRF.out EVE.at RW.h3 RW.h2 NW (EVE.fresh.mono HWB0.out) RW.a3.fresh RW.a2.fresh EVE.cap)
        | false =>
          have HSB := Lib.hid hsb
          clear hsb
          have Tr1 : Hid True := Lib.hid trivial
          have Tr2 : Hid True := Lib.hid trivial
          have Tr3 : Hid True := Lib.hid trivial
          have Tr4 : Hid True := Lib.hid trivial
          go_wp2_with (first
            | (go_at_call 26; refine (still_is RWS.out.h1 RWS.out.h2 HZ16.out HSB.out).mono ?_; rintro r wt ⟨rfl, hn⟩; replace I9 := Lib.hid (I9.out.new hn); replace B10 : Hid (HasS wt g10 l2 s2 p2 q2) := Lib.hid (HasC.new B10.out hn); replace RWS := Lib.hid (RWS.out.new hn); replace FR := Lib.hid (FR.out.grow hn); replace EV := Lib.hid (EV.out.new hn); clear hn)
            | (clear Tr1; refine wpList_ldS rfl (.tmp 8) rfl g8 rfl FR.out.s ?_)
            | (clear Tr2; refine wpList_ldS rfl (.tmp 10) rfl g10 rfl B10.out ?_)
            | (clear Tr3; refine wpList_ldS rfl (.tmp 10) rfl g10 rfl B10.out ?_)
            | (clear Tr4; refine wpList_stS rfl rfl (.tmp 8) (.tmp 72) rfl g8 rfl (l := l2) (s := s2) (p := p2) (q := q2) rfl FR.out.s ?_; intro wu H8 k8; replace RWS := Lib.hid (RWS.out.keep (Gs.k8 k8)); replace FR := Lib.hid (FR.out.turn8 G.out H8 k8); replace EV := Lib.hid (EV.out.kept k8 b8B); clear H8 k8))
          go_roundw
          case rel => exact ⟨k + 1, e2, so, s2, l2, z2, p2, q2, wk2, es ++ es2, by go_num, hlt, Lib.hid ⟨by rw [show ((k + 1 : Nat) : Int) = (k : Int) + 1 by omega]; exact FR.out, EV.out, RWS.out.h2, RWS.out.a2, RWS.out.h3, HMK.out, by rw [show ((k + 1 : Nat) : Int) = (k : Int) + 1 by omega]; exact HNX.out, HWL.out.1, by have := HWL.out.2; omega, HEK.out⟩⟩
          case measure => simp [intOf]; omega
      · have q0 : (how != 0) = true := by simpa using h0
        have HRF : Hid ((⟨es ++ es2, how, val, oh, (k : Int) + 1, wk2⟩, ⟨l2, z2, p2, q2⟩) = R) := Lib.hid (by
          have := HNX.out
          rw [onR_ended h0] at this
          exact this)
        clear h0
        go_wp2_with fail
        have b1 := G.out.n3; have b2 := G.out.l34; have b3 := G.out.l45; have b4 := G.out.l57; have b5 := G.out.l78
        have D0 : Hid (New wv wv.drew) := Lib.hid ((New.refl wv).drew)
        have F0 := Lib.hid (FR.out.grow D0.out)
        replace EV := Lib.hid (EV.out.new D0.out)
        replace RWS := Lib.hid (RWS.out.new D0.out)
        have S0 : Hid (HasTr wv.drew g7 e2 (how) (val) so ((k : Int) + 1) (wk2) ∧ HasS wv.drew g10 l2 s2 (p2) (q2)) := Lib.hid ⟨F0.out.t, HasC.new B10.out D0.out⟩
        refine wp_region_noPanic ?_
        refine wp_region_held_drew (S := fun w' => HasTr w' g7 e2 (how) (val) so ((k : Int) + 1) (wk2) ∧ HasS w' g10 l2 s2 (p2) (q2)) (by kernel_rfl) S0.out (fun _ => ?_)
        refine wpAnyH_take (i := 0) (v := .agg (trC e2 (how) (val) so ((k : Int) + 1) (wk2)).toArray) rfl (by kernel_rfl) (by kernel_rfl) (by kernel_rfl) (fun _ _ _ h => h) (ldTr_if rfl (.tmp 7) rfl g7 rfl (fun w' h => h.1)) S0.out ?_
        simp only [List.getElem_toArray, List.getElem_cons_zero, Act.put, List.setIfInBounds_toArray, List.set_cons_zero, List.set_cons_succ]
        refine wpAnyH_take (i := 1) (v := .agg (cellsS l2 s2 p2 q2).toArray) rfl (by kernel_rfl) (by kernel_rfl) (by kernel_rfl) (fun _ _ _ h => h) (ldS_if rfl (.tmp 10) rfl g10 rfl (fun w' h => h.2)) S0.out ?_
        simp only [List.getElem_toArray, List.getElem_cons_zero, List.getElem_cons_succ, Act.put, List.setIfInBounds_toArray, List.set_cons_zero, List.set_cons_succ]
        have S1 := S0
        refine wpAnyH_forced [2, 3, 4] _ _ _ S1.out (by kernel_rfl) (by simp) ?_
        simp only [List.map_cons, List.map_nil, Array.getD_eq_getD_getElem?, List.getElem?_toArray, List.getElem?_cons_succ, List.getElem?_cons_zero, Option.getD_some]
        refine wpLS_stX rfl rfl _ (.tmp 4) (.tmp 58) rfl g4 rfl _ rfl F0.out.rt (trC e2 (how) (val) so ((k : Int) + 1) (wk2)) rfl (by simp [trC]) (by simp [trC, Value.oneCell']) infoTr ?_
        intro w4 H4 k4
        have S2 : Hid (HasTr w4 g7 e2 (how) (val) so ((k : Int) + 1) (wk2) ∧ HasS w4 g10 l2 s2 (p2) (q2)) := Lib.hid ⟨HasC.kept S1.out.1 k4 (by omega), HasC.kept S1.out.2 k4 (by omega)⟩
        refine ⟨S2.out, ?_⟩
        refine wpLS_stX rfl rfl _ (.tmp 5) (.tmp 59) rfl g5 rfl _ rfl (HasC.kept F0.out.rz k4 (by omega)) (cellsS l2 s2 (p2) (q2)) rfl (by rw [cellsS_len, cellsS_len]) (cellsS_one _ _ _ _) (by rw [cellsS_len]; exact infoSt) ?_
        intro w5 H5 k5
        have S3 : Hid (HasTr w5 g7 e2 (how) (val) so ((k : Int) + 1) (wk2) ∧ HasS w5 g10 l2 s2 (p2) (q2)) := Lib.hid ⟨HasC.kept S2.out.1 k5 (by omega), HasC.kept S2.out.2 k5 (by omega)⟩
        refine ⟨S3.out, ?_⟩
        refine wpLS_value rfl (.int .i64 0) S3.out (by go_simp) ?_
        simp only [Act.put, List.setIfInBounds_toArray, List.set_cons_zero, List.set_cons_succ]
        refine wpLS_nil ?_
        refine NoPanic.normal ?_
        go_wp2
        have NW : New w w5 := k5.below _ (by omega) (k4.below _ (by omega) F0.out.new)
        have RW := ((RWS.out.keep (Gs.k4 k4)).keep (Gs.k5 k5))
        have EVE := (EV.out.kept k4 (by omega)).kept k5 (by omega)
        exact bodyPost_ret (results_cct (p := 4) (v := 5) (u := 6) rfl _ _ g4 g5 _ _ _ rfl (loadVar_C (HasC.kept H4 k5 (by omega)) Tryz.underlying33 rfl infoTr) rfl (loadVar_C H5 Tryz.underlying38 rfl (by rw [cellsS_len]; exact infoSt)) rfl) rfl (Rd.of HRF.out EVE.at RW.h3 RW.h2 NW (EVE.fresh.mono HWB0.out) RW.a3.fresh RW.a2.fresh EVE.cap)
    · obtain rfl : k = n := by omega
      have HRF : Hid ((⟨es, 0, 0, [], (k : Int), wk⟩, ⟨l, zs, p, q⟩) = R) := Lib.hid (by
        have := HON.out
        rw [Nat.sub_self] at this
        exact this)
      have RWS : Hid (Rw wr (Gs w.heap.size g4 g5 g7 g8 e) s s o zs zs []) := Lib.hid ⟨HS.out, AP.out, HS.out, AP.out, LP.out.ho, .inl rfl⟩
      go_wp2_with fail
      have b1 := G.out.n3; have b2 := G.out.l34; have b3 := G.out.l45; have b4 := G.out.l57; have b5 := G.out.l78
      have D0 : Hid (New wr wr.drew) := Lib.hid ((New.refl wr).drew)
      have F0 := Lib.hid (FR.out.grow D0.out)
      replace EV := Lib.hid (EV.out.new D0.out)
      replace RWS := Lib.hid (RWS.out.new D0.out)
      have S0 : Hid (HasTr wr.drew g7 e (0) (0) o ((k : Int)) (wk) ∧ HasS wr.drew g8 l s (p) (q)) := Lib.hid ⟨F0.out.t, F0.out.s⟩
      refine wp_region_noPanic ?_
      refine wp_region_held_drew (S := fun w' => HasTr w' g7 e (0) (0) o ((k : Int)) (wk) ∧ HasS w' g8 l s (p) (q)) (by kernel_rfl) S0.out (fun _ => ?_)
      refine wpAnyH_take (i := 0) (v := .agg (trC e (0) (0) o ((k : Int)) (wk)).toArray) rfl (by kernel_rfl) (by kernel_rfl) (by kernel_rfl) (fun _ _ _ h => h) (ldTr_if rfl (.tmp 7) rfl g7 rfl (fun w' h => h.1)) S0.out ?_
      simp only [List.getElem_toArray, List.getElem_cons_zero, Act.put, List.setIfInBounds_toArray, List.set_cons_zero, List.set_cons_succ]
      refine wpAnyH_take (i := 1) (v := .agg (cellsS l s p q).toArray) rfl (by kernel_rfl) (by kernel_rfl) (by kernel_rfl) (fun _ _ _ h => h) (ldS_if rfl (.tmp 8) rfl g8 rfl (fun w' h => h.2)) S0.out ?_
      simp only [List.getElem_toArray, List.getElem_cons_zero, List.getElem_cons_succ, Act.put, List.setIfInBounds_toArray, List.set_cons_zero, List.set_cons_succ]
      have S1 := S0
      refine wpAnyH_forced [2, 3, 4] _ _ _ S1.out (by kernel_rfl) (by simp) ?_
      simp only [List.map_cons, List.map_nil, Array.getD_eq_getD_getElem?, List.getElem?_toArray, List.getElem?_cons_succ, List.getElem?_cons_zero, Option.getD_some]
      refine wpLS_stX rfl rfl _ (.tmp 4) (.tmp 74) rfl g4 rfl _ rfl F0.out.rt (trC e (0) (0) o ((k : Int)) (wk)) rfl (by simp [trC]) (by simp [trC, Value.oneCell']) infoTr ?_
      intro w4 H4 k4
      have S2 : Hid (HasTr w4 g7 e (0) (0) o ((k : Int)) (wk) ∧ HasS w4 g8 l s (p) (q)) := Lib.hid ⟨HasC.kept S1.out.1 k4 (by omega), HasC.kept S1.out.2 k4 (by omega)⟩
      refine ⟨S2.out, ?_⟩
      refine wpLS_stX rfl rfl _ (.tmp 5) (.tmp 75) rfl g5 rfl _ rfl (HasC.kept F0.out.rz k4 (by omega)) (cellsS l s (p) (q)) rfl (by rw [cellsS_len, cellsS_len]) (cellsS_one _ _ _ _) (by rw [cellsS_len]; exact infoSt) ?_
      intro w5 H5 k5
      have S3 : Hid (HasTr w5 g7 e (0) (0) o ((k : Int)) (wk) ∧ HasS w5 g8 l s (p) (q)) := Lib.hid ⟨HasC.kept S2.out.1 k5 (by omega), HasC.kept S2.out.2 k5 (by omega)⟩
      refine ⟨S3.out, ?_⟩
      refine wpLS_value rfl (.int .i64 0) S3.out (by go_simp) ?_
      simp only [Act.put, List.setIfInBounds_toArray, List.set_cons_zero, List.set_cons_succ]
      refine wpLS_nil ?_
      refine NoPanic.normal ?_
      go_wp2
      have NW : New w w5 := k5.below _ (by omega) (k4.below _ (by omega) F0.out.new)
      have RW := ((RWS.out.keep (Gs.k4 k4)).keep (Gs.k5 k5))
      have EVE := (EV.out.kept k4 (by omega)).kept k5 (by omega)
      exact bodyPost_ret (results_cct (p := 4) (v := 5) (u := 6) rfl _ _ g4 g5 _ _ _ rfl (loadVar_C (HasC.kept H4 k5 (by omega)) Tryz.underlying33 rfl infoTr) rfl (loadVar_C H5 Tryz.underlying38 rfl (by rw [cellsS_len]; exact infoSt)) rfl) rfl (Rd.of HRF.out EVE.at RW.h3 RW.h2 NW (EVE.fresh.mono HWB0.out) RW.a3.fresh RW.a2.fresh EVE.cap)
end Go.Proofs.YtlmnodbhfpgplaaGreatDoor
