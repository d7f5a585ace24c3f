/-
  'StepDoes': what a step makes of a state, its event, and its outcome, is what the document says, or the error is told: true, for every input.
-/
import Derived.Test.YtfllkagbphgjlaaGreatDoorStepH
import Derived.Test.YtfllkagbphgjlaaGreatDoorStepR
namespace Go.Proofs.YtfllkagbphgjlaaGreatDoor
open Go.RowKit

set_option maxHeartbeats 16000000 in
set_option maxRecDepth 100000 in
theorem stepDoes_walk (v : Value) (f : List I) (l : Ws) (s : Sl) (p q : Int) (zs : List Int) (va : Value) (az : List Int) (w : World) (hf : FunAt w v f) (hp : Hp w (.slice s.ao s.n s.c) zs) (ha : Hp w va az) (hl : Laid w) :
    Calls Tryz.prog 3 #[v, .agg (cellsS l s p q).toArray, va] w fun e w' => e = .returned (.bool true) ∧ New w w' := by
  obtain ⟨ao, fc, rfl⟩ := hf.form
  obtain ⟨bo, bc, rfl⟩ := ha.form
  have HL := Lib.hid hl
  have HF := Lib.hid hf
  have HP := Lib.hid hp
  have HA := Lib.hid ha
  have TX : Hid True := Lib.hid trivial
  have TO : Hid True := Lib.hid trivial
  clear hl hf hp ha
  cases hg : greatB f.length zs.length az.length with
  | true =>
    have HG := Lib.hid hg
    go_enter Tryz.func3, Tryz.ntmps3
    go_wp2_with (first
      | (go_at_call 11; refine (great_is HN.out (HF.out.new HN.out) (HP.out.new HN.out) (HA.out.new HN.out) HG.out).mono ?_; rintro e wx ⟨rfl, hn⟩; replace HS : Hid (HasS wx gs l s p q) := Lib.hid (HasC.new HS.out hn); replace HN := Lib.hid (HN.out.trans hn); clear hn)
      | (go_at_call 12; refine (knows_from _ HL.out HN.out).mono ?_; rintro e wk ⟨rfl, hnk⟩)
      | ((with_reducible refine wpList_is ?_); refine wpList_boxX rfl 28 (.tmp 1) rfl (cellsS l s p q) rfl ?_; intro wx gs hgs hls H1 hn1; have HS : Hid (HasS wx gs l s p q) := Lib.hid H1; have HN := Lib.hid hn1; clear H1 hn1 hls)
      | ((with_reducible refine wpList_is ?_); refine wpList_ldSG (by rfl) (.tmp 4) rfl gs rfl HS.out ?_))
    go_ret
    exact ⟨rfl, hnk⟩
  | false =>
    have HG := Lib.hid hg
    have hng := not_great hg
    have hal : az.length ≤ 100000 := by omega
    clear hg hng
    cases hm : mcB f ⟨l, zs, p, q⟩ with
    | false =>
      have HM := Lib.hid hm
      clear hm
      have TA1 : Hid True := Lib.hid trivial
      have TA2 : Hid True := Lib.hid trivial
      have TA3 : Hid True := Lib.hid trivial
      go_enter Tryz.func3, Tryz.ntmps3
      go_wp2_with (first
        | (go_at_call 11; refine (great_is HN.out (HF.out.new HN.out) (HP.out.new HN.out) (HA.out.new HN.out) HG.out).mono ?_; rintro e wx ⟨rfl, hn⟩; replace HS : Hid (HasS wx gs l s p q) := Lib.hid (HasC.new HS.out hn); replace HN := Lib.hid (HN.out.trans hn); clear hn)
        | (go_at_call 13; refine (stepDo_bad _ f ⟨l, zs, p, q⟩ s az _ _ (HL.out.new HN.out) (HF.out.new HN.out) (HP.out.new HN.out) (HA.out.new HN.out) HM.out).mono ?_; rintro e wx ⟨rfl, hn⟩; replace HS : Hid (HasS wx gs l s p q) := Lib.hid (HasC.new HS.out hn); replace HN := Lib.hid (HN.out.trans hn); clear hn)
        | (clear TA1; go_at_call 15; refine (as_any l s p q _).mono ?_; rintro e wx ⟨as1, rfl, ha, hn⟩; have HAs := Lib.hid ha; clear ha; have hn0 := hn; replace HS : Hid (HasS wx gs l s p q) := Lib.hid (HasC.new HS.out hn); replace HN := Lib.hid (HN.out.trans hn); clear hn; replace HX : Hid (HasS wx gx noWs nilS 0 0) := Lib.hid (HasC.new HX.out hn0); replace HO : Hid (HasO wx go 0 0 nilS) := Lib.hid (HasC.new HO.out hn0); clear hn0)
        | (go_at_call 14; refine (refRight_any _ f ⟨l, zs, p, q⟩ as1 s _ (HF.out.new HN.out) (HP.out.new HN.out) HAs.out).mono ?_; rw [HM.out]; rintro e wx ⟨rfl, hn⟩; clear HAs; have hn0 := hn; replace HS : Hid (HasS wx gs l s p q) := Lib.hid (HasC.new HS.out hn); replace HN := Lib.hid (HN.out.trans hn); clear hn; replace HX : Hid (HasS wx gx noWs nilS 0 0) := Lib.hid (HasC.new HX.out hn0); replace HO : Hid (HasO wx go 0 0 nilS) := Lib.hid (HasC.new HO.out hn0); clear hn0; have cp := HasS.at HS.out)
        | (go_at_call 16; refine (stepRight_any _ f ⟨l, zs, p, q⟩ s _ (HL.out.new HN.out) (HF.out.new HN.out) (HP.out.new HN.out)).mono ?_; rw [HM.out]; rintro e wx ⟨rfl, hn⟩; have hn0 := hn; replace HS : Hid (HasS wx gs l s p q) := Lib.hid (HasC.new HS.out hn); replace HN := Lib.hid (HN.out.trans hn); clear hn; replace HX : Hid (HasS wx gx noWs nilS 0 0) := Lib.hid (HasC.new HX.out hn0); replace HO : Hid (HasO wx go 0 0 nilS) := Lib.hid (HasC.new HO.out hn0); clear hn0)
        | (clear TA2; go_at_call 15; refine (as_any noWs nilS 0 0 _).mono ?_; rintro e wx ⟨as2, rfl, ha, hn⟩; have HA2 := Lib.hid ha; clear ha; have hn0 := hn; replace HS : Hid (HasS wx gs l s p q) := Lib.hid (HasC.new HS.out hn); replace HN := Lib.hid (HN.out.trans hn); clear hn; replace HX : Hid (HasS wx gx noWs nilS 0 0) := Lib.hid (HasC.new HX.out hn0); replace HO : Hid (HasO wx go 0 0 nilS) := Lib.hid (HasC.new HO.out hn0); clear hn0)
        | (clear TA3; go_at_call 15; refine (as_any noWs nilS 0 0 _).mono ?_; rintro e wx ⟨as3, rfl, ha, hn⟩; have HA3 := Lib.hid ha; replace HA2 := Lib.hid (HA2.out.new hn); clear ha; have hn0 := hn; replace HS : Hid (HasS wx gs l s p q) := Lib.hid (HasC.new HS.out hn); replace HN := Lib.hid (HN.out.trans hn); clear hn; replace HX : Hid (HasS wx gx noWs nilS 0 0) := Lib.hid (HasC.new HX.out hn0); replace HO : Hid (HasO wx go 0 0 nilS) := Lib.hid (HasC.new HO.out hn0); clear hn0)
        | (go_at_call 17; refine (refSame_any noWs noWs (fun _ _ => rfl) [] 0 0 as2 nilS as3 nilS _ HA2.out HA3.out (Hp.nil _) (Hp.nil _) (by simp)).mono ?_; rintro e wx ⟨rfl, hn⟩; have hn0 := hn; replace HS : Hid (HasS wx gs l s p q) := Lib.hid (HasC.new HS.out hn); replace HN := Lib.hid (HN.out.trans hn); clear hn; replace HX : Hid (HasS wx gx noWs nilS 0 0) := Lib.hid (HasC.new HX.out hn0); replace HO : Hid (HasO wx go 0 0 nilS) := Lib.hid (HasC.new HO.out hn0); clear hn0)
        | (go_at_call 18; refine (refOutcome_any 0 0 [] nilS nilS _ (Hp.nil _) (Hp.nil _) (by simp)).mono ?_; rintro e wx ⟨rfl, hn⟩; have hn0 := hn; replace HS : Hid (HasS wx gs l s p q) := Lib.hid (HasC.new HS.out hn); replace HN := Lib.hid (HN.out.trans hn); clear hn; replace HX : Hid (HasS wx gx noWs nilS 0 0) := Lib.hid (HasC.new HX.out hn0); replace HO : Hid (HasO wx go 0 0 nilS) := Lib.hid (HasC.new HO.out hn0); clear hn0)
        | (go_at_call 12; refine (knows_from _ HL.out HN.out).mono ?_; rintro e wk ⟨rfl, hnk⟩)
        | ((with_reducible refine wpList_is ?_); refine wpList_boxX rfl 28 (.tmp 1) rfl (cellsS l s p q) rfl ?_; intro wx gs hgs hls H1 hn1; have HS : Hid (HasS wx gs l s p q) := Lib.hid H1; have HN := Lib.hid hn1; clear H1 hn1 hls)
        | ((with_reducible refine wpList_is ?_); refine wpList_ldSG (by rfl) (.tmp 4) rfl gs rfl HS.out ?_)
        | (clear TX; (with_reducible refine wpList_is ?_); refine wpList_alX rfl 28 rfl _ zeroS_run _ rfl ?_; intro wy gx hgx hlx H1 hn1; have HX : Hid (HasS wy gx noWs nilS 0 0) := Lib.hid H1; have dsx : gs ≠ gx := Nat.ne_of_lt (Nat.lt_of_lt_of_le (HasC.lt HS.out) hgx); clear H1 hlx)
        | (clear TO; (with_reducible refine wpList_is ?_); refine wpList_alX rfl 33 rfl _ zeroO_run _ rfl ?_; intro wz go hgo hlo H1 hn2; have HO : Hid (HasO wz go 0 0 nilS) := Lib.hid H1; have dxo : gx ≠ go := Nat.ne_of_lt (Nat.lt_of_lt_of_le (HasC.lt HX.out) hgo); replace HX : Hid (HasS wz gx noWs nilS 0 0) := Lib.hid (HasC.new HX.out hn2); clear H1 hlo)
        | ((with_reducible refine wpList_is ?_); refine wpList_stS rfl rfl (.tmp 7) (.tmp 25) rfl gx rfl (l := noWs) (s := nilS) (p := 0) (q := 0) rfl HX.out ?_; intro wu H1 k1; replace HX : Hid (HasS wu gx noWs nilS 0 0) := Lib.hid H1; replace HO : Hid (HasO wu go 0 0 nilS) := Lib.hid (HasC.kept HO.out k1 (Ne.symm dxo)); have hn3 : New wx wu := k1.below wx hgx (hn1.trans hn2); clear H1 k1)
        | ((with_reducible refine wpList_is ?_); refine wpList_stO rfl rfl (.tmp 9) (.tmp 27) rfl go rfl (0) (0) nilS rfl HO.out ?_; intro wv H1 k1; have hn : New wx wv := k1.below wx (Nat.le_trans hn1.size hgo) hn3; replace HO : Hid (HasO wv go (0) (0) nilS) := Lib.hid H1; replace HX : Hid (HasS wv gx noWs nilS 0 0) := Lib.hid (HasC.kept HX.out k1 dxo);  clear H1 k1 hn1 hn2 hn3 hgx hgo; replace HS : Hid (HasS wv gs l s p q) := Lib.hid (HasC.new HS.out hn); replace HN := Lib.hid (HN.out.trans hn); clear hn; have x1 := HasS.hp HX.out; have x2 := HasS.at HX.out; have x3 := HasS.ask HX.out; have s1 := HasS.hp HS.out; have s3 := HasS.ask HS.out; have o1 := HasO.how HO.out; have o2 := HasO.val HO.out; have o3 := HasO.hp HO.out)
        | ((with_reducible refine wpList_is ?_); refine wpList_ldSG (by rfl) (.tmp 7) rfl gx rfl HX.out ?_)
        | ((with_reducible refine wpList_is ?_); refine wpList_ldOq (by rfl) (.tmp 9) rfl go rfl HO.out ?_))
      go_ret
      exact ⟨rfl, hnk⟩
    | true =>
      have HM := Lib.hid hm
      obtain ⟨⟨⟨l2, z2, p2, q2⟩, es, how, val, oh⟩, HR⟩ : ∃ r, Hid (stp f ⟨l, zs, p, q⟩ az = r) := ⟨_, Lib.hid rfl⟩
      have hoh := stp_oh (az := az) hm
      have hev := stp_ev (f := f) (s := ⟨l, zs, p, q⟩) (az := az)
      rw [HR.out] at hoh hev
      have HZ : Hid (z2.length ≤ 1000) := Lib.hid (by have h : z2.length ≤ 16 := hoh.2; omega)
      have HOZ : Hid (oh.length ≤ 1000) := Lib.hid (by have h : oh.length ≤ 16 := hoh.1; omega)
      have HEZ : Hid (es.length ≤ 100000) := Lib.hid (by have h : es.length ≤ 1 := hev; omega)
      clear hm hoh hev
      go_enter Tryz.func3, Tryz.ntmps3
      go_wp2_with (first
        | (go_at_call 11; refine (great_is HN.out (HF.out.new HN.out) (HP.out.new HN.out) (HA.out.new HN.out) HG.out).mono ?_; rintro e wx ⟨rfl, hn⟩; replace HS : Hid (HasS wx gs l s p q) := Lib.hid (HasC.new HS.out hn); replace HN := Lib.hid (HN.out.trans hn); clear hn)
        | (go_at_call 13; refine (stepDo_is HL.out HN.out (HF.out.new HN.out) (HP.out.new HN.out) (HA.out.new HN.out) hal HM.out HR.out).mono ?_; rintro e wx ⟨s2, ve, so, rfl, h1, h2, h3, hn⟩; obtain ⟨eo, ec, e1⟩ := h2.form; subst e1; have HH2 := Lib.hid h1; have HE2 := Lib.hid h2; have HO2 := Lib.hid h3; clear h1 h2 h3; replace HS : Hid (HasS wx gs l s p q) := Lib.hid (HasC.new HS.out hn); replace HN := Lib.hid (HN.out.trans hn); clear hn)
        | (go_at_call 15; refine (as_any l s p q _).mono ?_; rintro e wx ⟨as1, rfl, ha, hn⟩; have HAs := Lib.hid ha; clear ha; have hn0 := hn; replace HS : Hid (HasS wx gs l s p q) := Lib.hid (HasC.new HS.out hn); replace HN := Lib.hid (HN.out.trans hn); clear hn; replace HX : Hid (HasS wx gx l2 s2 p2 q2) := Lib.hid (HasC.new HX.out hn0); replace HO : Hid (HasO wx go how val so) := Lib.hid (HasC.new HO.out hn0); replace HH2 := Lib.hid (HH2.out.new hn0); replace HE2 := Lib.hid (HE2.out.new hn0); replace HO2 := Lib.hid (HO2.out.new hn0); clear hn0)
        | (go_at_call 14; refine (refRight_any _ f ⟨l, zs, p, q⟩ as1 s _ (HF.out.new HN.out) (HP.out.new HN.out) HAs.out).mono ?_; rw [HM.out]; rintro e wx ⟨rfl, hn⟩; clear HAs; have hn0 := hn; replace HS : Hid (HasS wx gs l s p q) := Lib.hid (HasC.new HS.out hn); replace HN := Lib.hid (HN.out.trans hn); clear hn; replace HX : Hid (HasS wx gx l2 s2 p2 q2) := Lib.hid (HasC.new HX.out hn0); replace HO : Hid (HasO wx go how val so) := Lib.hid (HasC.new HO.out hn0); replace HH2 := Lib.hid (HH2.out.new hn0); replace HE2 := Lib.hid (HE2.out.new hn0); replace HO2 := Lib.hid (HO2.out.new hn0); clear hn0; have cp := HasS.at HS.out)
        | (go_at_call 16; refine (stepRight_any _ f ⟨l, zs, p, q⟩ s _ (HL.out.new HN.out) (HF.out.new HN.out) (HP.out.new HN.out)).mono ?_; rw [HM.out]; rintro e wx ⟨rfl, hn⟩; have hn0 := hn; replace HS : Hid (HasS wx gs l s p q) := Lib.hid (HasC.new HS.out hn); replace HN := Lib.hid (HN.out.trans hn); clear hn; replace HX : Hid (HasS wx gx l2 s2 p2 q2) := Lib.hid (HasC.new HX.out hn0); replace HO : Hid (HasO wx go how val so) := Lib.hid (HasC.new HO.out hn0); replace HH2 := Lib.hid (HH2.out.new hn0); replace HE2 := Lib.hid (HE2.out.new hn0); replace HO2 := Lib.hid (HO2.out.new hn0); clear hn0)
        | (go_at_call 19; refine (refDo_is (HF.out.new HN.out) HAs.out (HP.out.new HN.out) (HA.out.new HN.out) hal HM.out HR.out).mono ?_; rintro e wx ⟨a3, s3, ve3, so3, rfl, h0, h1, h2, h3, hn, _⟩; obtain ⟨eo3, ec3, e1⟩ := h2.form; subst e1; have HW3 := Lib.hid h0; have HH3 := Lib.hid h1; have HE3 := Lib.hid h2; have HO3 := Lib.hid h3; clear h0 h1 h2 h3 HAs; have hn0 := hn; replace HS : Hid (HasS wx gs l s p q) := Lib.hid (HasC.new HS.out hn); replace HN := Lib.hid (HN.out.trans hn); clear hn; replace HX : Hid (HasS wx gx l2 s2 p2 q2) := Lib.hid (HasC.new HX.out hn0); replace HO : Hid (HasO wx go how val so) := Lib.hid (HasC.new HO.out hn0); replace HH2 := Lib.hid (HH2.out.new hn0); replace HE2 := Lib.hid (HE2.out.new hn0); replace HO2 := Lib.hid (HO2.out.new hn0); clear hn0; have HV := Lib.hid (New.refl wx))
        | ((with_reducible refine wpList_is ?_); refine wpList_boxX rfl 28 (.tmp 1) rfl (cellsS l s p q) rfl ?_; intro wx gs hgs hls H1 hn1; have HS : Hid (HasS wx gs l s p q) := Lib.hid H1; have HN := Lib.hid hn1; clear H1 hn1 hls)
        | ((with_reducible refine wpList_is ?_); refine wpList_ldSG (by rfl) (.tmp 4) rfl gs rfl HS.out ?_)
        | (clear TX; (with_reducible refine wpList_is ?_); refine wpList_alX rfl 28 rfl _ zeroS_run _ rfl ?_; intro wy gx hgx hlx H1 hn1; have HX : Hid (HasS wy gx noWs nilS 0 0) := Lib.hid H1; have dsx : gs ≠ gx := Nat.ne_of_lt (Nat.lt_of_lt_of_le (HasC.lt HS.out) hgx); clear H1 hlx)
        | (clear TO; (with_reducible refine wpList_is ?_); refine wpList_alX rfl 33 rfl _ zeroO_run _ rfl ?_; intro wz go hgo hlo H1 hn2; have HO : Hid (HasO wz go 0 0 nilS) := Lib.hid H1; have dxo : gx ≠ go := Nat.ne_of_lt (Nat.lt_of_lt_of_le (HasC.lt HX.out) hgo); replace HX : Hid (HasS wz gx noWs nilS 0 0) := Lib.hid (HasC.new HX.out hn2); clear H1 hlo)
        | ((with_reducible refine wpList_is ?_); refine wpList_stS rfl rfl (.tmp 7) (.tmp 25) rfl gx rfl (l := l2) (s := s2) (p := p2) (q := q2) rfl HX.out ?_; intro wu H1 k1; replace HX : Hid (HasS wu gx l2 s2 p2 q2) := Lib.hid H1; replace HO : Hid (HasO wu go 0 0 nilS) := Lib.hid (HasC.kept HO.out k1 (Ne.symm dxo)); have hn3 : New wx wu := k1.below wx hgx (hn1.trans hn2); clear H1 k1)
        | ((with_reducible refine wpList_is ?_); refine wpList_stO rfl rfl (.tmp 9) (.tmp 27) rfl go rfl (how) (val) so rfl HO.out ?_; intro wv H1 k1; have hn : New wx wv := k1.below wx (Nat.le_trans hn1.size hgo) hn3; replace HO : Hid (HasO wv go (how) (val) so) := Lib.hid H1; replace HX : Hid (HasS wv gx l2 s2 p2 q2) := Lib.hid (HasC.kept HX.out k1 dxo); replace HH2 := Lib.hid (HH2.out.new hn); replace HE2 := Lib.hid (HE2.out.new hn); replace HO2 := Lib.hid (HO2.out.new hn); clear H1 k1 hn1 hn2 hn3 hgx hgo; replace HS : Hid (HasS wv gs l s p q) := Lib.hid (HasC.new HS.out hn); replace HN := Lib.hid (HN.out.trans hn); clear hn; have x1 := HasS.hp HX.out; have x2 := HasS.at HX.out; have x3 := HasS.ask HX.out; have s1 := HasS.hp HS.out; have s3 := HasS.ask HS.out; have o1 := HasO.how HO.out; have o2 := HasO.val HO.out; have o3 := HasO.hp HO.out)
        | ((with_reducible refine wpList_is ?_); refine wpList_alX rfl 40 rfl _ zeroR_run _ rfl ?_; intro wy g12 hg12 hl12 H1 hn1; have H12 : Hid (HasRf wy g12 nilS nilS 0 0) := Lib.hid H1; clear H1 hl12)
        | ((with_reducible refine wpList_is ?_); refine wpList_alX rfl 33 rfl _ zeroO_run _ rfl ?_; intro wz g14 hg14 hl14 H1 hn2; have H14 : Hid (HasO wz g14 0 0 nilS) := Lib.hid H1; have d80 : g12 ≠ g14 := Nat.ne_of_lt (Nat.lt_of_lt_of_le (HasC.lt H12.out) hg14); replace H12 : Hid (HasRf wz g12 nilS nilS 0 0) := Lib.hid (HasC.new H12.out hn2); clear H1 hl14)
        | ((with_reducible refine wpList_is ?_); refine wpList_stRf rfl rfl (.tmp 12) (.tmp 68) rfl g12 rfl a3 s3 p2 q2 rfl H12.out ?_; intro wu H1 k1; replace H12 : Hid (HasRf wu g12 a3 s3 p2 q2) := Lib.hid H1; replace H14 : Hid (HasO wu g14 0 0 nilS) := Lib.hid (HasC.kept H14.out k1 (Ne.symm d80)); have hn3 : New wx wu := k1.below wx hg12 (hn1.trans hn2); clear H1 k1)
        | ((with_reducible refine wpList_is ?_); refine wpList_stO rfl rfl (.tmp 14) (.tmp 70) rfl g14 rfl how val so3 rfl H14.out ?_; intro wr H1 k1; have hn : New wx wr := k1.below wx (Nat.le_trans hn1.size hg14) hn3; have hn0 := hn; replace H14 : Hid (HasO wr g14 how val so3) := Lib.hid H1; replace H12 : Hid (HasRf wr g12 a3 s3 p2 q2) := Lib.hid (HasC.kept H12.out k1 d80); replace HW3 := Lib.hid (HW3.out.new hn); replace HH3 := Lib.hid (HH3.out.new hn); replace HE3 := Lib.hid (HE3.out.new hn); replace HO3 := Lib.hid (HO3.out.new hn); replace HS : Hid (HasS wr gs l s p q) := Lib.hid (HasC.new HS.out hn); replace HN := Lib.hid (HN.out.trans hn); clear hn; replace HX : Hid (HasS wr gx l2 s2 p2 q2) := Lib.hid (HasC.new HX.out hn0); replace HO : Hid (HasO wr go how val so) := Lib.hid (HasC.new HO.out hn0); replace HH2 := Lib.hid (HH2.out.new hn0); replace HE2 := Lib.hid (HE2.out.new hn0); replace HO2 := Lib.hid (HO2.out.new hn0); clear hn0; clear H1 k1 hn1 hn2 hn3 hg12 hg14))
      have S0 : Hid (New wr wr.drew) := Lib.hid ((New.refl wr).drew)
      have HLV := HL.out.new HN.out
      have hne := newW_any wr
      refine wp_region_noPanic ?_
      refine wp_region_held_drew (S := fun w' => New wr w') (by kernel_rfl) S0.out (fun _ => ?_)
      refine wpAnyH_take (i := 0) rfl (by kernel_rfl) (by kernel_rfl) (by kernel_rfl) (fun _ _ _ h => h) (ldS_if rfl (.tmp 7) rfl gx rfl (fun w' h => HasC.new HX.out h)) S0.out ?_
      simp only [List.getElem_toArray, List.getElem_cons_zero, Act.put, List.setIfInBounds_toArray, List.set_cons_zero, List.set_cons_succ]
      refine wpAnyH_take (i := 2) rfl (by kernel_rfl) (by kernel_rfl) (by kernel_rfl) (fun _ _ _ h => h) (ldC4_if rfl (.tmp 12) rfl g12 rfl (fun w' h => HasC.new H12.out h)) S0.out ?_
      simp only [List.getElem_toArray, List.getElem_cons_zero, List.getElem_cons_succ, Act.put, List.setIfInBounds_toArray, List.set_cons_zero, List.set_cons_succ]
      refine wpAnyH_call (i := 1) rfl rfl (by kernel_rfl) 15 #[.agg (cellsS l2 s2 p2 q2).toArray] (by go_simp) ?_
      refine (as_any l2 s2 p2 q2 _).mono ?_
      rintro e w1 ⟨a1, rfl, ha1, hn1⟩
      have N1 := Lib.hid (S0.out.trans hn1)
      have HA1 := Lib.hid ha1
      refine ⟨_, rfl, N1.out, ?_⟩
      simp only [List.getElem_toArray, List.getElem_cons_zero, List.getElem_cons_succ, Act.put, List.setIfInBounds_toArray, List.set_cons_zero, List.set_cons_succ]
      refine wpAnyH_call (i := 3) rfl rfl (by kernel_rfl) 17 #[.agg (refC a1 s2 p2 q2).toArray, .agg (refC a3 s3 p2 q2).toArray] (by go_simp) ?_
      refine (refSame_any l2 l2 (fun _ _ => rfl) z2 p2 q2 a1 s2 a3 s3 _ HA1.out (HW3.out.new N1.out) (HH2.out.new N1.out) (HH3.out.new N1.out) HZ.out).mono ?_
      rintro e w3 ⟨rfl, hn3⟩
      have N3 := Lib.hid (N1.out.trans hn3)
      refine ⟨_, rfl, N3.out, ?_⟩
      simp only [List.getElem_toArray, List.getElem_cons_zero, List.getElem_cons_succ, Act.put, List.setIfInBounds_toArray, List.set_cons_zero, List.set_cons_succ]
      refine wpAnyH_rest 4 rfl (by kernel_rfl) (by kernel_rfl) N3.out ?_
      simp only [List.drop_succ_cons, List.drop_zero]
      clear hn1 ha1 hn3 HA1
      repeat (first
        | (refine wpQuiet_ldOm (by rfl) (.tmp 9) rfl go rfl (by rintro w' ⟨y, rfl⟩; exact HasC.new HO.out y.property) ?_; simp only [Act.put, List.setIfInBounds_toArray, List.set_cons_zero, List.set_cons_succ])
        | (refine wpQuiet_ldOm (by rfl) (.tmp 14) rfl g14 rfl (by rintro w' ⟨y, rfl⟩; exact HasC.new H14.out y.property) ?_; simp only [Act.put, List.setIfInBounds_toArray, List.set_cons_zero, List.set_cons_succ])
        | go_big_quiet_step (first | (go_at_call 12; exact quiet_new (knows_from _ HLV (Subtype.property _))) | (go_at_call 20; exact quiet_new (refEvents_from (Subtype.property _) HE2.out HE3.out HEZ.out)) | (go_at_call 18; exact quiet_new (refOutcome_from (Subtype.property _) HO2.out HO3.out HOZ.out))))
      refine wpQuiet_nil ?_
      intro w4 h4
      refine NoPanic.normal ?_
      go_wp2
      go_ret
      exact ⟨rfl, HN.out.trans h4⟩
theorem stepDoes_law (v : Value) (f : List I) (l : Ws) (s : Sl) (p q : Int) (zs : List Int) (va : Value) (az : List Int) (w : World) (hf : FunAt w v f) (_hi : ∀ y ∈ f, In64I y) (_hm : f.length ≤ maxLen) (hp : Hp w (.slice s.ao s.n s.c) zs) (ha : RowAt w va (az.map (.int .i64))) (hl : Laid w) :
    Calls Tryz.prog 3 #[v, .agg (cellsS l s p q).toArray, va] w fun e w' => e = .returned (.bool true) ∧ New w w' := stepDoes_walk v f l s p q zs va az w hf hp ha hl
end Go.Proofs.YtfllkagbphgjlaaGreatDoor
