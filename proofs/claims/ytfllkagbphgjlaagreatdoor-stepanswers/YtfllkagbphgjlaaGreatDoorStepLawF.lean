/-
  'StepAnswers': answers behind the one that is next make no difference to a step: true, for every input.
-/
import Derived.Test.YtfllkagbphgjlaaGreatDoorStepH
namespace Go.Proofs.YtfllkagbphgjlaaGreatDoor
open Go.RowKit

set_option maxHeartbeats 16000000 in
set_option maxRecDepth 100000 in
theorem stepAnswers_walk (v : Value) (f : List I) (l : Ws) (s : Sl) (p q : Int) (zs : List Int) (va : Value) (az : List Int) (vm : Value) (mz : List Int) (w : World) (hf : FunAt w v f) (hp : Hp w (.slice s.ao s.n s.c) zs) (ha : Hp w va az) (hta : Tame va) (hmo : Hp w vm mz) (htm : Tame vm) (hl : Laid w) :
    Calls Tryz.prog 4 #[v, .agg (cellsS l s p q).toArray, va, vm] w fun e w' => e = .returned (.bool true) ∧ New w w' := by
  obtain ⟨mo, mc, rfl⟩ := hmo.form
  have HMO := Lib.hid hmo
  have HTM := Lib.hid htm
  obtain ⟨ao, fc, rfl⟩ := hf.form
  obtain ⟨bo, bc, rfl⟩ := ha.form
  have HTA := Lib.hid hta
  have HL := Lib.hid hl
  have HF := Lib.hid hf
  have HP := Lib.hid hp
  have HA := Lib.hid ha
  have TX : Hid True := Lib.hid trivial
  have TO : Hid True := Lib.hid trivial
  have TD1 : Hid True := Lib.hid trivial
  clear hl hf hp ha hta hmo htm
  cases hg : greatB f.length zs.length az.length with
  | true =>
    have HG := Lib.hid hg
    go_enter Tryz.func4, Tryz.ntmps4
    go_wp2_with (first
      | (go_at_call 11; refine (great_is HN.out (HF.out.new HN.out) (HP.out.new HN.out) (HA.out.new HN.out) HG.out).mono ?_; rintro e wx ⟨rfl, hn⟩; replace HS : Hid (HasS wx gs l s p q) := Lib.hid (HasC.new HS.out hn); replace HN := Lib.hid (HN.out.trans hn); clear hn)
      | (go_at_call 12; refine (knows_from _ HL.out HN.out).mono ?_; rintro e wk ⟨rfl, hnk⟩)
      | ((with_reducible refine wpList_is ?_); refine wpList_boxX rfl 28 (.tmp 1) rfl (cellsS l s p q) rfl ?_; intro wx gs hgs hls H1 hn1; have HS : Hid (HasS wx gs l s p q) := Lib.hid H1; have HN := Lib.hid hn1; clear H1 hn1 hls)
      | ((with_reducible refine wpList_is ?_); refine wpList_ldSG (by rfl) (.tmp 5) rfl gs rfl HS.out ?_))
    go_ret
    exact ⟨rfl, hnk⟩
  | false =>
    have HG := Lib.hid hg
    have hng := not_great hg
    have hal : az.length ≤ 100000 := by omega
    clear hg
    by_cases hmn : (1000 : Int) < (mz.length : Int)
    · go_enter Tryz.func4, Tryz.ntmps4
      go_wp2_with (first
        | (go_at_call 11; refine (great_is HN.out (HF.out.new HN.out) (HP.out.new HN.out) (HA.out.new HN.out) HG.out).mono ?_; rintro e wx ⟨rfl, hn⟩; replace HS : Hid (HasS wx gs l s p q) := Lib.hid (HasC.new HS.out hn); replace HN := Lib.hid (HN.out.trans hn); clear hn)
        | (go_at_call 12; refine (knows_from _ HL.out HN.out).mono ?_; rintro e wk ⟨rfl, hnk⟩)
        | ((with_reducible refine wpList_is ?_); refine wpList_boxX rfl 28 (.tmp 1) rfl (cellsS l s p q) rfl ?_; intro wx gs hgs hls H1 hn1; have HS : Hid (HasS wx gs l s p q) := Lib.hid H1; have HN := Lib.hid hn1; clear H1 hn1 hls)
        | ((with_reducible refine wpList_is ?_); refine wpList_ldSG (by rfl) (.tmp 5) rfl gs rfl HS.out ?_))
      go_ret
      exact ⟨rfl, hnk⟩
    have hml : mz.length ≤ 1000 := by omega
    have qm : decide ((1000 : Int) < (mz.length : Int)) = false := decide_eq_false hmn
    have HML := Lib.hid hml
    clear hmn hml
    cases hm : mcB f ⟨l, zs, p, q⟩ with
    | false =>
      have HM := Lib.hid hm
      clear hm
      go_enter Tryz.func4, Tryz.ntmps4
      go_wp2_with (first
        | (go_at_call 11; refine (great_is HN.out (HF.out.new HN.out) (HP.out.new HN.out) (HA.out.new HN.out) HG.out).mono ?_; rintro e wx ⟨rfl, hn⟩; replace HS : Hid (HasS wx gs l s p q) := Lib.hid (HasC.new HS.out hn); replace HN := Lib.hid (HN.out.trans hn); clear hn)
        | (go_at_call 15; refine (as_any l s p q _).mono ?_; rintro e wx ⟨as1, rfl, ha, hn⟩; have HAs := Lib.hid ha; clear ha; replace HS : Hid (HasS wx gs l s p q) := Lib.hid (HasC.new HS.out hn); replace HN := Lib.hid (HN.out.trans hn); clear hn)
        | (go_at_call 14; refine (refRight_any _ f ⟨l, zs, p, q⟩ as1 s _ (HF.out.new HN.out) (HP.out.new HN.out) HAs.out).mono ?_; rw [HM.out]; rintro e wx ⟨rfl, hn⟩; clear HAs; replace HS : Hid (HasS wx gs l s p q) := Lib.hid (HasC.new HS.out hn); replace HN := Lib.hid (HN.out.trans hn); clear hn; have cp := HasS.at HS.out)
        | (go_at_call 12; refine (knows_from _ HL.out HN.out).mono ?_; rintro e wk ⟨rfl, hnk⟩)
        | ((with_reducible refine wpList_is ?_); refine wpList_boxX rfl 28 (.tmp 1) rfl (cellsS l s p q) rfl ?_; intro wx gs hgs hls H1 hn1; have HS : Hid (HasS wx gs l s p q) := Lib.hid H1; have HN := Lib.hid hn1; clear H1 hn1 hls)
        | ((with_reducible refine wpList_is ?_); refine wpList_ldSG (by rfl) (.tmp 5) rfl gs rfl HS.out ?_))
      go_ret
      exact ⟨rfl, hnk⟩
    | true =>
      have HM := Lib.hid hm
      have hal2 : (az ++ mz).length ≤ 100000 := by have := HML.out; rw [List.length_append]; omega
      have TA1 : Hid True := Lib.hid trivial
      have TA2 : Hid True := Lib.hid trivial
      obtain ⟨⟨⟨l2, z2, p2, q2⟩, es, how, val, oh⟩, HR⟩ : ∃ r, Hid (stp f ⟨l, zs, p, q⟩ az = r) := ⟨_, Lib.hid rfl⟩
      by_cases h5 : how = 5
      · have e5 : 5 = how := h5.symm
        subst e5
        have hen := stp_ends (az := az) hm (by rw [HR.out]; show (5 : Int) ≠ 0; omega)
        rw [HR.out] at hen
        have e4 : [] = es := hen.2.1.symm
        subst e4
        obtain ⟨⟨⟨l3, z3, p3, q3⟩, es3, how3, val3, oh3⟩, HR3⟩ : ∃ r, Hid (stp f ⟨l, zs, p, q⟩ (az ++ mz) = r) := ⟨_, Lib.hid rfl⟩
        clear hm h5 hen
        go_enter Tryz.func4, Tryz.ntmps4
        go_wp2_with (first
          | (go_at_call 11; refine (great_is HN.out (HF.out.new HN.out) (HP.out.new HN.out) (HA.out.new HN.out) HG.out).mono ?_; rintro e wx ⟨rfl, hn⟩; replace HS : Hid (HasS wx gs l s p q) := Lib.hid (HasC.new HS.out hn); replace HN := Lib.hid (HN.out.trans hn); clear hn)
          | (go_at_call 15; refine (as_any l s p q _).mono ?_; rintro e wx ⟨as1, rfl, ha, hn⟩; have HAs := Lib.hid ha; clear ha; replace HS : Hid (HasS wx gs l s p q) := Lib.hid (HasC.new HS.out hn); replace HN := Lib.hid (HN.out.trans hn); clear hn)
          | (go_at_call 14; refine (refRight_any _ f ⟨l, zs, p, q⟩ as1 s _ (HF.out.new HN.out) (HP.out.new HN.out) HAs.out).mono ?_; rw [HM.out]; rintro e wx ⟨rfl, hn⟩; clear HAs; replace HS : Hid (HasS wx gs l s p q) := Lib.hid (HasC.new HS.out hn); replace HN := Lib.hid (HN.out.trans hn); clear hn; have cp := HasS.at HS.out)
          | (clear TD1; go_at_call 13; refine (stepDo_is HL.out HN.out (HF.out.new HN.out) (HP.out.new HN.out) (HA.out.new HN.out) hal HM.out HR.out).mono ?_; rintro e wx ⟨s2, ve, so, rfl, h1, h2, h3, hn⟩; obtain ⟨eo, ec, e1⟩ := h2.form; subst e1; have HH2 := Lib.hid h1; have HE2 := Lib.hid h2; have HO2 := Lib.hid h3; clear h1 h2 h3; replace HALL := Lib.hid (HALL.out.new hn); replace HS : Hid (HasS wx gs l s p q) := Lib.hid (HasC.new HS.out hn); replace HN := Lib.hid (HN.out.trans hn); clear hn)
          | (go_at_call 13; refine (stepDo_is HL.out (HN.out.trans HV.out) ((HF.out.new HN.out).new HV.out) ((HP.out.new HN.out).new HV.out) (HALL.out.new HV.out) hal2 HM.out HR3.out).mono ?_; rintro e wx ⟨s3, ve3, so3, rfl, h1, h2, h3, hn⟩; obtain ⟨eo3, ec3, e1⟩ := h2.form; subst e1; have HH3 := Lib.hid h1; have HE3 := Lib.hid h2; have HO3 := Lib.hid h3; replace HV := Lib.hid (HV.out.trans hn); clear h1 h2 h3 hn)
          | (go_at_call 12; refine (knows_from _ HL.out (HN.out.trans HV.out)).mono ?_; rintro e wk ⟨rfl, hnk⟩)
          | ((with_reducible refine wpList_is ?_); refine wpList_boxX rfl 28 (.tmp 1) rfl (cellsS l s p q) rfl ?_; intro wx gs hgs hls H1 hn1; have HS : Hid (HasS wx gs l s p q) := Lib.hid H1; have HN := Lib.hid hn1; clear H1 hn1 hls)
          | ((with_reducible refine wpList_is ?_); refine wpList_ldSG (by rfl) (.tmp 5) rfl gs rfl HS.out ?_)
          | ((with_reducible refine wpList_is ?_); at_builtin; (with_reducible refine wpList_is ?_); clear TA1; refine wpList_appRow rfl (.tmp 35) (.tmp 36) rfl wx.heap.size 0 _ [] rfl (own_empty64 wx _ (Nat.le_refl _)) _ rfl az ((HA.out.new HN.out).new (alloc_new _ _)) HTA.out (by omega) (by rw [alloc_size]; omega) ?_; intro v1 wy ho1 hnw1; have N1 : New wx wy := hnw1 wx (Nat.le_refl _) (alloc_new _ _))
          | ((with_reducible refine wpList_is ?_); at_builtin; (with_reducible refine wpList_is ?_); clear TA2; refine wpList_appRow rfl (.tmp 37) (.tmp 38) rfl wx.heap.size (0 + az.length) _ ([] ++ az) rfl ho1 _ rfl mz ((HMO.out.new HN.out).new N1) HTM.out (by have := HML.out; omega) N1.size ?_; intro v2 wz ho2 hnw2; have hn : New wx wz := hnw2 wx (Nat.le_refl _) N1; have hal2 : Hp wz v2 (([] ++ az) ++ mz) := own_hp ho2; rw [List.nil_append] at hal2; obtain ⟨co, cc, e1⟩ := hal2.form; subst e1; rw [List.length_append] at hal2; have HALL := Lib.hid hal2; clear hal2 ho1 ho2 hnw1 hnw2 N1; replace HS : Hid (HasS wz gs l s p q) := Lib.hid (HasC.new HS.out hn); replace HN := Lib.hid (HN.out.trans hn); clear hn)
          | (clear TX; (with_reducible refine wpList_is ?_); refine wpList_alX rfl 28 rfl _ zeroS_run _ rfl ?_; intro wy gx hgx hlx H1 hn1; have HX : Hid (HasS wy gx noWs nilS 0 0) := Lib.hid H1; have dsx : gs ≠ gx := Nat.ne_of_lt (Nat.lt_of_lt_of_le (HasC.lt HS.out) hgx); clear H1 hlx)
          | (clear TO; (with_reducible refine wpList_is ?_); refine wpList_alX rfl 33 rfl _ zeroO_run _ rfl ?_; intro wz go hgo hlo H1 hn2; have HO : Hid (HasO wz go 0 0 nilS) := Lib.hid H1; have dxo : gx ≠ go := Nat.ne_of_lt (Nat.lt_of_lt_of_le (HasC.lt HX.out) hgo); replace HX : Hid (HasS wz gx noWs nilS 0 0) := Lib.hid (HasC.new HX.out hn2); clear H1 hlo)
          | ((with_reducible refine wpList_is ?_); refine wpList_stS rfl rfl (.tmp 10) (.tmp 45) rfl gx rfl (l := l2) (s := s2) (p := p2) (q := q2) rfl HX.out ?_; intro wu H1 k1; replace HX : Hid (HasS wu gx l2 s2 p2 q2) := Lib.hid H1; replace HO : Hid (HasO wu go 0 0 nilS) := Lib.hid (HasC.kept HO.out k1 (Ne.symm dxo)); have hn3 : New wx wu := k1.below wx hgx (hn1.trans hn2); clear H1 k1)
          | ((with_reducible refine wpList_is ?_); refine wpList_stO rfl rfl (.tmp 12) (.tmp 47) rfl go rfl (5) (val) so rfl HO.out ?_; intro wv H1 k1; have hn : New wx wv := k1.below wx (Nat.le_trans hn1.size hgo) hn3; replace HO : Hid (HasO wv go (5) (val) so) := Lib.hid H1; replace HX : Hid (HasS wv gx l2 s2 p2 q2) := Lib.hid (HasC.kept HX.out k1 dxo); replace HH2 := Lib.hid (HH2.out.new hn); replace HE2 := Lib.hid (HE2.out.new hn); replace HO2 := Lib.hid (HO2.out.new hn); replace HALL := Lib.hid (HALL.out.new hn); clear H1 k1 hn1 hn2 hn3 hgx hgo; replace HS : Hid (HasS wv gs l s p q) := Lib.hid (HasC.new HS.out hn); replace HN := Lib.hid (HN.out.trans hn); clear hn; have x1 := HasS.hp HX.out; have x2 := HasS.at HX.out; have x3 := HasS.ask HX.out; have s1 := HasS.hp HS.out; have s3 := HasS.ask HS.out; have o1 := HasO.how HO.out; have o2 := HasO.val HO.out; have o3 := HasO.hp HO.out; have HV := Lib.hid (New.refl wv))
          | ((with_reducible refine wpList_is ?_); (with_reducible refine wpList_is ?_); refine wpList_ldSG (by rfl) (.tmp 5) rfl gs rfl (HasC.new HS.out HV.out) ?_)
          | ((with_reducible refine wpList_is ?_); refine wpList_alX rfl 28 rfl _ zeroS_run _ rfl ?_; intro wy g14 hg14 hl14 H1 hn1; have H14 : Hid (HasS wy g14 noWs nilS 0 0) := Lib.hid H1; clear H1 hl14)
          | ((with_reducible refine wpList_is ?_); refine wpList_alX rfl 33 rfl _ zeroO_run _ rfl ?_; intro wz g16 hg16 hl16 H1 hn2; have H16 : Hid (HasO wz g16 0 0 nilS) := Lib.hid H1; have d80 : g14 ≠ g16 := Nat.ne_of_lt (Nat.lt_of_lt_of_le (HasC.lt H14.out) hg16); replace H14 : Hid (HasS wz g14 noWs nilS 0 0) := Lib.hid (HasC.new H14.out hn2); clear H1 hl16)
          | ((with_reducible refine wpList_is ?_); refine wpList_stS rfl rfl (.tmp 14) (.tmp 54) rfl g14 rfl (l := l3) (s := s3) (p := p3) (q := q3) rfl H14.out ?_; intro wu H1 k1; replace H14 : Hid (HasS wu g14 l3 s3 p3 q3) := Lib.hid H1; replace H16 : Hid (HasO wu g16 0 0 nilS) := Lib.hid (HasC.kept H16.out k1 (Ne.symm d80)); have hn3 : New wx wu := k1.below wx hg14 (hn1.trans hn2); clear H1 k1)
          | ((with_reducible refine wpList_is ?_); refine wpList_stO rfl rfl (.tmp 16) (.tmp 56) rfl g16 rfl (how3) (val3) so3 rfl H16.out ?_; intro wr H1 k1; have hn : New wx wr := k1.below wx (Nat.le_trans hn1.size hg16) hn3; replace H16 : Hid (HasO wr g16 (how3) (val3) so3) := Lib.hid H1; replace H14 : Hid (HasS wr g14 l3 s3 p3 q3) := Lib.hid (HasC.kept H14.out k1 d80); replace HH3 := Lib.hid (HH3.out.new hn); replace HE3 := Lib.hid (HE3.out.new hn); replace HO3 := Lib.hid (HO3.out.new hn); replace HV := Lib.hid (HV.out.trans hn); have o9 := HasO.how (HasC.new HO.out HV.out); clear H1 k1 hn1 hn2 hn3 hn hg14 hg16))
        go_ret
        exact ⟨rfl, hnk⟩
      · have q5 : (how == 5) = false := bneq_of h5
        have HR3 : Hid (stp f ⟨l, zs, p, q⟩ (az ++ mz) = ⟨⟨l2, z2, p2, q2⟩, es, how, val, oh⟩) := Lib.hid (by
          rw [stp_more hm (by rw [HR.out]; exact h5)]
          exact HR.out)
        have hoh := stp_oh (az := az) hm
        have hev := stp_ev (f := f) (s := ⟨l, zs, p, q⟩) (az := az)
        rw [HR.out] at hoh hev
        have HZ : Hid (z2.length ≤ 1000) := Lib.hid (by have h : z2.length ≤ 16 := hoh.2; omega)
        have HOZ : Hid (oh.length ≤ 1000) := Lib.hid (by have h : oh.length ≤ 16 := hoh.1; omega)
        have HEZ : Hid (es.length ≤ 1000) := Lib.hid (by have h : es.length ≤ 1 := hev; omega)
        clear hm h5 hoh hev
        go_enter Tryz.func4, Tryz.ntmps4
        go_wp2_with (first
          | (go_at_call 11; refine (great_is HN.out (HF.out.new HN.out) (HP.out.new HN.out) (HA.out.new HN.out) HG.out).mono ?_; rintro e wx ⟨rfl, hn⟩; replace HS : Hid (HasS wx gs l s p q) := Lib.hid (HasC.new HS.out hn); replace HN := Lib.hid (HN.out.trans hn); clear hn)
          | (go_at_call 15; refine (as_any l s p q _).mono ?_; rintro e wx ⟨as1, rfl, ha, hn⟩; have HAs := Lib.hid ha; clear ha; replace HS : Hid (HasS wx gs l s p q) := Lib.hid (HasC.new HS.out hn); replace HN := Lib.hid (HN.out.trans hn); clear hn)
          | (go_at_call 14; refine (refRight_any _ f ⟨l, zs, p, q⟩ as1 s _ (HF.out.new HN.out) (HP.out.new HN.out) HAs.out).mono ?_; rw [HM.out]; rintro e wx ⟨rfl, hn⟩; clear HAs; replace HS : Hid (HasS wx gs l s p q) := Lib.hid (HasC.new HS.out hn); replace HN := Lib.hid (HN.out.trans hn); clear hn; have cp := HasS.at HS.out)
          | (clear TD1; go_at_call 13; refine (stepDo_is HL.out HN.out (HF.out.new HN.out) (HP.out.new HN.out) (HA.out.new HN.out) hal HM.out HR.out).mono ?_; rintro e wx ⟨s2, ve, so, rfl, h1, h2, h3, hn⟩; obtain ⟨eo, ec, e1⟩ := h2.form; subst e1; have HH2 := Lib.hid h1; have HE2 := Lib.hid h2; have HO2 := Lib.hid h3; clear h1 h2 h3; replace HALL := Lib.hid (HALL.out.new hn); replace HS : Hid (HasS wx gs l s p q) := Lib.hid (HasC.new HS.out hn); replace HN := Lib.hid (HN.out.trans hn); clear hn)
          | (go_at_call 13; refine (stepDo_is HL.out (HN.out.trans HV.out) ((HF.out.new HN.out).new HV.out) ((HP.out.new HN.out).new HV.out) (HALL.out.new HV.out) hal2 HM.out HR3.out).mono ?_; rintro e wx ⟨s3, ve3, so3, rfl, h1, h2, h3, hn⟩; obtain ⟨eo3, ec3, e1⟩ := h2.form; subst e1; have HH3 := Lib.hid h1; have HE3 := Lib.hid h2; have HO3 := Lib.hid h3; replace HV := Lib.hid (HV.out.trans hn); clear h1 h2 h3 hn)
          | ((with_reducible refine wpList_is ?_); refine wpList_boxX rfl 28 (.tmp 1) rfl (cellsS l s p q) rfl ?_; intro wx gs hgs hls H1 hn1; have HS : Hid (HasS wx gs l s p q) := Lib.hid H1; have HN := Lib.hid hn1; clear H1 hn1 hls)
          | ((with_reducible refine wpList_is ?_); refine wpList_ldSG (by rfl) (.tmp 5) rfl gs rfl HS.out ?_)
          | ((with_reducible refine wpList_is ?_); at_builtin; (with_reducible refine wpList_is ?_); clear TA1; refine wpList_appRow rfl (.tmp 35) (.tmp 36) rfl wx.heap.size 0 _ [] rfl (own_empty64 wx _ (Nat.le_refl _)) _ rfl az ((HA.out.new HN.out).new (alloc_new _ _)) HTA.out (by omega) (by rw [alloc_size]; omega) ?_; intro v1 wy ho1 hnw1; have N1 : New wx wy := hnw1 wx (Nat.le_refl _) (alloc_new _ _))
          | ((with_reducible refine wpList_is ?_); at_builtin; (with_reducible refine wpList_is ?_); clear TA2; refine wpList_appRow rfl (.tmp 37) (.tmp 38) rfl wx.heap.size (0 + az.length) _ ([] ++ az) rfl ho1 _ rfl mz ((HMO.out.new HN.out).new N1) HTM.out (by have := HML.out; omega) N1.size ?_; intro v2 wz ho2 hnw2; have hn : New wx wz := hnw2 wx (Nat.le_refl _) N1; have hal2 : Hp wz v2 (([] ++ az) ++ mz) := own_hp ho2; rw [List.nil_append] at hal2; obtain ⟨co, cc, e1⟩ := hal2.form; subst e1; rw [List.length_append] at hal2; have HALL := Lib.hid hal2; clear hal2 ho1 ho2 hnw1 hnw2 N1; replace HS : Hid (HasS wz gs l s p q) := Lib.hid (HasC.new HS.out hn); replace HN := Lib.hid (HN.out.trans hn); clear hn)
          | (clear TX; (with_reducible refine wpList_is ?_); refine wpList_alX rfl 28 rfl _ zeroS_run _ rfl ?_; intro wy gx hgx hlx H1 hn1; have HX : Hid (HasS wy gx noWs nilS 0 0) := Lib.hid H1; have dsx : gs ≠ gx := Nat.ne_of_lt (Nat.lt_of_lt_of_le (HasC.lt HS.out) hgx); clear H1 hlx)
          | (clear TO; (with_reducible refine wpList_is ?_); refine wpList_alX rfl 33 rfl _ zeroO_run _ rfl ?_; intro wz go hgo hlo H1 hn2; have HO : Hid (HasO wz go 0 0 nilS) := Lib.hid H1; have dxo : gx ≠ go := Nat.ne_of_lt (Nat.lt_of_lt_of_le (HasC.lt HX.out) hgo); replace HX : Hid (HasS wz gx noWs nilS 0 0) := Lib.hid (HasC.new HX.out hn2); clear H1 hlo)
          | ((with_reducible refine wpList_is ?_); refine wpList_stS rfl rfl (.tmp 10) (.tmp 45) rfl gx rfl (l := l2) (s := s2) (p := p2) (q := q2) rfl HX.out ?_; intro wu H1 k1; replace HX : Hid (HasS wu gx l2 s2 p2 q2) := Lib.hid H1; replace HO : Hid (HasO wu go 0 0 nilS) := Lib.hid (HasC.kept HO.out k1 (Ne.symm dxo)); have hn3 : New wx wu := k1.below wx hgx (hn1.trans hn2); clear H1 k1)
          | ((with_reducible refine wpList_is ?_); refine wpList_stO rfl rfl (.tmp 12) (.tmp 47) rfl go rfl (how) (val) so rfl HO.out ?_; intro wv H1 k1; have hn : New wx wv := k1.below wx (Nat.le_trans hn1.size hgo) hn3; replace HO : Hid (HasO wv go (how) (val) so) := Lib.hid H1; replace HX : Hid (HasS wv gx l2 s2 p2 q2) := Lib.hid (HasC.kept HX.out k1 dxo); replace HH2 := Lib.hid (HH2.out.new hn); replace HE2 := Lib.hid (HE2.out.new hn); replace HO2 := Lib.hid (HO2.out.new hn); replace HALL := Lib.hid (HALL.out.new hn); clear H1 k1 hn1 hn2 hn3 hgx hgo; replace HS : Hid (HasS wv gs l s p q) := Lib.hid (HasC.new HS.out hn); replace HN := Lib.hid (HN.out.trans hn); clear hn; have x1 := HasS.hp HX.out; have x2 := HasS.at HX.out; have x3 := HasS.ask HX.out; have s1 := HasS.hp HS.out; have s3 := HasS.ask HS.out; have o1 := HasO.how HO.out; have o2 := HasO.val HO.out; have o3 := HasO.hp HO.out; have HV := Lib.hid (New.refl wv))
          | ((with_reducible refine wpList_is ?_); (with_reducible refine wpList_is ?_); refine wpList_ldSG (by rfl) (.tmp 5) rfl gs rfl (HasC.new HS.out HV.out) ?_)
          | ((with_reducible refine wpList_is ?_); refine wpList_alX rfl 28 rfl _ zeroS_run _ rfl ?_; intro wy g14 hg14 hl14 H1 hn1; have H14 : Hid (HasS wy g14 noWs nilS 0 0) := Lib.hid H1; clear H1 hl14)
          | ((with_reducible refine wpList_is ?_); refine wpList_alX rfl 33 rfl _ zeroO_run _ rfl ?_; intro wz g16 hg16 hl16 H1 hn2; have H16 : Hid (HasO wz g16 0 0 nilS) := Lib.hid H1; have d80 : g14 ≠ g16 := Nat.ne_of_lt (Nat.lt_of_lt_of_le (HasC.lt H14.out) hg16); replace H14 : Hid (HasS wz g14 noWs nilS 0 0) := Lib.hid (HasC.new H14.out hn2); clear H1 hl16)
          | ((with_reducible refine wpList_is ?_); refine wpList_stS rfl rfl (.tmp 14) (.tmp 54) rfl g14 rfl (l := l2) (s := s3) (p := p2) (q := q2) rfl H14.out ?_; intro wu H1 k1; replace H14 : Hid (HasS wu g14 l2 s3 p2 q2) := Lib.hid H1; replace H16 : Hid (HasO wu g16 0 0 nilS) := Lib.hid (HasC.kept H16.out k1 (Ne.symm d80)); have hn3 : New wx wu := k1.below wx hg14 (hn1.trans hn2); clear H1 k1)
          | ((with_reducible refine wpList_is ?_); refine wpList_stO rfl rfl (.tmp 16) (.tmp 56) rfl g16 rfl (how) (val) so3 rfl H16.out ?_; intro wr H1 k1; have hn : New wx wr := k1.below wx (Nat.le_trans hn1.size hg16) hn3; replace H16 : Hid (HasO wr g16 (how) (val) so3) := Lib.hid H1; replace H14 : Hid (HasS wr g14 l2 s3 p2 q2) := Lib.hid (HasC.kept H14.out k1 d80); replace HH3 := Lib.hid (HH3.out.new hn); replace HE3 := Lib.hid (HE3.out.new hn); replace HO3 := Lib.hid (HO3.out.new hn); replace HV := Lib.hid (HV.out.trans hn); have o9 := HasO.how (HasC.new HO.out HV.out); clear H1 k1 hn1 hn2 hn3 hn hg14 hg16))
        have HX9 : Hid (HasS wr gx l2 s2 p2 q2) := Lib.hid (HasC.new HX.out HV.out)
        have HO9 : Hid (HasO wr go how val so) := Lib.hid (HasC.new HO.out HV.out)
        have HH29 := Lib.hid (HH2.out.new HV.out)
        have HE29 := Lib.hid (HE2.out.new HV.out)
        have HO29 := Lib.hid (HO2.out.new HV.out)
        replace HN := Lib.hid (HN.out.trans HV.out)
        have S0 : Hid (New wr wr.drew) := Lib.hid ((New.refl wr).drew)
        have HLV := HL.out.new HN.out
        have hne := newW_any wr
        refine wp_region_noPanic ?_
        refine wp_region_held_drew (S := fun w' => New wr w') (by kernel_rfl) S0.out (fun _ => ?_)
        refine wpAnyH_take (i := 0) rfl (by kernel_rfl) (by kernel_rfl) (by kernel_rfl) (fun _ _ _ h => h) (ldS_if rfl (.tmp 10) rfl gx rfl (fun w' h => HasC.new HX9.out h)) S0.out ?_
        simp only [List.getElem_toArray, List.getElem_cons_zero, Act.put, List.setIfInBounds_toArray, List.set_cons_zero, List.set_cons_succ]
        refine wpAnyH_take (i := 2) rfl (by kernel_rfl) (by kernel_rfl) (by kernel_rfl) (fun _ _ _ h => h) (ldS_if rfl (.tmp 14) rfl g14 rfl (fun w' h => HasC.new H14.out h)) S0.out ?_
        simp only [List.getElem_toArray, List.getElem_cons_zero, List.getElem_cons_succ, Act.put, List.setIfInBounds_toArray, List.set_cons_zero, List.set_cons_succ]
        refine wpAnyH_call (i := 1) rfl rfl (by kernel_rfl) 15 #[.agg (cellsS l2 s2 p2 q2).toArray] (by go_simp) ?_
        refine (as_any l2 s2 p2 q2 _).mono ?_
        rintro e w1 ⟨a1, rfl, ha1, hn1⟩
        have N1 := Lib.hid (S0.out.trans hn1)
        have HA1 := Lib.hid ha1
        refine ⟨_, rfl, N1.out, ?_⟩
        simp only [List.getElem_toArray, List.getElem_cons_zero, List.getElem_cons_succ, Act.put, List.setIfInBounds_toArray, List.set_cons_zero, List.set_cons_succ]
        refine wpAnyH_call (i := 3) rfl rfl (by kernel_rfl) 15 #[.agg (cellsS l2 s3 p2 q2).toArray] (by go_simp) ?_
        refine (as_any l2 s3 p2 q2 _).mono ?_
        rintro e w2 ⟨a2, rfl, ha2, hn2⟩
        have N2 := Lib.hid (N1.out.trans hn2)
        have HA2 := Lib.hid ha2
        replace HA1 := Lib.hid (HA1.out.new hn2)
        refine ⟨_, rfl, N2.out, ?_⟩
        simp only [List.getElem_toArray, List.getElem_cons_zero, List.getElem_cons_succ, Act.put, List.setIfInBounds_toArray, List.set_cons_zero, List.set_cons_succ]
        refine wpAnyH_call (i := 4) rfl rfl (by kernel_rfl) 17 #[.agg (refC a1 s2 p2 q2).toArray, .agg (refC a2 s3 p2 q2).toArray] (by go_simp) ?_
        refine (refSame_any l2 l2 (fun _ _ => rfl) z2 p2 q2 a1 s2 a2 s3 _ HA1.out HA2.out (HH29.out.new N2.out) (HH3.out.new N2.out) HZ.out).mono ?_
        rintro e w3 ⟨rfl, hn3⟩
        have N3 := Lib.hid (N2.out.trans hn3)
        refine ⟨_, rfl, N3.out, ?_⟩
        simp only [List.getElem_toArray, List.getElem_cons_zero, List.getElem_cons_succ, Act.put, List.setIfInBounds_toArray, List.set_cons_zero, List.set_cons_succ]
        refine wpAnyH_rest 5 rfl (by kernel_rfl) (by kernel_rfl) N3.out ?_
        simp only [List.drop_succ_cons, List.drop_zero]
        clear hn1 ha1 hn2 ha2 hn3 HA1 HA2
        repeat (first
          | (refine wpQuiet_ldOm (by rfl) (.tmp 12) rfl go rfl (by rintro w' ⟨y, rfl⟩; exact HasC.new HO9.out y.property) ?_; simp only [Act.put, List.setIfInBounds_toArray, List.set_cons_zero, List.set_cons_succ])
          | (refine wpQuiet_ldOm (by rfl) (.tmp 16) rfl g16 rfl (by rintro w' ⟨y, rfl⟩; exact HasC.new H16.out y.property) ?_; simp only [Act.put, List.setIfInBounds_toArray, List.set_cons_zero, List.set_cons_succ])
          | go_big_quiet_step (first | (go_at_call 12; exact quiet_new (knows_from _ HLV (Subtype.property _))) | (go_at_call 20; exact quiet_new (refEvents_from (Subtype.property _) HE29.out HE3.out (Nat.le_trans HEZ.out (by decide)))) | (go_at_call 18; exact quiet_new (refOutcome_from (Subtype.property _) HO29.out HO3.out HOZ.out))))
        refine wpQuiet_nil ?_
        intro w4 h4
        refine NoPanic.normal ?_
        go_wp2
        go_ret
        exact ⟨rfl, HN.out.trans h4⟩
theorem stepAnswers_law (v : Value) (f : List I) (l : Ws) (s : Sl) (p q : Int) (zs : List Int) (va : Value) (az : List Int) (vm : Value) (mz : List Int) (w : World) (hf : FunAt w v f) (_hi : ∀ y ∈ f, In64I y) (_hm : f.length ≤ maxLen) (hp : Hp w (.slice s.ao s.n s.c) zs) (ha : RowAt w va (az.map (.int .i64))) (hta : Tame va) (hmo : RowAt w vm (mz.map (.int .i64))) (htm : Tame vm) (hl : Laid w) :
    Calls Tryz.prog 4 #[v, .agg (cellsS l s p q).toArray, va, vm] w fun e w' => e = .returned (.bool true) ∧ New w w' := stepAnswers_walk v f l s p q zs va az vm mz w hf hp ha hta hmo htm hl
end Go.Proofs.YtfllkagbphgjlaaGreatDoor
