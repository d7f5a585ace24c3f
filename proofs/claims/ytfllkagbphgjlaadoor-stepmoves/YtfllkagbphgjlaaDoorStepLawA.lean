/-
  'StepMoves': a step that only moves makes no event, changes no heap, and never ends: true, for every input.
-/
import Derived.Test.YtfllkagbphgjlaaDoorStepK
import Derived.Test.YtfllkagbphgjlaaDoorRefMoves
namespace Go.Proofs.YtfllkagbphgjlaaDoor
open Go.RowKit

set_option maxHeartbeats 16000000 in
set_option maxRecDepth 100000 in
theorem stepMoves_walk (v : Value) (f : List I) (l : Ws) (s : Sl) (p q : Int) (zs : List Int) (va : Value) (az : List Int) (w : World) (hf : FunAt w v f) (hp : Hp w (.slice s.ao s.n s.c) zs) (ha : Hp w va az) (hl : Laid w) :
    Calls Tryd.prog 4 #[v, .agg (cellsS l s p q).toArray, va] w fun e w' => e = .returned (.bool true) ∧ New w w' := by
  obtain ⟨ao, fc, rfl⟩ := hf.form
  obtain ⟨bo, bc, rfl⟩ := ha.form
  have HL := Lib.hid hl
  have HF := Lib.hid hf
  have HP := Lib.hid hp
  have HA := Lib.hid ha
  have TX : Hid True := Lib.hid trivial
  have TO : Hid True := Lib.hid trivial
  clear hl hf hp ha
  cases hg : greatB f.length zs.length az.length with
  | true =>
    have HG := Lib.hid hg
    go_enter Tryd.func4, Tryd.ntmps4
    go_wp2_with (first
      | (refine wpList_boxX rfl 28 (.tmp 1) rfl (cellsS l s p q) rfl ?_; intro wx gs hgs hls H1 hn1; have HS : Hid (HasS wx gs l s p q) := Lib.hid H1; have HN := Lib.hid hn1; clear H1 hn1 hls)
      | (refine wpList_ldSG rfl (.tmp 4) rfl gs rfl HS.out ?_)
      | (go_at_call 7; refine (great_is HN.out (HF.out.new HN.out) (HP.out.new HN.out) (HA.out.new HN.out) HG.out).mono ?_; rintro e wx ⟨rfl, hn⟩; replace HS : Hid (HasS wx gs l s p q) := Lib.hid (HasC.new HS.out hn); replace HN := Lib.hid (HN.out.trans hn); clear hn)
      | (go_at_call 8; refine (knows_from _ HL.out HN.out).mono ?_; rintro e wk ⟨rfl, hnk⟩))
    go_ret
    exact ⟨rfl, hnk⟩
  | false =>
    have HG := Lib.hid hg
    have hng := not_great hg
    have hal : az.length ≤ 100000 := by omega
    have hz1000 : zs.length ≤ 1000 := by omega
    clear hg hng
    cases hm : mcB f ⟨l, zs, p, q⟩ with
    | false =>
      have HM := Lib.hid hm
      clear hm
      go_enter Tryd.func4, Tryd.ntmps4
      go_wp2_with (first
        | (refine wpList_boxX rfl 28 (.tmp 1) rfl (cellsS l s p q) rfl ?_; intro wx gs hgs hls H1 hn1; have HS : Hid (HasS wx gs l s p q) := Lib.hid H1; have HN := Lib.hid hn1; clear H1 hn1 hls)
        | (refine wpList_ldSG rfl (.tmp 4) rfl gs rfl HS.out ?_)
        | (go_at_call 7; refine (great_is HN.out (HF.out.new HN.out) (HP.out.new HN.out) (HA.out.new HN.out) HG.out).mono ?_; rintro e wx ⟨rfl, hn⟩; replace HS : Hid (HasS wx gs l s p q) := Lib.hid (HasC.new HS.out hn); replace HN := Lib.hid (HN.out.trans hn); clear hn)
        | (go_at_call 11; refine (as_any l s p q _).mono ?_; rintro e wx ⟨as1, rfl, ha, hn⟩; have HAs := Lib.hid ha; clear ha; replace HS : Hid (HasS wx gs l s p q) := Lib.hid (HasC.new HS.out hn); replace HN := Lib.hid (HN.out.trans hn); clear hn)
        | (go_at_call 13; refine (refRight_any _ f ⟨l, zs, p, q⟩ as1 s _ (HF.out.new HN.out) (HP.out.new HN.out) HAs.out).mono ?_; rw [HM.out]; rintro e wx ⟨rfl, hn⟩; clear HAs; replace HS : Hid (HasS wx gs l s p q) := Lib.hid (HasC.new HS.out hn); replace HN := Lib.hid (HN.out.trans hn); clear hn; have cp := HasS.at HS.out)
        | (go_at_call 8; refine (knows_from _ HL.out HN.out).mono ?_; rintro e wk ⟨rfl, hnk⟩))
      go_ret
      exact ⟨rfl, hnk⟩
    | true =>
      have HM := Lib.hid hm
      clear hm
      obtain ⟨fb, fo, x, ex, hix, hrg⟩ := FunAt.ix HF.out (i := p.toNat) (by have h1 := (mc_iff.mp HM.out).2.1; have h2 := (mc_iff.mp HM.out).2.2.1; simp only at h1 h2; omega)
      rw [show ((p.toNat : Nat) : Int) = p from by have h1 := (mc_iff.mp HM.out).2.1; simp only at h1; omega] at hix
      have hxe : insA f p = x := by
        unfold insA
        rw [List.getD_eq_getElem?_getD, ex]
        rfl
      have HX0 := Lib.hid hrg
      have HXE := Lib.hid hxe
      clear hrg hxe ex
      cases hmv : movesB x.op with
      | false =>
        go_enter Tryd.func4, Tryd.ntmps4
        go_wp2_with (first
          | (refine wpList_boxX rfl 28 (.tmp 1) rfl (cellsS l s p q) rfl ?_; intro wx gs hgs hls H1 hn1; have HS : Hid (HasS wx gs l s p q) := Lib.hid H1; have HN := Lib.hid hn1; clear H1 hn1 hls)
          | (refine wpList_ldSG rfl (.tmp 4) rfl gs rfl HS.out ?_)
          | (go_at_call 7; refine (great_is HN.out (HF.out.new HN.out) (HP.out.new HN.out) (HA.out.new HN.out) HG.out).mono ?_; rintro e wx ⟨rfl, hn⟩; replace HS : Hid (HasS wx gs l s p q) := Lib.hid (HasC.new HS.out hn); replace HN := Lib.hid (HN.out.trans hn); clear hn)
          | (go_at_call 11; refine (as_any l s p q _).mono ?_; rintro e wx ⟨as1, rfl, ha, hn⟩; have HAs := Lib.hid ha; clear ha; replace HS : Hid (HasS wx gs l s p q) := Lib.hid (HasC.new HS.out hn); replace HN := Lib.hid (HN.out.trans hn); clear hn)
          | (go_at_call 13; refine (refRight_any _ f ⟨l, zs, p, q⟩ as1 s _ (HF.out.new HN.out) (HP.out.new HN.out) HAs.out).mono ?_; rw [HM.out]; rintro e wx ⟨rfl, hn⟩; clear HAs; replace HS : Hid (HasS wx gs l s p q) := Lib.hid (HasC.new HS.out hn); replace HN := Lib.hid (HN.out.trans hn); clear hn; have cp := HasS.at HS.out)
          | (refine wpList_ldM rfl 46 (.tmp 26) rfl fb fo rfl (cells6 x) _ (HX0.out _ HN.out) Tryd.underlying46 rfl (by rw [cells6_len]; exact infoI) ?_)
          | (go_at_call 14; refine (refMoves_any x.op x.d x.a x.b x.n x.t _).mono ?_; rw [hmv]; rintro e wx ⟨rfl, hn⟩; replace HS : Hid (HasS wx gs l s p q) := Lib.hid (HasC.new HS.out hn); replace HN := Lib.hid (HN.out.trans hn); clear hn)
          | (go_at_call 8; refine (knows_from _ HL.out HN.out).mono ?_; rintro e wk ⟨rfl, hnk⟩))
        go_ret
        exact ⟨rfl, hnk⟩
      | true =>
        have hst := stp_moves (f := f) (s := ⟨l, zs, p, q⟩) (by show movesB (insA f p).op = true; rw [HXE.out]; exact hmv) az
        obtain ⟨⟨⟨l2, z2, p2, q2⟩, es, how, val, oh⟩, HR⟩ : ∃ r, Hid (stp f ⟨l, zs, p, q⟩ az = r) := ⟨_, Lib.hid rfl⟩
        rw [HR.out] at hst
        obtain ⟨e3, e4, e1, e2⟩ := hst
        have e3' : 0 = how := e3.symm
        have e4' : [] = es := e4.symm
        subst e3' e4'
        clear e3 e4
        have e1' : zs = z2 := e1.symm
        have e2' : q = q2 := e2.symm
        subst e1' e2'
        clear e1 e2
        have HZ := Lib.hid hz1000
        clear hz1000
        go_enter Tryd.func4, Tryd.ntmps4
        go_wp2_with (first
          | (refine wpList_boxX rfl 28 (.tmp 1) rfl (cellsS l s p q) rfl ?_; intro wx gs hgs hls H1 hn1; have HS : Hid (HasS wx gs l s p q) := Lib.hid H1; have HN := Lib.hid hn1; clear H1 hn1 hls)
          | (refine wpList_ldSG rfl (.tmp 4) rfl gs rfl HS.out ?_)
          | (go_at_call 7; refine (great_is HN.out (HF.out.new HN.out) (HP.out.new HN.out) (HA.out.new HN.out) HG.out).mono ?_; rintro e wx ⟨rfl, hn⟩; replace HS : Hid (HasS wx gs l s p q) := Lib.hid (HasC.new HS.out hn); replace HN := Lib.hid (HN.out.trans hn); clear hn)
          | (go_at_call 11; refine (as_any l s p q _).mono ?_; rintro e wx ⟨as1, rfl, ha, hn⟩; have HAs := Lib.hid ha; clear ha; replace HS : Hid (HasS wx gs l s p q) := Lib.hid (HasC.new HS.out hn); replace HN := Lib.hid (HN.out.trans hn); clear hn)
          | (go_at_call 13; refine (refRight_any _ f ⟨l, zs, p, q⟩ as1 s _ (HF.out.new HN.out) (HP.out.new HN.out) HAs.out).mono ?_; rw [HM.out]; rintro e wx ⟨rfl, hn⟩; clear HAs; replace HS : Hid (HasS wx gs l s p q) := Lib.hid (HasC.new HS.out hn); replace HN := Lib.hid (HN.out.trans hn); clear hn; have cp := HasS.at HS.out)
          | (refine wpList_ldM rfl 46 (.tmp 26) rfl fb fo rfl (cells6 x) _ (HX0.out _ HN.out) Tryd.underlying46 rfl (by rw [cells6_len]; exact infoI) ?_)
          | (go_at_call 14; refine (refMoves_any x.op x.d x.a x.b x.n x.t _).mono ?_; rw [hmv]; rintro e wx ⟨rfl, hn⟩; replace HS : Hid (HasS wx gs l s p q) := Lib.hid (HasC.new HS.out hn); replace HN := Lib.hid (HN.out.trans hn); clear hn)
          | (go_at_call 9; refine (stepDo_is HL.out HN.out (HF.out.new HN.out) (HP.out.new HN.out) (HA.out.new HN.out) hal HM.out HR.out).mono ?_; rintro e wx ⟨s2, ve, so, rfl, h1, h2, h3, hn⟩; obtain ⟨eo, ec, e1⟩ := h2.form; subst e1; have HH2 := Lib.hid h1; have HE2 := Lib.hid h2; have HO2 := Lib.hid h3; clear h1 h2 h3; replace HS : Hid (HasS wx gs l s p q) := Lib.hid (HasC.new HS.out hn); replace HN := Lib.hid (HN.out.trans hn); clear hn)
          | (clear TX; refine wpList_alX rfl 28 rfl _ zeroS_run _ rfl ?_; intro wy gx hgx hlx H1 hn1; have HX : Hid (HasS wy gx noWs nilS 0 0) := Lib.hid H1; have dsx : gs ≠ gx := Nat.ne_of_lt (Nat.lt_of_lt_of_le (HasC.lt HS.out) hgx); clear H1 hlx)
          | (clear TO; refine wpList_alX rfl 33 rfl _ zeroO_run _ rfl ?_; intro wz go hgo hlo H1 hn2; have HO : Hid (HasO wz go 0 0 nilS) := Lib.hid H1; have dxo : gx ≠ go := Nat.ne_of_lt (Nat.lt_of_lt_of_le (HasC.lt HX.out) hgo); replace HX : Hid (HasS wz gx noWs nilS 0 0) := Lib.hid (HasC.new HX.out hn2); clear H1 hlo)
          | (refine wpList_stS rfl rfl (.tmp 7) (.tmp 37) rfl gx rfl (l := l2) (s := s2) (p := p2) (q := q) rfl HX.out ?_; intro wu H1 k1; replace HX : Hid (HasS wu gx l2 s2 p2 q) := Lib.hid H1; replace HO : Hid (HasO wu go 0 0 nilS) := Lib.hid (HasC.kept HO.out k1 (Ne.symm dxo)); have hn3 : New wx wu := k1.below wx hgx (hn1.trans hn2); clear H1 k1)
          | (refine wpList_stO rfl rfl (.tmp 9) (.tmp 39) rfl go rfl (0) (val) so rfl HO.out ?_; intro wv H1 k1; have hn : New wx wv := k1.below wx (Nat.le_trans hn1.size hgo) hn3; replace HO : Hid (HasO wv go (0) (val) so) := Lib.hid H1; replace HX : Hid (HasS wv gx l2 s2 p2 q) := Lib.hid (HasC.kept HX.out k1 dxo); replace HH2 := Lib.hid (HH2.out.new hn); replace HE2 := Lib.hid (HE2.out.new hn); replace HO2 := Lib.hid (HO2.out.new hn); clear H1 k1 hn1 hn2 hn3 hgx hgo; replace HS : Hid (HasS wv gs l s p q) := Lib.hid (HasC.new HS.out hn); replace HN := Lib.hid (HN.out.trans hn); clear hn; have x1 := HasS.hp HX.out; have x2 := HasS.at HX.out; have x3 := HasS.ask HX.out; have s1 := HasS.hp HS.out; have s3 := HasS.ask HS.out; have o1 := HasO.how HO.out; have o2 := HasO.val HO.out; have o3 := HasO.hp HO.out)
          | (go_at_call 15; refine (rsame_is HH2.out (HP.out.new HN.out) HZ.out (eqB_refl _)).mono ?_; rintro e wx ⟨rfl, hn⟩; have HQ := hn; replace HS : Hid (HasS wx gs l s p q) := Lib.hid (HasC.new HS.out hn); replace HN := Lib.hid (HN.out.trans hn); clear hn; have x3' := HasS.ask (HasC.new HX.out HQ); have s3' := HasS.ask HS.out)
          | (go_at_call 8; refine (knows_from _ HL.out HN.out).mono ?_; rintro e wk ⟨rfl, hnk⟩))
        go_ret
        exact ⟨rfl, hnk⟩
theorem stepMoves_law (v : Value) (f : List I) (l : Ws) (s : Sl) (p q : Int) (zs : List Int) (va : Value) (az : List Int) (w : World) (hf : FunAt w v f) (_hi : ∀ y ∈ f, In64I y) (_hm : f.length ≤ maxLen) (hp : Hp w (.slice s.ao s.n s.c) zs) (ha : RowAt w va (az.map (.int .i64))) (hl : Laid w) :
    Calls Tryd.prog 4 #[v, .agg (cellsS l s p q).toArray, va] w fun e w' => e = .returned (.bool true) ∧ New w w' := stepMoves_walk v f l s p q zs va az w hf hp ha hl
end Go.Proofs.YtfllkagbphgjlaaDoor
