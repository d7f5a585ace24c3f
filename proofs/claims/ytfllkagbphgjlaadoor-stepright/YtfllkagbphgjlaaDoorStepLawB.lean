/-
  'StepRight': what a step that goes on makes of a state is right again; what one that ends makes of it is that state: true, for every input.
-/
import Derived.Test.YtfllkagbphgjlaaDoorStepK
import Derived.Test.YtfllkagbphgjlaaDoorStepL
namespace Go.Proofs.YtfllkagbphgjlaaDoor
open Go.RowKit

set_option maxHeartbeats 16000000 in
set_option maxRecDepth 100000 in
theorem stepRight_walk (v : Value) (f : List I) (l : Ws) (s : Sl) (p q : Int) (zs : List Int) (va : Value) (az : List Int) (w : World) (hf : FunAt w v f) (hp : Hp w (.slice s.ao s.n s.c) zs) (ha : Hp w va az) (hl : Laid w) :
    Calls Tryd.prog 3 #[v, .agg (cellsS l s p q).toArray, va] w fun e w' => e = .returned (.bool true) ∧ New w w' := by
  obtain ⟨ao, fc, rfl⟩ := hf.form
  obtain ⟨bo, bc, rfl⟩ := ha.form
  have HL := Lib.hid hl
  have HF := Lib.hid hf
  have HP := Lib.hid hp
  have HA := Lib.hid ha
  have TX : Hid True := Lib.hid trivial
  have TO : Hid True := Lib.hid trivial
  clear hl hf hp ha
  cases hg : greatB f.length zs.length az.length with
  | true =>
    have HG := Lib.hid hg
    go_enter Tryd.func3, Tryd.ntmps3
    go_wp2_with (first
      | (refine wpList_boxX rfl 28 (.tmp 1) rfl (cellsS l s p q) rfl ?_; intro wx gs hgs hls H1 hn1; have HS : Hid (HasS wx gs l s p q) := Lib.hid H1; have HN := Lib.hid hn1; clear H1 hn1 hls)
      | (refine wpList_ldSG rfl (.tmp 4) rfl gs rfl HS.out ?_)
      | (go_at_call 7; refine (great_is HN.out (HF.out.new HN.out) (HP.out.new HN.out) (HA.out.new HN.out) HG.out).mono ?_; rintro e wx ⟨rfl, hn⟩; replace HS : Hid (HasS wx gs l s p q) := Lib.hid (HasC.new HS.out hn); replace HN := Lib.hid (HN.out.trans hn); clear hn)
      | (go_at_call 8; refine (knows_from _ HL.out HN.out).mono ?_; rintro e wk ⟨rfl, hnk⟩))
    go_ret
    exact ⟨rfl, hnk⟩
  | false =>
    have HG := Lib.hid hg
    have hng := not_great hg
    have hal : az.length ≤ 100000 := by omega
    have hz1000 : zs.length ≤ 1000 := by omega
    clear hg hng
    cases hm : mcB f ⟨l, zs, p, q⟩ with
    | false =>
      have HM := Lib.hid hm
      clear hm
      go_enter Tryd.func3, Tryd.ntmps3
      go_wp2_with (first
        | (refine wpList_boxX rfl 28 (.tmp 1) rfl (cellsS l s p q) rfl ?_; intro wx gs hgs hls H1 hn1; have HS : Hid (HasS wx gs l s p q) := Lib.hid H1; have HN := Lib.hid hn1; clear H1 hn1 hls)
        | (refine wpList_ldSG rfl (.tmp 4) rfl gs rfl HS.out ?_)
        | (go_at_call 7; refine (great_is HN.out (HF.out.new HN.out) (HP.out.new HN.out) (HA.out.new HN.out) HG.out).mono ?_; rintro e wx ⟨rfl, hn⟩; replace HS : Hid (HasS wx gs l s p q) := Lib.hid (HasC.new HS.out hn); replace HN := Lib.hid (HN.out.trans hn); clear hn)
        | (go_at_call 9; refine (stepDo_bad _ f ⟨l, zs, p, q⟩ s az _ _ (HL.out.new HN.out) (HF.out.new HN.out) (HP.out.new HN.out) (HA.out.new HN.out) HM.out).mono ?_; rintro e wx ⟨rfl, hn⟩; replace HS : Hid (HasS wx gs l s p q) := Lib.hid (HasC.new HS.out hn); replace HN := Lib.hid (HN.out.trans hn); clear hn)
        | (clear TX; refine wpList_alX rfl 28 rfl _ zeroS_run _ rfl ?_; intro wy gx hgx hlx H1 hn1; have HX : Hid (HasS wy gx noWs nilS 0 0) := Lib.hid H1; have dsx : gs ≠ gx := Nat.ne_of_lt (Nat.lt_of_lt_of_le (HasC.lt HS.out) hgx); clear H1 hlx)
        | (clear TO; refine wpList_alX rfl 33 rfl _ zeroO_run _ rfl ?_; intro wz go hgo hlo H1 hn2; have HO : Hid (HasO wz go 0 0 nilS) := Lib.hid H1; have dxo : gx ≠ go := Nat.ne_of_lt (Nat.lt_of_lt_of_le (HasC.lt HX.out) hgo); replace HX : Hid (HasS wz gx noWs nilS 0 0) := Lib.hid (HasC.new HX.out hn2); clear H1 hlo)
        | (refine wpList_stS rfl rfl (.tmp 7) (.tmp 21) rfl gx rfl (l := noWs) (s := nilS) (p := 0) (q := 0) rfl HX.out ?_; intro wu H1 k1; replace HX : Hid (HasS wu gx noWs nilS 0 0) := Lib.hid H1; replace HO : Hid (HasO wu go 0 0 nilS) := Lib.hid (HasC.kept HO.out k1 (Ne.symm dxo)); have hn3 : New wx wu := k1.below wx hgx (hn1.trans hn2); clear H1 k1)
        | (refine wpList_stO rfl rfl (.tmp 9) (.tmp 23) rfl go rfl (0) (0) nilS rfl HO.out ?_; intro wv H1 k1; have hn : New wx wv := k1.below wx (Nat.le_trans hn1.size hgo) hn3; replace HO : Hid (HasO wv go (0) (0) nilS) := Lib.hid H1; replace HX : Hid (HasS wv gx noWs nilS 0 0) := Lib.hid (HasC.kept HX.out k1 dxo); clear H1 k1 hn1 hn2 hn3 hgx hgo; replace HS : Hid (HasS wv gs l s p q) := Lib.hid (HasC.new HS.out hn); replace HN := Lib.hid (HN.out.trans hn); clear hn; have x1 := HasS.hp HX.out; have x2 := HasS.at HX.out; have x3 := HasS.ask HX.out; have s1 := HasS.hp HS.out; have s3 := HasS.ask HS.out; have o1 := HasO.how HO.out; have o2 := HasO.val HO.out; have o3 := HasO.hp HO.out)
        | (go_at_call 8; refine (knows_from _ HL.out HN.out).mono ?_; rintro e wk ⟨rfl, hnk⟩))
      go_ret
      exact ⟨rfl, hnk⟩
    | true =>
      have HM := Lib.hid hm
      obtain ⟨⟨⟨l2, z2, p2, q2⟩, es, how, val, oh⟩, HR⟩ : ∃ r, Hid (stp f ⟨l, zs, p, q⟩ az = r) := ⟨_, Lib.hid rfl⟩
      by_cases h0 : how = 0
      · have e0 : 0 = how := h0.symm
        subst e0
        have HM2 : Hid (mcB f ⟨l2, z2, p2, q2⟩ = true) := Lib.hid (by
          have := stp_right (az := az) hm (by rw [HR.out])
          rw [HR.out] at this
          exact this)
        have hev : es.length ≤ 1 := by
          have := stp_ev (f := f) (s := ⟨l, zs, p, q⟩) (az := az)
          rw [HR.out] at this
          exact this
        have hev' : (es.length : Int) ≤ 1 := by omega
        clear hm h0
        go_enter Tryd.func3, Tryd.ntmps3
        go_wp2_with (first
          | (refine wpList_boxX rfl 28 (.tmp 1) rfl (cellsS l s p q) rfl ?_; intro wx gs hgs hls H1 hn1; have HS : Hid (HasS wx gs l s p q) := Lib.hid H1; have HN := Lib.hid hn1; clear H1 hn1 hls)
          | (refine wpList_ldSG rfl (.tmp 4) rfl gs rfl HS.out ?_)
          | (go_at_call 7; refine (great_is HN.out (HF.out.new HN.out) (HP.out.new HN.out) (HA.out.new HN.out) HG.out).mono ?_; rintro e wx ⟨rfl, hn⟩; replace HS : Hid (HasS wx gs l s p q) := Lib.hid (HasC.new HS.out hn); replace HN := Lib.hid (HN.out.trans hn); clear hn)
          | (go_at_call 9; refine (stepDo_is HL.out HN.out (HF.out.new HN.out) (HP.out.new HN.out) (HA.out.new HN.out) hal HM.out HR.out).mono ?_; rintro e wx ⟨s2, ve, so, rfl, h1, h2, h3, hn⟩; obtain ⟨eo, ec, e1⟩ := h2.form; subst e1; have HH2 := Lib.hid h1; have HE2 := Lib.hid h2; have HO2 := Lib.hid h3; clear h1 h2 h3; replace HS : Hid (HasS wx gs l s p q) := Lib.hid (HasC.new HS.out hn); replace HN := Lib.hid (HN.out.trans hn); clear hn)
          | (clear TX; refine wpList_alX rfl 28 rfl _ zeroS_run _ rfl ?_; intro wy gx hgx hlx H1 hn1; have HX : Hid (HasS wy gx noWs nilS 0 0) := Lib.hid H1; have dsx : gs ≠ gx := Nat.ne_of_lt (Nat.lt_of_lt_of_le (HasC.lt HS.out) hgx); clear H1 hlx)
          | (clear TO; refine wpList_alX rfl 33 rfl _ zeroO_run _ rfl ?_; intro wz go hgo hlo H1 hn2; have HO : Hid (HasO wz go 0 0 nilS) := Lib.hid H1; have dxo : gx ≠ go := Nat.ne_of_lt (Nat.lt_of_lt_of_le (HasC.lt HX.out) hgo); replace HX : Hid (HasS wz gx noWs nilS 0 0) := Lib.hid (HasC.new HX.out hn2); clear H1 hlo)
          | (refine wpList_stS rfl rfl (.tmp 7) (.tmp 21) rfl gx rfl (l := l2) (s := s2) (p := p2) (q := q2) rfl HX.out ?_; intro wu H1 k1; replace HX : Hid (HasS wu gx l2 s2 p2 q2) := Lib.hid H1; replace HO : Hid (HasO wu go 0 0 nilS) := Lib.hid (HasC.kept HO.out k1 (Ne.symm dxo)); have hn3 : New wx wu := k1.below wx hgx (hn1.trans hn2); clear H1 k1)
          | (refine wpList_stO rfl rfl (.tmp 9) (.tmp 23) rfl go rfl (0) (val) so rfl HO.out ?_; intro wv H1 k1; have hn : New wx wv := k1.below wx (Nat.le_trans hn1.size hgo) hn3; replace HO : Hid (HasO wv go (0) (val) so) := Lib.hid H1; replace HX : Hid (HasS wv gx l2 s2 p2 q2) := Lib.hid (HasC.kept HX.out k1 dxo); replace HH2 := Lib.hid (HH2.out.new hn); replace HE2 := Lib.hid (HE2.out.new hn); replace HO2 := Lib.hid (HO2.out.new hn); clear H1 k1 hn1 hn2 hn3 hgx hgo; replace HS : Hid (HasS wv gs l s p q) := Lib.hid (HasC.new HS.out hn); replace HN := Lib.hid (HN.out.trans hn); clear hn; have x1 := HasS.hp HX.out; have x2 := HasS.at HX.out; have x3 := HasS.ask HX.out; have s1 := HasS.hp HS.out; have s3 := HasS.ask HS.out; have o1 := HasO.how HO.out; have o2 := HasO.val HO.out; have o3 := HasO.hp HO.out)
          | (refine wpList_ldSG rfl (.tmp 7) rfl gx rfl HX.out ?_)
          | (go_at_call 12; refine (stepRight_any _ f ⟨l2, z2, p2, q2⟩ s2 _ (HL.out.new HN.out) (HF.out.new HN.out) HH2.out).mono ?_; rw [HM2.out]; rintro e wx ⟨rfl, hn⟩; replace HS : Hid (HasS wx gs l s p q) := Lib.hid (HasC.new HS.out hn); replace HN := Lib.hid (HN.out.trans hn); clear hn)
          | (go_at_call 8; refine (knows_from _ HL.out HN.out).mono ?_; rintro e wk ⟨rfl, hnk⟩))
        go_ret
        exact ⟨rfl, hnk⟩
      · obtain ⟨e1, e2, e3, e4⟩ := stp_ends (az := az) hm (by rw [HR.out]; exact h0)
        rw [HR.out] at e1 e2 e3 e4
        simp only at e1 e2 e3 e4
        have e5 : [] = es := e2.symm
        subst e5
        simp only [Mc.mk.injEq] at e1
        obtain ⟨e6, e7, e8, e9⟩ := e1
        have e6' : l = l2 := e6.symm
        have e7' : zs = z2 := e7.symm
        have e8' : p = p2 := e8.symm
        have e9' : q = q2 := e9.symm
        subst e6' e7' e8' e9'
        have q0 : (how != 0) = true := by simpa using h0
        have HZ := Lib.hid hz1000
        clear hm h0 hz1000 e2 e6 e7 e8 e9
        go_enter Tryd.func3, Tryd.ntmps3
        go_wp2_with (first
          | (refine wpList_boxX rfl 28 (.tmp 1) rfl (cellsS l s p q) rfl ?_; intro wx gs hgs hls H1 hn1; have HS : Hid (HasS wx gs l s p q) := Lib.hid H1; have HN := Lib.hid hn1; clear H1 hn1 hls)
          | (refine wpList_ldSG rfl (.tmp 4) rfl gs rfl HS.out ?_)
          | (go_at_call 7; refine (great_is HN.out (HF.out.new HN.out) (HP.out.new HN.out) (HA.out.new HN.out) HG.out).mono ?_; rintro e wx ⟨rfl, hn⟩; replace HS : Hid (HasS wx gs l s p q) := Lib.hid (HasC.new HS.out hn); replace HN := Lib.hid (HN.out.trans hn); clear hn)
          | (go_at_call 9; refine (stepDo_is HL.out HN.out (HF.out.new HN.out) (HP.out.new HN.out) (HA.out.new HN.out) hal HM.out HR.out).mono ?_; rintro e wx ⟨s2, ve, so, rfl, h1, h2, h3, hn⟩; obtain ⟨eo, ec, e1⟩ := h2.form; subst e1; have HH2 := Lib.hid h1; have HE2 := Lib.hid h2; have HO2 := Lib.hid h3; clear h1 h2 h3; replace HS : Hid (HasS wx gs l s p q) := Lib.hid (HasC.new HS.out hn); replace HN := Lib.hid (HN.out.trans hn); clear hn)
          | (clear TX; refine wpList_alX rfl 28 rfl _ zeroS_run _ rfl ?_; intro wy gx hgx hlx H1 hn1; have HX : Hid (HasS wy gx noWs nilS 0 0) := Lib.hid H1; have dsx : gs ≠ gx := Nat.ne_of_lt (Nat.lt_of_lt_of_le (HasC.lt HS.out) hgx); clear H1 hlx)
          | (clear TO; refine wpList_alX rfl 33 rfl _ zeroO_run _ rfl ?_; intro wz go hgo hlo H1 hn2; have HO : Hid (HasO wz go 0 0 nilS) := Lib.hid H1; have dxo : gx ≠ go := Nat.ne_of_lt (Nat.lt_of_lt_of_le (HasC.lt HX.out) hgo); replace HX : Hid (HasS wz gx noWs nilS 0 0) := Lib.hid (HasC.new HX.out hn2); clear H1 hlo)
          | (refine wpList_stS rfl rfl (.tmp 7) (.tmp 21) rfl gx rfl (l := l) (s := s2) (p := p) (q := q) rfl HX.out ?_; intro wu H1 k1; replace HX : Hid (HasS wu gx l s2 p q) := Lib.hid H1; replace HO : Hid (HasO wu go 0 0 nilS) := Lib.hid (HasC.kept HO.out k1 (Ne.symm dxo)); have hn3 : New wx wu := k1.below wx hgx (hn1.trans hn2); clear H1 k1)
          | (refine wpList_stO rfl rfl (.tmp 9) (.tmp 23) rfl go rfl (how) (val) so rfl HO.out ?_; intro wv H1 k1; have hn : New wx wv := k1.below wx (Nat.le_trans hn1.size hgo) hn3; replace HO : Hid (HasO wv go (how) (val) so) := Lib.hid H1; replace HX : Hid (HasS wv gx l s2 p q) := Lib.hid (HasC.kept HX.out k1 dxo); replace HH2 := Lib.hid (HH2.out.new hn); replace HE2 := Lib.hid (HE2.out.new hn); replace HO2 := Lib.hid (HO2.out.new hn); clear H1 k1 hn1 hn2 hn3 hgx hgo; replace HS : Hid (HasS wv gs l s p q) := Lib.hid (HasC.new HS.out hn); replace HN := Lib.hid (HN.out.trans hn); clear hn; have x1 := HasS.hp HX.out; have x2 := HasS.at HX.out; have x3 := HasS.ask HX.out; have s1 := HasS.hp HS.out; have s3 := HasS.ask HS.out; have o1 := HasO.how HO.out; have o2 := HasO.val HO.out; have o3 := HasO.hp HO.out))
        have o1' : ∀ y : NewW wv, y.val.cell? ⟨go, 0, none⟩ = some (.int .i64 how) := fun y => HasO.how (HasC.new HO.out y.property)
        have S0 : Hid (New wv wv.drew) := Lib.hid ((New.refl wv).drew)
        have HLV := HL.out.new HN.out
        have hne := newW_any wv
        refine wp_region_noPanic ?_
        refine wp_region_held_drew (S := fun w' => New wv w') (by kernel_rfl) S0.out (fun _ => ?_)
        refine wpAnyH_take (i := 0) rfl (by kernel_rfl) (by kernel_rfl) (by kernel_rfl) (fun _ _ _ h => h) (ldS_if rfl (.tmp 7) rfl gx rfl (fun w' h => HasC.new HX.out h)) S0.out ?_
        simp only [List.getElem_toArray, List.getElem_cons_zero, Act.put, List.setIfInBounds_toArray, List.set_cons_zero, List.set_cons_succ]
        refine wpAnyH_take (i := 2) rfl (by kernel_rfl) (by kernel_rfl) (by kernel_rfl) (fun _ _ _ h => h) (ldS_if rfl (.tmp 4) rfl gs rfl (fun w' h => HasC.new HS.out h)) S0.out ?_
        simp only [List.getElem_toArray, List.getElem_cons_zero, List.getElem_cons_succ, Act.put, List.setIfInBounds_toArray, List.set_cons_zero, List.set_cons_succ]
        refine wpAnyH_call (i := 1) rfl rfl (by kernel_rfl) 11 #[.agg (cellsS l s2 p q).toArray] (by go_simp) ?_
        refine (as_any l s2 p q _).mono ?_
        rintro e w1 ⟨a1, rfl, ha1, hn1⟩
        have N1 := Lib.hid (S0.out.trans hn1)
        have HA1 := Lib.hid ha1
        refine ⟨_, rfl, N1.out, ?_⟩
        simp only [List.getElem_toArray, List.getElem_cons_zero, List.getElem_cons_succ, Act.put, List.setIfInBounds_toArray, List.set_cons_zero, List.set_cons_succ]
        refine wpAnyH_call (i := 3) rfl rfl (by kernel_rfl) 11 #[.agg (cellsS l s p q).toArray] (by go_simp) ?_
        refine (as_any l s p q _).mono ?_
        rintro e w2 ⟨a2, rfl, ha2, hn2⟩
        have N2 := Lib.hid (N1.out.trans hn2)
        have HA2 := Lib.hid ha2
        replace HA1 := Lib.hid (HA1.out.new hn2)
        refine ⟨_, rfl, N2.out, ?_⟩
        simp only [List.getElem_toArray, List.getElem_cons_zero, List.getElem_cons_succ, Act.put, List.setIfInBounds_toArray, List.set_cons_zero, List.set_cons_succ]
        refine wpAnyH_call (i := 4) rfl rfl (by kernel_rfl) 10 #[.agg (refC a1 s2 p q).toArray, .agg (refC a2 s p q).toArray] (by go_simp) ?_
        refine (refSame_any l l (fun _ _ => rfl) zs p q a1 s2 a2 s _ HA1.out HA2.out (HH2.out.new N2.out) ((HP.out.new HN.out).new N2.out) HZ.out).mono ?_
        rintro e w3 ⟨rfl, hn3⟩
        have N3 := Lib.hid (N2.out.trans hn3)
        refine ⟨_, rfl, N3.out, ?_⟩
        simp only [List.getElem_toArray, List.getElem_cons_zero, List.getElem_cons_succ, Act.put, List.setIfInBounds_toArray, List.set_cons_zero, List.set_cons_succ]
        refine wpAnyH_rest 5 rfl (by kernel_rfl) (by kernel_rfl) N3.out ?_
        simp only [List.drop_succ_cons, List.drop_zero]
        clear hn1 ha1 hn2 ha2 hn3 HA1 HA2
        repeat (go_big_quiet_step (first | (go_at_call 8; exact quiet_new (knows_from _ HLV (Subtype.property _)))))
        refine wpQuiet_nil ?_
        intro w4 h4
        refine NoPanic.normal ?_
        go_wp2
        go_ret
        exact ⟨rfl, HN.out.trans h4⟩
theorem stepRight_law (v : Value) (f : List I) (l : Ws) (s : Sl) (p q : Int) (zs : List Int) (va : Value) (az : List Int) (w : World) (hf : FunAt w v f) (_hi : ∀ y ∈ f, In64I y) (_hm : f.length ≤ maxLen) (hp : Hp w (.slice s.ao s.n s.c) zs) (ha : RowAt w va (az.map (.int .i64))) (hl : Laid w) :
    Calls Tryd.prog 3 #[v, .agg (cellsS l s p q).toArray, va] w fun e w' => e = .returned (.bool true) ∧ New w w' := stepRight_walk v f l s p q zs va az w hf hp ha hl
end Go.Proofs.YtfllkagbphgjlaaDoor
