/-
  'StepHeaps': no step changes how many words the heap has; and only a Store changes one, at most one: true, for every input.
-/
import Derived.Test.YtfllkagbphgjlaaDoorStepK
import Derived.Test.YtfllkagbphgjlaaDoorStepL
namespace Go.Proofs.YtfllkagbphgjlaaDoor
open Go.RowKit

/-- How many of the first k words are unlike. -/
def difN (xs ys : List Int) : Nat → Nat
  | 0 => 0
  | k + 1 => difN xs ys k + (if xs[k]? = ys[k]? then 0 else 1)
theorem difN_same (xs : List Int) : ∀ k, difN xs xs k = 0
  | 0 => rfl
  | k + 1 => by rw [difN, difN_same xs k, if_pos rfl]
theorem difN_le (xs ys : List Int) : ∀ k, difN xs ys k ≤ k
  | 0 => Nat.le_refl _
  | k + 1 => by
    have := difN_le xs ys k
    rw [difN]
    split <;> omega
theorem difN_set (ys : List Int) (i : Nat) (v : Int) : ∀ k, difN (ys.set i v) ys k ≤ (if i < k then 1 else 0)
  | 0 => Nat.zero_le _
  | k + 1 => by
    have := difN_set ys i v k
    rw [difN]
    by_cases e : k = i
    · subst e
      rw [if_neg (Nat.lt_irrefl _)] at this
      rw [if_pos (Nat.lt_succ_self _)]
      split <;> omega
    · rw [if_pos (by rw [List.getElem?_set_ne (Ne.symm e)])]
      split at this <;> split <;> omega
theorem dif_two {f : List I} {s : Mc} {az : List Int} (h : mcB f s = true) : (stp f s az).s.h.length = s.h.length ∧ (difN (stp f s az).s.h s.h s.h.length = 0 ∨ (difN (stp f s az).s.h s.h s.h.length = 1 ∧ (insA f s.p).op = 14)) := by
  rcases stp_heap (az := az) h with e | ⟨e14, k, v, e⟩
  · rw [e]
    exact ⟨rfl, .inl (difN_same _ _)⟩
  · rw [e]
    refine ⟨List.length_set, ?_⟩
    have := difN_set s.h k v s.h.length
    have h1 : difN (s.h.set k v) s.h s.h.length ≤ 1 := by split at this <;> omega
    rcases Nat.lt_or_ge (difN (s.h.set k v) s.h s.h.length) 1 with h2 | h2
    · exact .inl (by omega)
    · exact .inr ⟨by omega, e14⟩
set_option maxHeartbeats 16000000 in
set_option maxRecDepth 100000 in
theorem stepHeaps_walk (v : Value) (f : List I) (l : Ws) (s : Sl) (p q : Int) (zs : List Int) (va : Value) (az : List Int) (w : World) (hf : FunAt w v f) (hp : Hp w (.slice s.ao s.n s.c) zs) (ha : Hp w va az) (hl : Laid w) :
    Calls Tryd.prog 6 #[v, .agg (cellsS l s p q).toArray, va] w fun e w' => e = .returned (.bool true) ∧ New w w' := by
  obtain ⟨ao, fc, rfl⟩ := hf.form
  obtain ⟨bo, bc, rfl⟩ := ha.form
  have HL := Lib.hid hl
  have HF := Lib.hid hf
  have HP := Lib.hid hp
  have HA := Lib.hid ha
  have TX : Hid True := Lib.hid trivial
  have TO : Hid True := Lib.hid trivial
  clear hl hf hp ha
  cases hg : greatB f.length zs.length az.length with
  | true =>
    have HG := Lib.hid hg
    go_enter Tryd.func6, Tryd.ntmps6
    go_wp2_with (first
      | (refine wpList_boxX rfl 28 (.tmp 1) rfl (cellsS l s p q) rfl ?_; intro wx gs hgs hls H1 hn1; have HS : Hid (HasS wx gs l s p q) := Lib.hid H1; have HN := Lib.hid hn1; clear H1 hn1 hls)
      | (refine wpList_ldSG rfl (.tmp 4) rfl gs rfl HS.out ?_)
      | (go_at_call 7; refine (great_is HN.out (HF.out.new HN.out) (HP.out.new HN.out) (HA.out.new HN.out) HG.out).mono ?_; rintro e wx ⟨rfl, hn⟩; replace HS : Hid (HasS wx gs l s p q) := Lib.hid (HasC.new HS.out hn); replace HN := Lib.hid (HN.out.trans hn); clear hn)
      | (go_at_call 8; refine (knows_from _ HL.out HN.out).mono ?_; rintro e wk ⟨rfl, hnk⟩))
    go_ret
    exact ⟨rfl, hnk⟩
  | false =>
    have HG := Lib.hid hg
    have hng := not_great hg
    have hal : az.length ≤ 100000 := by omega
    clear hg hng
    cases hm : mcB f ⟨l, zs, p, q⟩ with
    | false =>
      have HM := Lib.hid hm
      clear hm
      go_enter Tryd.func6, Tryd.ntmps6
      go_wp2_with (first
        | (refine wpList_boxX rfl 28 (.tmp 1) rfl (cellsS l s p q) rfl ?_; intro wx gs hgs hls H1 hn1; have HS : Hid (HasS wx gs l s p q) := Lib.hid H1; have HN := Lib.hid hn1; clear H1 hn1 hls)
        | (refine wpList_ldSG rfl (.tmp 4) rfl gs rfl HS.out ?_)
        | (go_at_call 7; refine (great_is HN.out (HF.out.new HN.out) (HP.out.new HN.out) (HA.out.new HN.out) HG.out).mono ?_; rintro e wx ⟨rfl, hn⟩; replace HS : Hid (HasS wx gs l s p q) := Lib.hid (HasC.new HS.out hn); replace HN := Lib.hid (HN.out.trans hn); clear hn)
        | (go_at_call 11; refine (as_any l s p q _).mono ?_; rintro e wx ⟨as1, rfl, ha, hn⟩; have HAs := Lib.hid ha; clear ha; replace HS : Hid (HasS wx gs l s p q) := Lib.hid (HasC.new HS.out hn); replace HN := Lib.hid (HN.out.trans hn); clear hn)
        | (go_at_call 13; refine (refRight_any _ f ⟨l, zs, p, q⟩ as1 s _ (HF.out.new HN.out) (HP.out.new HN.out) HAs.out).mono ?_; rw [HM.out]; rintro e wx ⟨rfl, hn⟩; clear HAs; replace HS : Hid (HasS wx gs l s p q) := Lib.hid (HasC.new HS.out hn); replace HN := Lib.hid (HN.out.trans hn); clear hn; have cp := HasS.at HS.out)
        | (go_at_call 8; refine (knows_from _ HL.out HN.out).mono ?_; rintro e wk ⟨rfl, hnk⟩))
      go_ret
      exact ⟨rfl, hnk⟩
    | true =>
      have HM := Lib.hid hm
      obtain ⟨⟨⟨l2, z2, p2, q2⟩, es, how, val, oh⟩, HR⟩ : ∃ r, Hid (stp f ⟨l, zs, p, q⟩ az = r) := ⟨_, Lib.hid rfl⟩
      have hd := dif_two (az := az) hm
      rw [HR.out] at hd
      simp only at hd
      obtain ⟨hlen, hdif⟩ := hd
      have h16 : zs.length ≤ 16 := (mc_iff.mp hm).2.2.2.1
      have hsn : s.n = zs.length := HP.out.len
      obtain ⟨so1, sn1, sc1⟩ := s
      have hsn' : sn1 = zs.length := hsn
      clear hm hsn
      obtain ⟨fb, fo, x, ex, hix, hrg⟩ := FunAt.ix HF.out (i := p.toNat) (by have h1 := (mc_iff.mp HM.out).2.1; have h2 := (mc_iff.mp HM.out).2.2.1; simp only at h1 h2; omega)
      rw [show ((p.toNat : Nat) : Int) = p from by have h1 := (mc_iff.mp HM.out).2.1; simp only at h1; omega] at hix
      have hxe : insA f p = x := by
        unfold insA
        rw [List.getD_eq_getElem?_getD, ex]
        rfl
      have HX0 := Lib.hid hrg
      have HXE := Lib.hid hxe
      clear hrg hxe ex
      have HLN := Lib.hid hlen
      have HSN := Lib.hid hsn'
      have n16 : sn1 ≤ 16 := by omega
      clear hlen hsn' h16
      go_enter Tryd.func6, Tryd.ntmps6
      go_wp2_with (first
        | (refine wpList_boxX rfl 28 (.tmp 1) rfl (cellsS l ⟨so1, sn1, sc1⟩ p q) rfl ?_; intro wx gs hgs hls H1 hn1; have HS : Hid (HasS wx gs l ⟨so1, sn1, sc1⟩ p q) := Lib.hid H1; have HN := Lib.hid hn1; clear H1 hn1 hls)
        | (refine wpList_ldSG rfl (.tmp 4) rfl gs rfl HS.out ?_)
        | (go_at_call 7; refine (great_is HN.out (HF.out.new HN.out) (HP.out.new HN.out) (HA.out.new HN.out) HG.out).mono ?_; rintro e wx ⟨rfl, hn⟩; replace HS : Hid (HasS wx gs l ⟨so1, sn1, sc1⟩ p q) := Lib.hid (HasC.new HS.out hn); replace HN := Lib.hid (HN.out.trans hn); clear hn)
        | (go_at_call 11; refine (as_any l ⟨so1, sn1, sc1⟩ p q _).mono ?_; rintro e wx ⟨as1, rfl, ha, hn⟩; have HAs := Lib.hid ha; clear ha; replace HS : Hid (HasS wx gs l ⟨so1, sn1, sc1⟩ p q) := Lib.hid (HasC.new HS.out hn); replace HN := Lib.hid (HN.out.trans hn); clear hn)
        | (go_at_call 13; refine (refRight_any _ f ⟨l, zs, p, q⟩ as1 ⟨so1, sn1, sc1⟩ _ (HF.out.new HN.out) (HP.out.new HN.out) HAs.out).mono ?_; rw [HM.out]; rintro e wx ⟨rfl, hn⟩; clear HAs; replace HS : Hid (HasS wx gs l ⟨so1, sn1, sc1⟩ p q) := Lib.hid (HasC.new HS.out hn); replace HN := Lib.hid (HN.out.trans hn); clear hn; have cp := HasS.at HS.out)
        | (go_at_call 9; refine (stepDo_is HL.out HN.out (HF.out.new HN.out) (HP.out.new HN.out) (HA.out.new HN.out) hal HM.out HR.out).mono ?_; rintro e wx ⟨s2, ve, so, rfl, h1, h2, h3, hn⟩; obtain ⟨xo, xn, xc⟩ := s2; have h1n : xn = z2.length := h1.len; have h1n' : sn1 = xn := HSN.out.trans (HLN.out.symm.trans h1n.symm); subst h1n'; obtain ⟨eo, ec, e1⟩ := h2.form; subst e1; have HH2 := Lib.hid h1; clear h1n; have HE2 := Lib.hid h2; have HO2 := Lib.hid h3; clear h1 h2 h3; replace HS : Hid (HasS wx gs l ⟨so1, sn1, sc1⟩ p q) := Lib.hid (HasC.new HS.out hn); replace HN := Lib.hid (HN.out.trans hn); clear hn)
        | (clear TX; refine wpList_alX rfl 28 rfl _ zeroS_run _ rfl ?_; intro wy gx hgx hlx H1 hn1; have HX : Hid (HasS wy gx noWs nilS 0 0) := Lib.hid H1; have dsx : gs ≠ gx := Nat.ne_of_lt (Nat.lt_of_lt_of_le (HasC.lt HS.out) hgx); clear H1 hlx)
        | (clear TO; refine wpList_alX rfl 33 rfl _ zeroO_run _ rfl ?_; intro wz go hgo hlo H1 hn2; have HO : Hid (HasO wz go 0 0 nilS) := Lib.hid H1; have dxo : gx ≠ go := Nat.ne_of_lt (Nat.lt_of_lt_of_le (HasC.lt HX.out) hgo); replace HX : Hid (HasS wz gx noWs nilS 0 0) := Lib.hid (HasC.new HX.out hn2); clear H1 hlo)
        | (refine wpList_stS rfl rfl (.tmp 7) (.tmp 30) rfl gx rfl (l := l2) (s := ⟨xo, sn1, xc⟩) (p := p2) (q := q2) rfl HX.out ?_; intro wu H1 k1; replace HX : Hid (HasS wu gx l2 ⟨xo, sn1, xc⟩ p2 q2) := Lib.hid H1; replace HO : Hid (HasO wu go 0 0 nilS) := Lib.hid (HasC.kept HO.out k1 (Ne.symm dxo)); have hn3 : New wx wu := k1.below wx hgx (hn1.trans hn2); clear H1 k1)
        | (refine wpList_stO rfl rfl (.tmp 9) (.tmp 32) rfl go rfl (how) (val) so rfl HO.out ?_; intro wv H1 k1; have hn : New wx wv := k1.below wx (Nat.le_trans hn1.size hgo) hn3; replace HO : Hid (HasO wv go (how) (val) so) := Lib.hid H1; replace HX : Hid (HasS wv gx l2 ⟨xo, sn1, xc⟩ p2 q2) := Lib.hid (HasC.kept HX.out k1 dxo); replace HH2 := Lib.hid (HH2.out.new hn); replace HE2 := Lib.hid (HE2.out.new hn); replace HO2 := Lib.hid (HO2.out.new hn); clear H1 k1 hn1 hn2 hn3 hgx hgo; replace HS : Hid (HasS wv gs l ⟨so1, sn1, sc1⟩ p q) := Lib.hid (HasC.new HS.out hn); replace HN := Lib.hid (HN.out.trans hn); clear hn; have x1 := HasS.hp HX.out; have x2 := HasS.at HX.out; have x3 := HasS.ask HX.out; have s1 := HasS.hp HS.out; have s3 := HasS.ask HS.out; have o1 := HasO.how HO.out; have o2 := HasO.val HO.out; have o3 := HasO.hp HO.out))
      have hdif' : difN z2 zs sn1 = 0 ∨ (difN z2 zs sn1 = 1 ∧ x.op = 14) := by rw [HSN.out, ← HXE.out]; exact hdif
      have HD := Lib.hid hdif'
      clear hdif hdif'
      go_loopw [11, 12] (fun cv iv wr => ∃ k : Nat, iv = .int .i64 k ∧ cv = .int .i64 (difN z2 zs k : Nat) ∧ k ≤ sn1 ∧ Hid (New wv wr)) (fun _ iv _ => sn1 - (intOf iv).toNat)
      case atStart => exact ⟨0, rfl, rfl, by omega, Lib.hid (New.refl _)⟩
      case round =>
        obtain ⟨k, rfl, rfl, hk, HW⟩ := hrel
        have y0 := HasS.hp (HasC.new HS.out HW.out)
        have y9 := HasS.at (HasC.new HS.out HW.out)
        by_cases hlt : k < sn1
        · have hlt' : (k : Int) < (sn1 : Int) := by omega
          obtain ⟨a1, x1, e1, i1, r1⟩ := Hp.ix HH2.out (i := k) (by rw [HLN.out, ← HSN.out]; exact hlt)
          obtain ⟨a2, x2, e2, i2, r2⟩ := Hp.ix (HP.out.new HN.out) (i := k) (by rw [← HSN.out]; exact hlt)
          have hne := newW_any wr
          have z1 : ∀ y : NewW wr, y.val.cell? ⟨gx, 48, none⟩ = some (.slice xo sn1 xc) := fun y => HasS.hp (HasC.new HX.out (HW.out.trans y.property))
          have z2' : ∀ y : NewW wr, y.val.cell? ⟨gs, 48, none⟩ = some (.slice so1 sn1 sc1) := fun y => HasS.hp (HasC.new HS.out (HW.out.trans y.property))
          have z3 : ∀ y : NewW wr, y.val.cell? a1 = some (.int .i64 x1) := fun y => r1 _ (HW.out.trans y.property)
          have z4 : ∀ y : NewW wr, y.val.cell? a2 = some (.int .i64 x2) := fun y => r2 _ (HW.out.trans y.property)
          have hdk := difN_le z2 zs k
          have hds : difN z2 zs (k + 1) = difN z2 zs k + (if z2[k]? = zs[k]? then 0 else 1) := rfl
          rw [e1, e2] at hds
          clear e1 e2 r1 r2
          by_cases he : x1 = x2
          · have qe : (x1 != x2) = false := by simpa using he
            rw [if_pos (by rw [he])] at hds
            have HDS := Lib.hid hds
            clear he hds
            go_wp2_with fail
            refine wp_region_new (New.refl wr) (by kernel_rfl) (by kernel_rfl) ?_
            repeat (go_big_quiet_step (first | fail))
            refine wpQuiet_nil ?_
            intro w5 hn5
            go_wp2
            go_roundw
            case rel => exact ⟨k + 1, by go_num, by rw [HDS.out]; rfl, hlt, Lib.hid (HW.out.trans hn5)⟩
            case measure => simp [intOf]; omega
          · have qe : (x1 != x2) = true := by simpa using he
            rw [if_neg (by simpa using he)] at hds
            have HDS := Lib.hid hds
            clear he hds
            go_wp2_with fail
            refine wp_region_new (New.refl wr) (by kernel_rfl) (by kernel_rfl) ?_
            repeat (go_big_quiet_step (first | fail))
            refine wpQuiet_nil ?_
            intro w5 hn5
            go_wp2
            go_roundw
            case rel => exact ⟨k + 1, by go_num, by rw [HDS.out]; go_num, hlt, Lib.hid (HW.out.trans hn5)⟩
            case measure => simp [intOf]; omega
        · obtain rfl : k = sn1 := by omega
          have hlt' : ¬ (k : Int) < (k : Int) := by omega
          have f0 := (HX0.out _ (HN.out.trans HW.out)) 0 _ rfl
          rw [Nat.add_zero] at f0
          replace HN := Lib.hid (HN.out.trans HW.out)
          rcases HD.out with e0 | ⟨e1, e14⟩
          · rw [e0]
            go_wp2_with ((go_at_call 8; refine (knows_from _ HL.out HN.out).mono ?_; rintro e wk ⟨rfl, hnk⟩))
            go_ret
            exact ⟨rfl, hnk⟩
          · rw [e1]
            rw [e14] at f0
            go_wp2_with ((go_at_call 8; refine (knows_from _ HL.out HN.out).mono ?_; rintro e wk ⟨rfl, hnk⟩))
            go_ret
            exact ⟨rfl, hnk⟩
theorem stepHeaps_law (v : Value) (f : List I) (l : Ws) (s : Sl) (p q : Int) (zs : List Int) (va : Value) (az : List Int) (w : World) (hf : FunAt w v f) (_hi : ∀ y ∈ f, In64I y) (_hm : f.length ≤ maxLen) (hp : Hp w (.slice s.ao s.n s.c) zs) (ha : RowAt w va (az.map (.int .i64))) (hl : Laid w) :
    Calls Tryd.prog 6 #[v, .agg (cellsS l s p q).toArray, va] w fun e w' => e = .returned (.bool true) ∧ New w w' := stepHeaps_walk v f l s p q zs va az w hf hp ha hl
end Go.Proofs.YtfllkagbphgjlaaDoor
