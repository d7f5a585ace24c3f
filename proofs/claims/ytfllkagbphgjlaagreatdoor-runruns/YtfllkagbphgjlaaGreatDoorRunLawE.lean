/-
  'RunRuns': the trace and the state of a run are those that the document says, or the error is told: true, for every input.
-/
import Derived.Test.YtfllkagbphgjlaaGreatDoorRunK
import Derived.Test.YtfllkagbphgjlaaGreatDoorCaseOpen
import Derived.Test.YtfllkagbphgjlaaGreatDoorRunL
import Derived.Test.YtfllkagbphgjlaaGreatDoorRunG
namespace Go.Proofs.YtfllkagbphgjlaaGreatDoor
open Go.RowKit

set_option maxHeartbeats 16000000 in
set_option maxRecDepth 100000 in
theorem runRuns_law (v : Value) (f : List I) (rs : Nat → Int) (h a : Sl) (n : Int) (zs az : List Int) (w : World) (hf : FunAt w v f) (_hi : ∀ y ∈ f, In64I y) (_hm : f.length ≤ maxLen) (hh : Hp w (.slice h.ao h.n h.c) zs) (ha : Hp w (.slice a.ao a.n a.c) az) (_ht : Tame (.slice a.ao a.n a.c)) (hl : Laid w) :
    Calls Tryz.prog 5 #[v, .agg (caC rs h a n).toArray] w fun e w' => e = .returned (.bool true) ∧ New w w' := by
  obtain ⟨fo, fc, rfl⟩ := hf.form
  have HL := Lib.hid hl
  have HF := Lib.hid hf
  have HH : Hid (Hp w (svS h) zs) := Lib.hid hh
  have HA : Hid (Hp w (svS a) az) := Lib.hid ha
  clear hl hf hh ha
  cases hg : grR f.length zs.length az.length n with
  | true =>
    have HG := Lib.hid hg
    clear hg
    go_enter Tryz.func5, Tryz.ntmps5
    have Tk1 : Hid True := Lib.hid trivial
    have Tk2 : Hid True := Lib.hid trivial
    go_wp2_with (first
      | (go_at_call 21; refine (gr_is HN.out (HF.out.new HN.out) (HH.out.new HN.out) (HA.out.new HN.out) HG.out).mono ?_; rintro e wx ⟨rfl, hn⟩; replace HK : Hid (HasK wx g3 rs h a n) := Lib.hid (HasC.new HK.out hn); replace HN := Lib.hid (HN.out.trans hn); clear hn)
      | (go_at_call 22; refine (knows8_from _ HL.out HN.out).mono ?_; rintro e wk ⟨rfl, hnk⟩)
      | (clear Tk1; refine wpList_boxX rfl 51 (.tmp 1) rfl (caC rs h a n) rfl ?_; intro wx g3 hg3 hl3 H1 hn1; have HK : Hid (HasK wx g3 rs h a n) := Lib.hid H1; have HN := Lib.hid hn1; clear H1 hn1 hl3)
      | (clear Tk2; refine wpList_ldK (by rfl) (.tmp 3) rfl g3 rfl HK.out ?_))
    go_ret
    exact ⟨rfl, hnk⟩
  | false =>
    have HG := Lib.hid hg
    have hng := of_decide_eq_false hg
    clear hg
    cases hfb : fairB f zs az n with
    | false =>
      have HFB := Lib.hid hfb
      clear hfb
      have HZK : Hid (zs.length ≤ 1000) := Lib.hid (by omega)
      have HHN : Hid (h.n ≤ 1000) := Lib.hid (by have e : h.n = zs.length := Hp.len HH.out; omega)
      obtain ⟨cb, HCB⟩ : ∃ cb, Hid (caseN h.n a.n n = cb) := ⟨_, Lib.hid rfl⟩
      go_enter Tryz.func5, Tryz.ntmps5
      have Tk1 : Hid True := Lib.hid trivial
      have Tk2 : Hid True := Lib.hid trivial
      have Tk3 : Hid True := Lib.hid trivial
      have Tk4 : Hid True := Lib.hid trivial
      have Tk5 : Hid True := Lib.hid trivial
      have Tk6 : Hid True := Lib.hid trivial
      have Tk7 : Hid True := Lib.hid trivial
      go_wp2_with (first
        | (go_at_call 21; refine (gr_is HN.out (HF.out.new HN.out) (HH.out.new HN.out) (HA.out.new HN.out) HG.out).mono ?_; rintro e wx ⟨rfl, hn⟩; replace HK : Hid (HasK wx g3 rs h a n) := Lib.hid (HasC.new HK.out hn); replace HN := Lib.hid (HN.out.trans hn); clear hn)
        | (go_at_call 23; refine (run_bad HL.out HN.out (HF.out.new HN.out) (HH.out.new HN.out) (HA.out.new HN.out) HFB.out).mono ?_; rintro e wx ⟨rfl, hn⟩; replace HK : Hid (HasK wx g3 rs h a n) := Lib.hid (HasC.new HK.out hn); replace HN := Lib.hid (HN.out.trans hn); clear hn)
        | (clear Tk1; refine wpList_boxX rfl 51 (.tmp 1) rfl (caC rs h a n) rfl ?_; intro wx g3 hg3 hl3 H1 hn1; have HK : Hid (HasK wx g3 rs h a n) := Lib.hid H1; have HN := Lib.hid hn1; clear H1 hn1 hl3)
        | (clear Tk2; refine wpList_ldK (by rfl) (.tmp 3) rfl g3 rfl HK.out ?_)
        | (clear Tk3; refine wpList_ldK (by rfl) (.tmp 3) rfl g3 rfl HK.out ?_)
        | (clear Tk4; refine wpList_alX rfl 54 rfl _ zeroT_run _ rfl ?_; intro wy g5 hgT hlT H1 hn1; have A5 : Hid (HasTr wy g5 nilS 0 0 nilS 0 0) := Lib.hid H1; clear H1)
        | (clear Tk5; refine wpList_alX rfl 28 rfl _ zeroS_run _ rfl ?_; intro wz g6 hgS hlS H1 hn2; have A6 : Hid (HasS wz g6 noWs nilS 0 0) := Lib.hid H1; have dTS : g5 < g6 := Nat.lt_of_lt_of_le hlT hgS; replace A5 : Hid (HasTr wz g5 nilS 0 0 nilS 0 0) := Lib.hid (HasC.new A5.out hn2); clear H1)
        | (clear Tk6; refine wpList_stTr rfl rfl (.tmp 5) (.tmp 18) rfl g5 rfl nilS 0 0 nilS 0 0 rfl A5.out ?_; intro wu H1 k1; replace A5 : Hid (HasTr wu g5 nilS 0 0 nilS 0 0) := Lib.hid H1; replace A6 : Hid (HasS wu g6 noWs nilS 0 0) := Lib.hid (HasC.kept A6.out k1 (Nat.ne_of_gt dTS)); have hn3 : New wx wu := k1.below wx hgT (hn1.trans hn2); clear H1 k1)
        | (clear Tk7; refine wpList_stS rfl rfl (.tmp 6) (.tmp 19) rfl g6 rfl (l := noWs) (s := nilS) (p := 0) (q := 0) rfl A6.out ?_; intro wv H1 k1; have hn : New wx wv := k1.below wx (Nat.le_trans hn1.size hgS) hn3; replace A6 : Hid (HasS wv g6 noWs nilS 0 0) := Lib.hid H1; replace A5 : Hid (HasTr wv g5 nilS 0 0 nilS 0 0) := Lib.hid (HasC.kept A5.out k1 (Nat.ne_of_lt dTS)); clear H1 k1 hn1 hn2 hn3 hgT hlT hgS hlS dTS; replace HK : Hid (HasK wv g3 rs h a n) := Lib.hid (HasC.new HK.out hn); replace HN := Lib.hid (HN.out.trans hn); clear hn))
      have S0 : Hid (New wv wv.drew) := Lib.hid ((New.refl wv).drew)
      have hne := newW_any wv
      refine wp_region_noPanic ?_
      refine wp_region_held_drew (S := fun w' => New wv w') (by kernel_rfl) S0.out (fun _ => ?_)
      refine wpAnyH_take (i := 0) (v := .agg (caC rs h a n).toArray) rfl (by kernel_rfl) (by kernel_rfl) (by kernel_rfl) (fun _ _ _ h => h) (ldK_if rfl (.tmp 3) rfl g3 rfl (fun w' h => HasC.new HK.out h)) S0.out ?_
      simp only [List.getElem_toArray, List.getElem_cons_zero, Act.put, List.setIfInBounds_toArray, List.set_cons_zero, List.set_cons_succ]
      refine wpAnyH_take (i := 2) (v := .agg (caC rs h a n).toArray) rfl (by kernel_rfl) (by kernel_rfl) (by kernel_rfl) (fun _ _ _ h => h) (ldK_if rfl (.tmp 3) rfl g3 rfl (fun w' h => HasC.new HK.out h)) S0.out ?_
      simp only [List.getElem_toArray, List.getElem_cons_zero, List.getElem_cons_succ, Act.put, List.setIfInBounds_toArray, List.set_cons_zero, List.set_cons_succ]
      refine wpAnyH_call (i := 1) rfl rfl (by kernel_rfl) 24 #[.agg (caC rs h a n).toArray] (by go_simp) ?_
      refine (runRight_any rs h a n _).mono ?_
      rw [HCB.out]
      rintro e w1 ⟨rfl, hn1⟩
      replace S0 := Lib.hid (S0.out.trans hn1)
      refine ⟨_, rfl, S0.out, ?_⟩
      simp only [List.getElem_toArray, List.getElem_cons_zero, List.getElem_cons_succ, Act.put, List.setIfInBounds_toArray, List.set_cons_zero, List.set_cons_succ]
      refine wpAnyH_call (i := 3) rfl rfl (by kernel_rfl) 25 #[.agg (caC rs h a n).toArray] (by go_simp) ?_
      refine (rRight_any rs h a n _).mono ?_
      rw [HCB.out]
      rintro e w2 ⟨rfl, hn2⟩
      replace S0 := Lib.hid (S0.out.trans hn2)
      refine ⟨_, rfl, S0.out, ?_⟩
      simp only [List.getElem_toArray, List.getElem_cons_zero, List.getElem_cons_succ, Act.put, List.setIfInBounds_toArray, List.set_cons_zero, List.set_cons_succ]
      refine wpAnyH_take (i := 4) (v := .bool false) rfl (by kernel_rfl) (by kernel_rfl) (by kernel_rfl) (fun _ _ _ h => h) (Or.inl ⟨rfl, fun _ _ => by cases cb <;> go_simp⟩) S0.out ?_
      simp only [List.getElem_toArray, List.getElem_cons_zero, List.getElem_cons_succ, Act.put, List.setIfInBounds_toArray, List.set_cons_zero, List.set_cons_succ]
      refine wpAnyH_take (i := 5) (v := .bool false) rfl (by kernel_rfl) (by kernel_rfl) (by kernel_rfl) (fun _ _ _ h => h) (Or.inl ⟨rfl, fun _ _ => by go_simp⟩) S0.out ?_
      simp only [List.getElem_toArray, List.getElem_cons_zero, List.getElem_cons_succ, Act.put, List.setIfInBounds_toArray, List.set_cons_zero, List.set_cons_succ]
      refine wpAnyH_take (i := 6) (v := .agg (caC rs h a n).toArray) rfl (by kernel_rfl) (by kernel_rfl) (by kernel_rfl) (fun _ _ _ h => h) (ldK_if rfl (.tmp 3) rfl g3 rfl (fun w' h => HasC.new HK.out h)) S0.out ?_
      simp only [List.getElem_toArray, List.getElem_cons_zero, List.getElem_cons_succ, Act.put, List.setIfInBounds_toArray, List.set_cons_zero, List.set_cons_succ]
      refine wpAnyH_take (i := 9) (v := .agg (caC rs h a n).toArray) rfl (by kernel_rfl) (by kernel_rfl) (by kernel_rfl) (fun _ _ _ h => h) (ldK_if rfl (.tmp 3) rfl g3 rfl (fun w' h => HasC.new HK.out h)) S0.out ?_
      simp only [List.getElem_toArray, List.getElem_cons_zero, List.getElem_cons_succ, Act.put, List.setIfInBounds_toArray, List.set_cons_zero, List.set_cons_succ]
      refine wpAnyH_callG (i := 7) rfl rfl (by kernel_rfl) 26 #[.agg (caC rs h a n).toArray] (by go_simp) ?_
      refine (begin_any ((HH.out.new HN.out).new S0.out) HHN.out).mono ?_
      rintro e w3 ⟨s0, rfl, hs0, hn3, _⟩
      have HS0 := Lib.hid hs0
      replace S0 := Lib.hid (S0.out.trans hn3)
      refine ⟨_, rfl, S0.out, ?_⟩
      simp only [List.getElem_toArray, List.getElem_cons_zero, List.getElem_cons_succ, Act.put, List.setIfInBounds_toArray, List.set_cons_zero, List.set_cons_succ]
      refine wpAnyH_callG (i := 8) rfl rfl (by kernel_rfl) 15 #[.agg (cellsS (begL rs) s0 0 0).toArray] (by go_simp) ?_
      refine (as_any (begL rs) s0 0 0 _).mono ?_
      rintro e w4 ⟨b1, rfl, ha1, hn4⟩
      replace HS0 := Lib.hid (HS0.out.new hn4)
      have HA1 := Lib.hid ha1
      replace S0 := Lib.hid (S0.out.trans hn4)
      refine ⟨_, rfl, S0.out, ?_⟩
      simp only [List.getElem_toArray, List.getElem_cons_zero, List.getElem_cons_succ, Act.put, List.setIfInBounds_toArray, List.set_cons_zero, List.set_cons_succ]
      refine wpAnyH_callG (i := 10) rfl rfl (by kernel_rfl) 27 #[.agg (caC rs h a n).toArray] (by go_simp) ?_
      refine (rBegin_any rs h a n _).mono ?_
      rintro e w5 ⟨b2, rfl, ha2, hn5⟩
      replace HS0 := Lib.hid (HS0.out.new hn5)
      replace HA1 := Lib.hid (HA1.out.new hn5)
      have HA2 := Lib.hid ha2
      replace S0 := Lib.hid (S0.out.trans hn5)
      refine ⟨_, rfl, S0.out, ?_⟩
      simp only [List.getElem_toArray, List.getElem_cons_zero, List.getElem_cons_succ, Act.put, List.setIfInBounds_toArray, List.set_cons_zero, List.set_cons_succ]
      refine wpAnyH_callG (i := 11) rfl rfl (by kernel_rfl) 17 #[.agg (refC b1 s0 0 0).toArray, .agg (refC b2 h 0 0).toArray] (by go_simp) ?_
      refine (refSame_any (begL rs) (begL rs) (fun _ _ => rfl) zs 0 0 b1 s0 b2 h _ HA1.out HA2.out HS0.out ((HH.out.new HN.out).new S0.out) HZK.out).mono ?_
      rintro e w6 ⟨rfl, hn6⟩
      replace S0 := Lib.hid (S0.out.trans hn6)
      refine ⟨_, rfl, S0.out, ?_⟩
      simp only [List.getElem_toArray, List.getElem_cons_zero, List.getElem_cons_succ, Act.put, List.setIfInBounds_toArray, List.set_cons_zero, List.set_cons_succ]
      refine wpAnyH_rest 12 rfl (by kernel_rfl) (by kernel_rfl) S0.out ?_
      simp only [List.drop_succ_cons, List.drop_zero]
      clear hn1 hn2 hn3 hn4 hn5 hn6 hs0 ha1 ha2 HS0 HA1 HA2 S0
      repeat (go_big_quiet_step (first | fail))
      refine wpQuiet_nil ?_
      intro wx hn
      refine NoPanic.normal ?_
      replace A5 : Hid (HasTr wx g5 nilS 0 0 nilS 0 0) := Lib.hid (HasC.new A5.out hn)
      replace HK : Hid (HasK wx g3 rs h a n) := Lib.hid (HasC.new HK.out hn)
      replace HN := Lib.hid (HN.out.trans hn)
      clear hn
      have Tk1 : Hid True := Lib.hid trivial
      have Tk2 : Hid True := Lib.hid trivial
      go_wp2_with (first
        | (go_at_call 28; refine (fair_is HN.out (HF.out.new HN.out) (HH.out.new HN.out) (HA.out.new HN.out) HFB.out).mono ?_; rintro e wx ⟨rfl, hn⟩; replace A5 : Hid (HasTr wx g5 nilS 0 0 nilS 0 0) := Lib.hid (HasC.new A5.out hn); replace HK : Hid (HasK wx g3 rs h a n) := Lib.hid (HasC.new HK.out hn); replace HN := Lib.hid (HN.out.trans hn); clear hn)
        | (go_at_call 29; refine (rTSame_any (e1 := nilS) (e2 := nilS) (o1 := nilS) (o2 := nilS) (EvAt.nil _) (EvAt.nil _) (Hp.nil _) (Hp.nil _) (by simp) (by simp)).mono ?_; rintro e wx ⟨rfl, hn⟩; replace HN := Lib.hid (HN.out.trans hn); clear hn)
        | (go_at_call 22; refine (knows8_from _ HL.out HN.out).mono ?_; rintro e wk ⟨rfl, hnk⟩)
        | (clear Tk1; refine wpList_ldK (by rfl) (.tmp 3) rfl g3 rfl HK.out ?_)
        | (clear Tk2; refine wpList_ldTr (by rfl) (.tmp 5) rfl g5 rfl A5.out ?_))
      go_ret
      exact ⟨rfl, hnk⟩
    | true =>
      have HFB := Lib.hid hfb
      obtain ⟨hck, hz16, hal, hn0, hn5⟩ := fair_iff.mp hfb
      have hn1k : n ≤ 1000 := by omega
      have hak : az.length ≤ 1000 := by omega
      have HCK := Lib.hid hck
      have HZ := Lib.hid hz16
      have HAL := Lib.hid hal
      have HNB : Hid (0 ≤ n ∧ n ≤ 5000) := Lib.hid ⟨hn0, hn5⟩
      have HBR : Hid (mcB f (begM rs zs) = true) := Lib.hid (beg_right hck hz16)
      have HRN := Lib.hid (onR_rn (az := az) n.toNat (begM rs zs) noTr HBR.out (by decide) (by decide))
      obtain ⟨⟨⟨es, how, val, oh, st, wk⟩, ⟨l2, z2, p2, q2⟩⟩, HR⟩ : ∃ r, Hid (runR f rs zs az n.toNat = r) := ⟨_, Lib.hid rfl⟩
      rw [show onR f az n.toNat (begM rs zs) noTr = (⟨es, how, val, oh, st, wk⟩, ⟨l2, z2, p2, q2⟩) from HR.out] at HRN
      clear hfb hng hck hz16 hal
      have HEB : Hid (es.length ≤ 100000) := Lib.hid (by have := HRN.out.evl; simp only [noTr, List.length_nil] at this; omega)
      have HOB : Hid (oh.length ≤ 1000) := Lib.hid (by have := HRN.out.hp; simp only at this; omega)
      have HZ2 : Hid (z2.length ≤ 1000) := Lib.hid (by have h1 := HRN.out.len; have h2 := HZ.out; have h3 : z2.length = zs.length := h1; omega)
      have HZK : Hid (zs.length ≤ 1000) := Lib.hid (by have := HZ.out; omega)
      have HHN : Hid (h.n ≤ 1000) := Lib.hid (by have e : h.n = zs.length := Hp.len HH.out; have := HZ.out; omega)
      obtain ⟨cb, HCB⟩ : ∃ cb, Hid (caseN h.n a.n n = cb) := ⟨_, Lib.hid rfl⟩
      go_enter Tryz.func5, Tryz.ntmps5
      have Tk1 : Hid True := Lib.hid trivial
      have Tk2 : Hid True := Lib.hid trivial
      have Tk3 : Hid True := Lib.hid trivial
      have Tk4 : Hid True := Lib.hid trivial
      have Tk5 : Hid True := Lib.hid trivial
      have Tk6 : Hid True := Lib.hid trivial
      have Tk7 : Hid True := Lib.hid trivial
      have Tk8 : Hid True := Lib.hid trivial
      go_wp2_with (first
        | (go_at_call 21; refine (gr_is HN.out (HF.out.new HN.out) (HH.out.new HN.out) (HA.out.new HN.out) HG.out).mono ?_; rintro e wx ⟨rfl, hn⟩; replace HK : Hid (HasK wx g3 rs h a n) := Lib.hid (HasC.new HK.out hn); replace HN := Lib.hid (HN.out.trans hn); clear hn)
        | (clear Tk1; go_at_call 23; refine (run_is HL.out HN.out (HF.out.new HN.out) (HH.out.new HN.out) (HA.out.new HN.out) HCK.out HZ.out HAL.out HNB.out HR.out).mono ?_; rintro e wx ⟨ev1, so1, s1, rfl, h1, h2, h3, hn, f1, f2, f3, fcp⟩; have HE1 := Lib.hid h1; have HO1 := Lib.hid h2; have HS1 := Lib.hid h3; have FE1 := Lib.hid f1; have FO1 := Lib.hid f2; have FS1 := Lib.hid f3; have FC1 := Lib.hid fcp; have ZB := Lib.hid HN.out.size; clear h1 h2 h3 f1 f2 f3 fcp; replace HK : Hid (HasK wx g3 rs h a n) := Lib.hid (HasC.new HK.out hn); replace HN := Lib.hid (HN.out.trans hn); clear hn)
        | (clear Tk2; refine wpList_boxX rfl 51 (.tmp 1) rfl (caC rs h a n) rfl ?_; intro wx g3 hg3 hl3 H1 hn1; have HK : Hid (HasK wx g3 rs h a n) := Lib.hid H1; have HN := Lib.hid hn1; clear H1 hn1 hl3)
        | (clear Tk3; refine wpList_ldK (by rfl) (.tmp 3) rfl g3 rfl HK.out ?_)
        | (clear Tk4; refine wpList_ldK (by rfl) (.tmp 3) rfl g3 rfl HK.out ?_)
        | (clear Tk5; refine wpList_alX rfl 54 rfl _ zeroT_run _ rfl ?_; intro wy g5 hgT hlT H1 hn1; have A5 : Hid (HasTr wy g5 nilS 0 0 nilS 0 0) := Lib.hid H1; clear H1)
        | (clear Tk6; refine wpList_alX rfl 28 rfl _ zeroS_run _ rfl ?_; intro wz g6 hgS hlS H1 hn2; have A6 : Hid (HasS wz g6 noWs nilS 0 0) := Lib.hid H1; have dTS : g5 < g6 := Nat.lt_of_lt_of_le hlT hgS; replace A5 : Hid (HasTr wz g5 nilS 0 0 nilS 0 0) := Lib.hid (HasC.new A5.out hn2); clear H1)
        | (clear Tk7; refine wpList_stTr rfl rfl (.tmp 5) (.tmp 18) rfl g5 rfl ev1 how val so1 st wk rfl A5.out ?_; intro wu H1 k1; replace A5 : Hid (HasTr wu g5 ev1 how val so1 st wk) := Lib.hid H1; replace A6 : Hid (HasS wu g6 noWs nilS 0 0) := Lib.hid (HasC.kept A6.out k1 (Nat.ne_of_gt dTS)); have hn3 : New wx wu := k1.below wx hgT (hn1.trans hn2); clear H1 k1)
        | (clear Tk8; refine wpList_stS rfl rfl (.tmp 6) (.tmp 19) rfl g6 rfl (l := l2) (s := s1) (p := p2) (q := q2) rfl A6.out ?_; intro wv H1 k1; have hn : New wx wv := k1.below wx (Nat.le_trans hn1.size hgS) hn3; replace A6 : Hid (HasS wv g6 l2 s1 p2 q2) := Lib.hid H1; replace A5 : Hid (HasTr wv g5 ev1 how val so1 st wk) := Lib.hid (HasC.kept A5.out k1 (Nat.ne_of_lt dTS)); replace HE1 := Lib.hid (HE1.out.new hn); replace HO1 := Lib.hid (HO1.out.new hn); replace HS1 := Lib.hid (HS1.out.new hn); clear H1 k1 hn1 hn2 hn3 hgT hlT hgS hlS dTS; replace HK : Hid (HasK wv g3 rs h a n) := Lib.hid (HasC.new HK.out hn); replace HN := Lib.hid (HN.out.trans hn); clear hn))
      have S0 : Hid (New wv wv.drew) := Lib.hid ((New.refl wv).drew)
      have hne := newW_any wv
      refine wp_region_noPanic ?_
      refine wp_region_held_drew (S := fun w' => New wv w') (by kernel_rfl) S0.out (fun _ => ?_)
      refine wpAnyH_take (i := 0) (v := .agg (caC rs h a n).toArray) rfl (by kernel_rfl) (by kernel_rfl) (by kernel_rfl) (fun _ _ _ h => h) (ldK_if rfl (.tmp 3) rfl g3 rfl (fun w' h => HasC.new HK.out h)) S0.out ?_
      simp only [List.getElem_toArray, List.getElem_cons_zero, Act.put, List.setIfInBounds_toArray, List.set_cons_zero, List.set_cons_succ]
      refine wpAnyH_take (i := 2) (v := .agg (caC rs h a n).toArray) rfl (by kernel_rfl) (by kernel_rfl) (by kernel_rfl) (fun _ _ _ h => h) (ldK_if rfl (.tmp 3) rfl g3 rfl (fun w' h => HasC.new HK.out h)) S0.out ?_
      simp only [List.getElem_toArray, List.getElem_cons_zero, List.getElem_cons_succ, Act.put, List.setIfInBounds_toArray, List.set_cons_zero, List.set_cons_succ]
      refine wpAnyH_call (i := 1) rfl rfl (by kernel_rfl) 24 #[.agg (caC rs h a n).toArray] (by go_simp) ?_
      refine (runRight_any rs h a n _).mono ?_
      rw [HCB.out]
      rintro e w1 ⟨rfl, hn1⟩
      replace S0 := Lib.hid (S0.out.trans hn1)
      refine ⟨_, rfl, S0.out, ?_⟩
      simp only [List.getElem_toArray, List.getElem_cons_zero, List.getElem_cons_succ, Act.put, List.setIfInBounds_toArray, List.set_cons_zero, List.set_cons_succ]
      refine wpAnyH_call (i := 3) rfl rfl (by kernel_rfl) 25 #[.agg (caC rs h a n).toArray] (by go_simp) ?_
      refine (rRight_any rs h a n _).mono ?_
      rw [HCB.out]
      rintro e w2 ⟨rfl, hn2⟩
      replace S0 := Lib.hid (S0.out.trans hn2)
      refine ⟨_, rfl, S0.out, ?_⟩
      simp only [List.getElem_toArray, List.getElem_cons_zero, List.getElem_cons_succ, Act.put, List.setIfInBounds_toArray, List.set_cons_zero, List.set_cons_succ]
      refine wpAnyH_take (i := 4) (v := .bool false) rfl (by kernel_rfl) (by kernel_rfl) (by kernel_rfl) (fun _ _ _ h => h) (Or.inl ⟨rfl, fun _ _ => by cases cb <;> go_simp⟩) S0.out ?_
      simp only [List.getElem_toArray, List.getElem_cons_zero, List.getElem_cons_succ, Act.put, List.setIfInBounds_toArray, List.set_cons_zero, List.set_cons_succ]
      refine wpAnyH_take (i := 5) (v := .bool false) rfl (by kernel_rfl) (by kernel_rfl) (by kernel_rfl) (fun _ _ _ h => h) (Or.inl ⟨rfl, fun _ _ => by go_simp⟩) S0.out ?_
      simp only [List.getElem_toArray, List.getElem_cons_zero, List.getElem_cons_succ, Act.put, List.setIfInBounds_toArray, List.set_cons_zero, List.set_cons_succ]
      refine wpAnyH_take (i := 6) (v := .agg (caC rs h a n).toArray) rfl (by kernel_rfl) (by kernel_rfl) (by kernel_rfl) (fun _ _ _ h => h) (ldK_if rfl (.tmp 3) rfl g3 rfl (fun w' h => HasC.new HK.out h)) S0.out ?_
      simp only [List.getElem_toArray, List.getElem_cons_zero, List.getElem_cons_succ, Act.put, List.setIfInBounds_toArray, List.set_cons_zero, List.set_cons_succ]
      refine wpAnyH_take (i := 9) (v := .agg (caC rs h a n).toArray) rfl (by kernel_rfl) (by kernel_rfl) (by kernel_rfl) (fun _ _ _ h => h) (ldK_if rfl (.tmp 3) rfl g3 rfl (fun w' h => HasC.new HK.out h)) S0.out ?_
      simp only [List.getElem_toArray, List.getElem_cons_zero, List.getElem_cons_succ, Act.put, List.setIfInBounds_toArray, List.set_cons_zero, List.set_cons_succ]
      refine wpAnyH_callG (i := 7) rfl rfl (by kernel_rfl) 26 #[.agg (caC rs h a n).toArray] (by go_simp) ?_
      refine (begin_any ((HH.out.new HN.out).new S0.out) HHN.out).mono ?_
      rintro e w3 ⟨s0, rfl, hs0, hn3, _⟩
      have HS0 := Lib.hid hs0
      replace S0 := Lib.hid (S0.out.trans hn3)
      refine ⟨_, rfl, S0.out, ?_⟩
      simp only [List.getElem_toArray, List.getElem_cons_zero, List.getElem_cons_succ, Act.put, List.setIfInBounds_toArray, List.set_cons_zero, List.set_cons_succ]
      refine wpAnyH_callG (i := 8) rfl rfl (by kernel_rfl) 15 #[.agg (cellsS (begL rs) s0 0 0).toArray] (by go_simp) ?_
      refine (as_any (begL rs) s0 0 0 _).mono ?_
      rintro e w4 ⟨b1, rfl, ha1, hn4⟩
      replace HS0 := Lib.hid (HS0.out.new hn4)
      have HA1 := Lib.hid ha1
      replace S0 := Lib.hid (S0.out.trans hn4)
      refine ⟨_, rfl, S0.out, ?_⟩
      simp only [List.getElem_toArray, List.getElem_cons_zero, List.getElem_cons_succ, Act.put, List.setIfInBounds_toArray, List.set_cons_zero, List.set_cons_succ]
      refine wpAnyH_callG (i := 10) rfl rfl (by kernel_rfl) 27 #[.agg (caC rs h a n).toArray] (by go_simp) ?_
      refine (rBegin_any rs h a n _).mono ?_
      rintro e w5 ⟨b2, rfl, ha2, hn5⟩
      replace HS0 := Lib.hid (HS0.out.new hn5)
      replace HA1 := Lib.hid (HA1.out.new hn5)
      have HA2 := Lib.hid ha2
      replace S0 := Lib.hid (S0.out.trans hn5)
      refine ⟨_, rfl, S0.out, ?_⟩
      simp only [List.getElem_toArray, List.getElem_cons_zero, List.getElem_cons_succ, Act.put, List.setIfInBounds_toArray, List.set_cons_zero, List.set_cons_succ]
      refine wpAnyH_callG (i := 11) rfl rfl (by kernel_rfl) 17 #[.agg (refC b1 s0 0 0).toArray, .agg (refC b2 h 0 0).toArray] (by go_simp) ?_
      refine (refSame_any (begL rs) (begL rs) (fun _ _ => rfl) zs 0 0 b1 s0 b2 h _ HA1.out HA2.out HS0.out ((HH.out.new HN.out).new S0.out) HZK.out).mono ?_
      rintro e w6 ⟨rfl, hn6⟩
      replace S0 := Lib.hid (S0.out.trans hn6)
      refine ⟨_, rfl, S0.out, ?_⟩
      simp only [List.getElem_toArray, List.getElem_cons_zero, List.getElem_cons_succ, Act.put, List.setIfInBounds_toArray, List.set_cons_zero, List.set_cons_succ]
      refine wpAnyH_rest 12 rfl (by kernel_rfl) (by kernel_rfl) S0.out ?_
      simp only [List.drop_succ_cons, List.drop_zero]
      clear hn1 hn2 hn3 hn4 hn5 hn6 hs0 ha1 ha2 HS0 HA1 HA2 S0
      repeat (go_big_quiet_step (first | fail))
      refine wpQuiet_nil ?_
      intro wx hn
      refine NoPanic.normal ?_
      replace A5 : Hid (HasTr wx g5 ev1 how val so1 st wk) := Lib.hid (HasC.new A5.out hn)
      replace HK : Hid (HasK wx g3 rs h a n) := Lib.hid (HasC.new HK.out hn)
      replace A6 : Hid (HasS wx g6 l2 s1 p2 q2) := Lib.hid (HasC.new A6.out hn)
      replace HE1 := Lib.hid (HE1.out.new hn)
      replace HO1 := Lib.hid (HO1.out.new hn)
      replace HS1 := Lib.hid (HS1.out.new hn)
      replace HN := Lib.hid (HN.out.trans hn)
      clear hn
      have Tk1 : Hid True := Lib.hid trivial
      have Tk2 : Hid True := Lib.hid trivial
      have Tk3 : Hid True := Lib.hid trivial
      have Tk4 : Hid True := Lib.hid trivial
      have Tk5 : Hid True := Lib.hid trivial
      have Tk6 : Hid True := Lib.hid trivial
      go_wp2_with (first
        | (go_at_call 28; refine (fair_is HN.out (HF.out.new HN.out) (HH.out.new HN.out) (HA.out.new HN.out) HFB.out).mono ?_; rintro e wx ⟨rfl, hn⟩; replace A5 : Hid (HasTr wx g5 ev1 how val so1 st wk) := Lib.hid (HasC.new A5.out hn); replace A6 : Hid (HasS wx g6 l2 s1 p2 q2) := Lib.hid (HasC.new A6.out hn); replace HE1 := Lib.hid (HE1.out.new hn); replace HO1 := Lib.hid (HO1.out.new hn); replace HS1 := Lib.hid (HS1.out.new hn); replace HK : Hid (HasK wx g3 rs h a n) := Lib.hid (HasC.new HK.out hn); replace HN := Lib.hid (HN.out.trans hn); clear hn)
        | (go_at_call 30; refine (rRun_is (HF.out.new HN.out) (HH.out.new HN.out) (HA.out.new HN.out) HCK.out HZ.out HAL.out HNB.out HR.out).mono ?_; rintro e wx ⟨ev2, so2, a2, s2, rfl, h1, h2, h3, h4, hn⟩; have HE2 := Lib.hid h1; have HO2 := Lib.hid h2; have HW2 := Lib.hid h3; have HS2 := Lib.hid h4; clear h1 h2 h3 h4; replace A5 : Hid (HasTr wx g5 ev1 how val so1 st wk) := Lib.hid (HasC.new A5.out hn); replace A6 : Hid (HasS wx g6 l2 s1 p2 q2) := Lib.hid (HasC.new A6.out hn); replace HE1 := Lib.hid (HE1.out.new hn); replace HO1 := Lib.hid (HO1.out.new hn); replace HS1 := Lib.hid (HS1.out.new hn); replace HK : Hid (HasK wx g3 rs h a n) := Lib.hid (HasC.new HK.out hn); replace HN := Lib.hid (HN.out.trans hn); clear hn)
        | (clear Tk1; refine wpList_ldK (by rfl) (.tmp 3) rfl g3 rfl HK.out ?_)
        | (clear Tk2; refine wpList_ldK (by rfl) (.tmp 3) rfl g3 rfl HK.out ?_)
        | (clear Tk3; refine wpList_alX rfl 54 rfl _ zeroT_run _ rfl ?_; intro wy g8 hgT hlT H1 hn1; have A8 : Hid (HasTr wy g8 nilS 0 0 nilS 0 0) := Lib.hid H1; clear H1)
        | (clear Tk4; refine wpList_alX rfl 40 rfl _ zeroR_run _ rfl ?_; intro wz g9 hgS hlS H1 hn2; have A9 : Hid (HasRf wz g9 nilS nilS 0 0) := Lib.hid H1; have dTS : g8 < g9 := Nat.lt_of_lt_of_le hlT hgS; replace A8 : Hid (HasTr wz g8 nilS 0 0 nilS 0 0) := Lib.hid (HasC.new A8.out hn2); clear H1)
        | (clear Tk5; refine wpList_stTr rfl rfl (.tmp 8) (.tmp 53) rfl g8 rfl ev2 how val so2 st wk rfl A8.out ?_; intro wu H1 k1; replace A8 : Hid (HasTr wu g8 ev2 how val so2 st wk) := Lib.hid H1; replace A9 : Hid (HasRf wu g9 nilS nilS 0 0) := Lib.hid (HasC.kept A9.out k1 (Nat.ne_of_gt dTS)); have hn3 : New wx wu := k1.below wx hgT (hn1.trans hn2); clear H1 k1)
        | (clear Tk6; refine wpList_stRf rfl rfl (.tmp 9) (.tmp 54) rfl g9 rfl a2 s2 p2 q2 rfl A9.out ?_; intro wv H1 k1; have hn : New wx wv := k1.below wx (Nat.le_trans hn1.size hgS) hn3; replace A9 : Hid (HasRf wv g9 a2 s2 p2 q2) := Lib.hid H1; replace A8 : Hid (HasTr wv g8 ev2 how val so2 st wk) := Lib.hid (HasC.kept A8.out k1 (Nat.ne_of_lt dTS)); replace HE2 := Lib.hid (HE2.out.new hn); replace HO2 := Lib.hid (HO2.out.new hn); replace HW2 := Lib.hid (HW2.out.new hn); replace HS2 := Lib.hid (HS2.out.new hn); replace A5 : Hid (HasTr wv g5 ev1 how val so1 st wk) := Lib.hid (HasC.new A5.out hn); replace A6 : Hid (HasS wv g6 l2 s1 p2 q2) := Lib.hid (HasC.new A6.out hn); replace HE1 := Lib.hid (HE1.out.new hn); replace HO1 := Lib.hid (HO1.out.new hn); replace HS1 := Lib.hid (HS1.out.new hn); clear H1 k1 hn1 hn2 hn3 hgT hlT hgS hlS dTS; replace HK : Hid (HasK wv g3 rs h a n) := Lib.hid (HasC.new HK.out hn); replace HN := Lib.hid (HN.out.trans hn); clear hn))
      have S0 : Hid (New wv wv.drew) := Lib.hid ((New.refl wv).drew)
      have HLV := HL.out.new HN.out
      have hne := newW_any wv
      refine wp_region_noPanic ?_
      refine wp_region_held_drew (S := fun w' => New wv w') (by kernel_rfl) S0.out (fun _ => ?_)
      refine wpAnyH_take (i := 0) (v := .agg (trC ev1 how val so1 st wk).toArray) rfl (by kernel_rfl) (by kernel_rfl) (by kernel_rfl) (fun _ _ _ h => h) (ldTr_if rfl (.tmp 5) rfl g5 rfl (fun w' h => HasC.new A5.out h)) S0.out ?_
      simp only [List.getElem_toArray, List.getElem_cons_zero, Act.put, List.setIfInBounds_toArray, List.set_cons_zero, List.set_cons_succ]
      refine wpAnyH_take (i := 1) (v := .agg (trC ev2 how val so2 st wk).toArray) rfl (by kernel_rfl) (by kernel_rfl) (by kernel_rfl) (fun _ _ _ h => h) (ldTr_if rfl (.tmp 8) rfl g8 rfl (fun w' h => HasC.new A8.out h)) S0.out ?_
      simp only [List.getElem_toArray, List.getElem_cons_zero, List.getElem_cons_succ, Act.put, List.setIfInBounds_toArray, List.set_cons_zero, List.set_cons_succ]
      refine wpAnyH_call (i := 2) rfl rfl (by kernel_rfl) 29 #[.agg (trC ev1 how val so1 st wk).toArray, .agg (trC ev2 how val so2 st wk).toArray] (by go_simp) ?_
      refine (rTSame_any (HE1.out.new S0.out) (HE2.out.new S0.out) (HO1.out.new S0.out) (HO2.out.new S0.out) HEB.out HOB.out).mono ?_
      rintro e w1 ⟨rfl, hn1⟩
      replace S0 := Lib.hid (S0.out.trans hn1)
      refine ⟨_, rfl, S0.out, ?_⟩
      simp only [List.getElem_toArray, List.getElem_cons_zero, List.getElem_cons_succ, Act.put, List.setIfInBounds_toArray, List.set_cons_zero, List.set_cons_succ]
      refine wpAnyH_take (i := 3) (v := .bool true) rfl (by kernel_rfl) (by kernel_rfl) (by kernel_rfl) (fun _ _ _ h => h) (Or.inl ⟨rfl, fun _ _ => by go_simp⟩) S0.out ?_
      simp only [List.getElem_toArray, List.getElem_cons_zero, List.getElem_cons_succ, Act.put, List.setIfInBounds_toArray, List.set_cons_zero, List.set_cons_succ]
      refine wpAnyH_take (i := 4) (v := .agg (cellsS l2 s1 p2 q2).toArray) rfl (by kernel_rfl) (by kernel_rfl) (by kernel_rfl) (fun _ _ _ h => h) (ldS_if rfl (.tmp 6) rfl g6 rfl (fun w' h => HasC.new A6.out h)) S0.out ?_
      simp only [List.getElem_toArray, List.getElem_cons_zero, List.getElem_cons_succ, Act.put, List.setIfInBounds_toArray, List.set_cons_zero, List.set_cons_succ]
      refine wpAnyH_take (i := 6) (v := .agg (refC a2 s2 p2 q2).toArray) rfl (by kernel_rfl) (by kernel_rfl) (by kernel_rfl) (fun _ _ _ h => h) (ldC4_if rfl (.tmp 9) rfl g9 rfl (fun w' h => HasC.new A9.out h)) S0.out ?_
      simp only [List.getElem_toArray, List.getElem_cons_zero, List.getElem_cons_succ, Act.put, List.setIfInBounds_toArray, List.set_cons_zero, List.set_cons_succ]
      refine wpAnyH_callG (i := 5) rfl rfl (by kernel_rfl) 15 #[.agg (cellsS l2 s1 p2 q2).toArray] (by go_simp) ?_
      refine (as_any l2 s1 p2 q2 _).mono ?_
      rintro e w2 ⟨b1, rfl, ha1, hn2⟩
      have HA1 := Lib.hid ha1
      replace S0 := Lib.hid (S0.out.trans hn2)
      refine ⟨_, rfl, S0.out, ?_⟩
      simp only [List.getElem_toArray, List.getElem_cons_zero, List.getElem_cons_succ, Act.put, List.setIfInBounds_toArray, List.set_cons_zero, List.set_cons_succ]
      refine wpAnyH_callG (i := 7) rfl rfl (by kernel_rfl) 17 #[.agg (refC b1 s1 p2 q2).toArray, .agg (refC a2 s2 p2 q2).toArray] (by go_simp) ?_
      refine (refSame_any l2 l2 (fun _ _ => rfl) z2 p2 q2 b1 s1 a2 s2 _ HA1.out (HW2.out.new S0.out) (HS1.out.new S0.out) (HS2.out.new S0.out) HZ2.out).mono ?_
      rintro e w3 ⟨rfl, hn3⟩
      replace S0 := Lib.hid (S0.out.trans hn3)
      refine ⟨_, rfl, S0.out, ?_⟩
      simp only [List.getElem_toArray, List.getElem_cons_zero, List.getElem_cons_succ, Act.put, List.setIfInBounds_toArray, List.set_cons_zero, List.set_cons_succ]
      refine wpAnyH_rest 8 rfl (by kernel_rfl) (by kernel_rfl) S0.out ?_
      simp only [List.drop_succ_cons, List.drop_zero]
      clear hn1 ha1 hn2 hn3 HA1
      repeat (go_big_quiet_step (first | (go_at_call 22; exact quiet_new (knows8_from _ HLV (Subtype.property _)))))
      refine wpQuiet_nil ?_
      intro w4 h4
      refine NoPanic.normal ?_
      go_wp2
      go_ret
      exact ⟨rfl, HN.out.trans h4⟩
end Go.Proofs.YtfllkagbphgjlaaGreatDoor
