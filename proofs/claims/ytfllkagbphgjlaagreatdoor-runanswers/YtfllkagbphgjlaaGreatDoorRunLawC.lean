/-
  'RunAnswers': with more answers a run that wasn't left without one is the same, one that was makes the same events, and goes on: true, for every input.
-/
import Derived.Test.YtfllkagbphgjlaaGreatDoorRunK
import Derived.Test.YtfllkagbphgjlaaGreatDoorCaseOpen
import Derived.Test.YtfllkagbphgjlaaGreatDoorRunG
import Derived.Test.YtfllkagbphgjlaaGreatDoorHeapR
namespace Go.Proofs.YtfllkagbphgjlaaGreatDoor
open Go.RowKit

set_option maxHeartbeats 16000000 in
set_option maxRecDepth 100000 in
theorem runAnswers_law (v : Value) (f : List I) (rs : Nat → Int) (h a : Sl) (n : Int) (zs az : List Int) (vm : Value) (mz : List Int) (w : World) (hf : FunAt w v f) (_hi : ∀ y ∈ f, In64I y) (_hm : f.length ≤ maxLen) (hh : Hp w (.slice h.ao h.n h.c) zs) (ha : Hp w (.slice a.ao a.n a.c) az) (ht : Tame (.slice a.ao a.n a.c)) (hmo : RowAt w vm (mz.map (.int .i64))) (htm : Tame vm) (hl : Laid w) :
    Calls Tryz.prog 9 #[v, .agg (caC rs h a n).toArray, vm] w fun e w' => e = .returned (.bool true) ∧ New w w' := by
  obtain ⟨fo, fc, rfl⟩ := hf.form
  have hmo' : Hp w vm mz := hmo
  obtain ⟨mo, mc, rfl⟩ := hmo'.form
  have HMO := Lib.hid hmo'
  have HL := Lib.hid hl
  have HF := Lib.hid hf
  have HH : Hid (Hp w (svS h) zs) := Lib.hid hh
  have HA : Hid (Hp w (svS a) az) := Lib.hid ha
  clear hl hf hh ha hmo hmo'
  cases hg : grR f.length zs.length az.length n with
  | true =>
    have HG := Lib.hid hg
    clear hg
    go_enter Tryz.func9, Tryz.ntmps9
    have Tk1 : Hid True := Lib.hid trivial
    have Tk2 : Hid True := Lib.hid trivial
    go_wp2_with (first
      | (go_at_call 21; refine (gr_is HN.out (HF.out.new HN.out) (HH.out.new HN.out) (HA.out.new HN.out) HG.out).mono ?_; rintro e wx ⟨rfl, hn⟩; replace HK : Hid (HasK wx g3 rs h a n) := Lib.hid (HasC.new HK.out hn); replace HN := Lib.hid (HN.out.trans hn); clear hn)
      | (go_at_call 22; refine (knows8_from _ HL.out HN.out).mono ?_; rintro e wk ⟨rfl, hnk⟩)
      | (clear Tk1; refine wpList_boxX rfl 51 (.tmp 1) rfl (caC rs h a n) rfl ?_; intro wx g3 hg3 hl3 H1 hn1; have HK : Hid (HasK wx g3 rs h a n) := Lib.hid H1; have HN := Lib.hid hn1; clear H1 hn1 hl3)
      | (clear Tk2; refine wpList_ldK (by rfl) (.tmp 4) rfl g3 rfl HK.out ?_))
    go_ret
    exact ⟨rfl, hnk⟩
  | false =>
    have HG := Lib.hid hg
    have hng := of_decide_eq_false hg
    clear hg
    by_cases hmn : (1000 : Int) < (mz.length : Int)
    · go_enter Tryz.func9, Tryz.ntmps9
      have Tk1 : Hid True := Lib.hid trivial
      have Tk2 : Hid True := Lib.hid trivial
      go_wp2_with (first
        | (go_at_call 21; refine (gr_is HN.out (HF.out.new HN.out) (HH.out.new HN.out) (HA.out.new HN.out) HG.out).mono ?_; rintro e wx ⟨rfl, hn⟩; replace HK : Hid (HasK wx g3 rs h a n) := Lib.hid (HasC.new HK.out hn); replace HN := Lib.hid (HN.out.trans hn); clear hn)
        | (go_at_call 22; refine (knows8_from _ HL.out HN.out).mono ?_; rintro e wk ⟨rfl, hnk⟩)
        | (clear Tk1; refine wpList_boxX rfl 51 (.tmp 1) rfl (caC rs h a n) rfl ?_; intro wx g3 hg3 hl3 H1 hn1; have HK : Hid (HasK wx g3 rs h a n) := Lib.hid H1; have HN := Lib.hid hn1; clear H1 hn1 hl3)
        | (clear Tk2; refine wpList_ldK (by rfl) (.tmp 4) rfl g3 rfl HK.out ?_))
      go_ret
      exact ⟨rfl, hnk⟩
    have hml : mz.length ≤ 1000 := by omega
    have qm : decide ((1000 : Int) < (mz.length : Int)) = false := decide_eq_false hmn
    have HML := Lib.hid hml
    clear hmn hml
    cases hfb : fairB f zs az n with
    | false =>
      have HFB := Lib.hid hfb
      clear hfb hng
      go_enter Tryz.func9, Tryz.ntmps9
      have Tk1 : Hid True := Lib.hid trivial
      have Tk2 : Hid True := Lib.hid trivial
      have Tk3 : Hid True := Lib.hid trivial
      go_wp2_with (first
        | (go_at_call 21; refine (gr_is HN.out (HF.out.new HN.out) (HH.out.new HN.out) (HA.out.new HN.out) HG.out).mono ?_; rintro e wx ⟨rfl, hn⟩; replace HK : Hid (HasK wx g3 rs h a n) := Lib.hid (HasC.new HK.out hn); replace HN := Lib.hid (HN.out.trans hn); clear hn)
        | (go_at_call 28; refine (fair_is HN.out (HF.out.new HN.out) (HH.out.new HN.out) (HA.out.new HN.out) HFB.out).mono ?_; rintro e wx ⟨rfl, hn⟩; replace HK : Hid (HasK wx g3 rs h a n) := Lib.hid (HasC.new HK.out hn); replace HN := Lib.hid (HN.out.trans hn); clear hn)
        | (go_at_call 22; refine (knows8_from _ HL.out HN.out).mono ?_; rintro e wk ⟨rfl, hnk⟩)
        | (clear Tk1; refine wpList_boxX rfl 51 (.tmp 1) rfl (caC rs h a n) rfl ?_; intro wx g3 hg3 hl3 H1 hn1; have HK : Hid (HasK wx g3 rs h a n) := Lib.hid H1; have HN := Lib.hid hn1; clear H1 hn1 hl3)
        | (clear Tk2; refine wpList_ldK (by rfl) (.tmp 4) rfl g3 rfl HK.out ?_)
        | (clear Tk3; refine wpList_ldK (by rfl) (.tmp 4) rfl g3 rfl HK.out ?_))
      go_ret
      exact ⟨rfl, hnk⟩
    | true =>
      have HFB := Lib.hid hfb
      obtain ⟨hck, hz16, hal, hn0, hn5⟩ := fair_iff.mp hfb
      have hn1k : n ≤ 1000 := by omega
      have hak : az.length ≤ 1000 := by omega
      have HCK := Lib.hid hck
      have HZ := Lib.hid hz16
      have HAL := Lib.hid hal
      have HNB : Hid (0 ≤ n ∧ n ≤ 5000) := Lib.hid ⟨hn0, hn5⟩
      have HBR : Hid (mcB f (begM rs zs) = true) := Lib.hid (beg_right hck hz16)
      have HRN := Lib.hid (onR_rn (az := az) n.toNat (begM rs zs) noTr HBR.out (by decide) (by decide))
      obtain ⟨⟨⟨es, how, val, oh, st, wk⟩, ⟨l2, z2, p2, q2⟩⟩, HR⟩ : ∃ r, Hid (runR f rs zs az n.toNat = r) := ⟨_, Lib.hid rfl⟩
      rw [show onR f az n.toNat (begM rs zs) noTr = (⟨es, how, val, oh, st, wk⟩, ⟨l2, z2, p2, q2⟩) from HR.out] at HRN
      clear hfb hng hck hz16 hal
      have HEB : Hid (es.length ≤ 100000) := Lib.hid (by have := HRN.out.evl; simp only [noTr, List.length_nil] at this; omega)
      have HOB : Hid (oh.length ≤ 1000) := Lib.hid (by have := HRN.out.hp; simp only at this; omega)
      have HTA : Hid (Tame (.slice a.ao a.n a.c)) := Lib.hid ht
      have HTM := Lib.hid htm
      have HL1 : Hid (0 + az.length ≤ 100000) := Lib.hid (by omega)
      have HL2 : Hid ((0 + az.length) + mz.length ≤ 100000) := Lib.hid (by have := HML.out; omega)
      have HAL2 : Hid ((az ++ mz).length ≤ 5000) := Lib.hid (by have := HML.out; rw [List.length_append]; omega)
      have hmore := onR_more (f := f) (az := az) (bz := mz) n.toNat (begM rs zs) noTr HBR.out
      rw [show onR f az n.toNat (begM rs zs) noTr = (⟨es, how, val, oh, st, wk⟩, ⟨l2, z2, p2, q2⟩) from HR.out] at hmore
      by_cases h5 : how = 5
      · have e5 : 5 = how := h5.symm
        subst e5
        obtain ⟨⟨⟨es2, how2, val2, oh2, st2, wk2⟩, ⟨l3, z3, p3, q3⟩⟩, HR2⟩ : ∃ r, Hid (runR f rs zs (az ++ mz) n.toNat = r) := ⟨_, Lib.hid rfl⟩
        rw [show onR f (az ++ mz) n.toNat (begM rs zs) noTr = (⟨es2, how2, val2, oh2, st2, wk2⟩, ⟨l3, z3, p3, q3⟩) from HR2.out] at hmore
        obtain ⟨ys, hys⟩ := hmore.2
        have hys : es ++ ys = es2 := hys.symm
        subst hys
        clear hmore h5 ht htm
        go_enter Tryz.func9, Tryz.ntmps9
        have Tk1 : Hid True := Lib.hid trivial
        have Tk2 : Hid True := Lib.hid trivial
        have Tk3 : Hid True := Lib.hid trivial
        have Tk4 : Hid True := Lib.hid trivial
        have Tk5 : Hid True := Lib.hid trivial
        have Tk6 : Hid True := Lib.hid trivial
        have Tk7 : Hid True := Lib.hid trivial
        have Tk8 : Hid True := Lib.hid trivial
        have Tk9 : Hid True := Lib.hid trivial
        have Tk10 : Hid True := Lib.hid trivial
        have Tk11 : Hid True := Lib.hid trivial
        have Tk12 : Hid True := Lib.hid trivial
        have Tk13 : Hid True := Lib.hid trivial
        have Tk14 : Hid True := Lib.hid trivial
        have Tk15 : Hid True := Lib.hid trivial
        have Tk16 : Hid True := Lib.hid trivial
        have Tk17 : Hid True := Lib.hid trivial
        have Tk18 : Hid True := Lib.hid trivial
        go_wp2_with (first
          | (go_at_call 21; refine (gr_is HN.out (HF.out.new HN.out) (HH.out.new HN.out) (HA.out.new HN.out) HG.out).mono ?_; rintro e wx ⟨rfl, hn⟩; replace HK : Hid (HasK wx g3 rs h a n) := Lib.hid (HasC.new HK.out hn); replace HN := Lib.hid (HN.out.trans hn); clear hn)
          | (go_at_call 28; refine (fair_is HN.out (HF.out.new HN.out) (HH.out.new HN.out) (HA.out.new HN.out) HFB.out).mono ?_; rintro e wx ⟨rfl, hn⟩; replace HK : Hid (HasK wx g3 rs h a n) := Lib.hid (HasC.new HK.out hn); replace HN := Lib.hid (HN.out.trans hn); clear hn)
          | (clear Tk1; go_at_call 23; have B3 := Lib.hid (HasC.lt HK.out); refine (run_is HL.out HN.out (HF.out.new HN.out) (HH.out.new HN.out) (HA.out.new HN.out) HCK.out HZ.out HAL.out HNB.out HR.out).mono ?_; rintro e wx ⟨ev1, so1, s1, rfl, h1, h2, h3, hn, f1, f2, f3, fcp⟩; have HE1 := Lib.hid h1; have HO1 := Lib.hid h2; have HS1 := Lib.hid h3; have FE1 := Lib.hid f1; have FO1 := Lib.hid f2; have FS1 := Lib.hid f3; have FC1 := Lib.hid fcp; have ZB := Lib.hid HN.out.size; clear h1 h2 h3 f1 f2 f3 fcp; replace HK : Hid (HasK wx g3 rs h a n) := Lib.hid (HasC.new HK.out hn); replace HN := Lib.hid (HN.out.trans hn); clear hn)
          | (clear Tk2; go_at_call 23; refine (run_is HL.out HN.out (HF.out.new HN.out) (HH.out.new HN.out) HALL.out HCK.out HZ.out HAL2.out HNB.out HR2.out).mono ?_; rintro e wx ⟨ev2, so2, s2, rfl, h1, h2, h3, hn, f1, f2, f3, fcp⟩; have HE2 := Lib.hid h1; have HO2 := Lib.hid h2; have FC2 := Lib.hid fcp; clear h1 h2 h3 f1 f2 f3 fcp; replace HK : Hid (HasK wx g3 rs h a2 n) := Lib.hid (HasC.new HK.out hn); replace A5 : Hid (HasTr wx g5 ev1 5 val so1 st wk) := Lib.hid (HasC.new A5.out hn); replace HE1 := Lib.hid (HE1.out.new hn); replace HO1 := Lib.hid (HO1.out.new hn); replace HN := Lib.hid (HN.out.trans hn); clear hn)
          | (go_at_call 31; refine (begins_is HE1.out HE2.out FC2.out HEB.out).mono ?_; rintro e wx ⟨rfl, hn⟩; replace HK : Hid (HasK wx g3 rs h a2 n) := Lib.hid (HasC.new HK.out hn); replace A5 : Hid (HasTr wx g5 ev1 5 val so1 st wk) := Lib.hid (HasC.new A5.out hn); replace HE1 := Lib.hid (HE1.out.new hn); replace HO1 := Lib.hid (HO1.out.new hn); replace A10 : Hid (HasTr wx g10 ev2 how2 val2 so2 st2 wk2) := Lib.hid (HasC.new A10.out hn); replace HE2 := Lib.hid (HE2.out.new hn); replace HO2 := Lib.hid (HO2.out.new hn); replace HN := Lib.hid (HN.out.trans hn); clear hn; have hw7 := HasTr.how A5.out; have st7 := HasTr.st A5.out; have st10 := HasTr.st A10.out)
          | (go_at_call 22; refine (knows8_from _ HL.out HN.out).mono ?_; rintro e wk ⟨rfl, hnk⟩)
          | (clear Tk3; refine wpList_boxX rfl 51 (.tmp 1) rfl (caC rs h a n) rfl ?_; intro wx g3 hg3 hl3 H1 hn1; have HK : Hid (HasK wx g3 rs h a n) := Lib.hid H1; have HN := Lib.hid hn1; clear H1 hn1 hl3)
          | (clear Tk4; refine wpList_ldK (by rfl) (.tmp 4) rfl g3 rfl HK.out ?_)
          | (clear Tk5; refine wpList_ldK (by rfl) (.tmp 4) rfl g3 rfl HK.out ?_)
          | (clear Tk6; refine wpList_ldK (by rfl) (.tmp 4) rfl g3 rfl HK.out ?_)
          | (clear Tk7; refine wpList_alX rfl 54 rfl _ zeroT_run _ rfl ?_; intro wy g5 hgT hlT H1 hn1; have d35 : g5 ≠ g3 := Nat.ne_of_gt (Nat.lt_of_lt_of_le (HasC.lt HK.out) hgT); have A5 : Hid (HasTr wy g5 nilS 0 0 nilS 0 0) := Lib.hid H1; clear H1)
          | (clear Tk8; refine wpList_alX rfl 28 rfl _ zeroS_run _ rfl ?_; intro wz g6 hgS hlS H1 hn2; have A6 : Hid (HasS wz g6 noWs nilS 0 0) := Lib.hid H1; have dTS : g5 < g6 := Nat.lt_of_lt_of_le hlT hgS; replace A5 : Hid (HasTr wz g5 nilS 0 0 nilS 0 0) := Lib.hid (HasC.new A5.out hn2); clear H1)
          | (clear Tk9; refine wpList_stTr rfl rfl (.tmp 7) (.tmp 32) rfl g5 rfl ev1 5 val so1 st wk rfl A5.out ?_; intro wu H1 k1; replace A5 : Hid (HasTr wu g5 ev1 5 val so1 st wk) := Lib.hid H1; replace A6 : Hid (HasS wu g6 noWs nilS 0 0) := Lib.hid (HasC.kept A6.out k1 (Nat.ne_of_gt dTS)); have hn3 : New wx wu := k1.below wx hgT (hn1.trans hn2); clear H1 k1)
          | (clear Tk10; refine wpList_stS rfl rfl (.tmp 8) (.tmp 33) rfl g6 rfl (l := l2) (s := s1) (p := p2) (q := q2) rfl A6.out ?_; intro wv H1 k1; have hn : New wx wv := k1.below wx (Nat.le_trans hn1.size hgS) hn3; replace A6 : Hid (HasS wv g6 l2 s1 p2 q2) := Lib.hid H1; replace A5 : Hid (HasTr wv g5 ev1 5 val so1 st wk) := Lib.hid (HasC.kept A5.out k1 (Nat.ne_of_lt dTS)); replace HE1 := Lib.hid (HE1.out.new hn); replace HO1 := Lib.hid (HO1.out.new hn); replace HS1 := Lib.hid (HS1.out.new hn); clear H1 k1 hn1 hn2 hn3 hgT hlT hgS hlS dTS; replace HK : Hid (HasK wv g3 rs h a n) := Lib.hid (HasC.new HK.out hn); replace HN := Lib.hid (HN.out.trans hn); clear hn; have ca := HasK.an (HasC.new HK.out (alloc_new wv (.cells #[] 2))))
          | (clear Tk11; at_builtin; refine wpList_appRow rfl (.tmp 35) (.tmp 37) rfl wv.heap.size 0 _ [] rfl (own_empty64 wv _ (Nat.le_refl _)) _ rfl az ((HA.out.new HN.out).new (alloc_new _ _)) HTA.out HL1.out (by rw [alloc_size]; omega) ?_; intro v1 wy ho1 hnw1; have N1 : New wv wy := hnw1 wv (Nat.le_refl _) (alloc_new _ _))
          | (clear Tk12; at_builtin; refine wpList_appRow rfl (.tmp 38) (.tmp 39) rfl wv.heap.size (0 + az.length) _ ([] ++ az) rfl ho1 _ rfl mz ((HMO.out.new HN.out).new N1) HTM.out HL2.out N1.size ?_; intro v2 wz ho2 hnw2; have hn : New wv wz := hnw2 wv (Nat.le_refl _) N1; have hal2 : Hp wz v2 (([] ++ az) ++ mz) := own_hp ho2; have hfr2 : Fresh wv.heap.size v2 (([] ++ az) ++ mz) := own_fresh ho2; rw [List.nil_append] at hal2 hfr2; obtain ⟨a2, e1⟩ : ∃ a2 : Sl, v2 = .slice a2.ao a2.n a2.c := (by obtain ⟨y1, y2, y3⟩ := hal2.form; exact ⟨⟨y1, _, y2⟩, y3⟩); subst e1; have HALL : Hid (Hp wz (svS a2) (az ++ mz)) := Lib.hid hal2; have FALL : Hid (Fresh wv.heap.size (svS a2) (az ++ mz)) := Lib.hid hfr2; have bk := Lib.hid (HasC.lt HK.out); replace A5 : Hid (HasTr wz g5 ev1 5 val so1 st wk) := Lib.hid (HasC.new A5.out hn); replace HE1 := Lib.hid (HE1.out.new hn); replace HO1 := Lib.hid (HO1.out.new hn); clear hal2 hfr2 ho1 ho2 hnw1 hnw2 N1; replace HK : Hid (HasK wz g3 rs h a n) := Lib.hid (HasC.new HK.out hn); replace HN := Lib.hid (HN.out.trans hn); clear hn)
          | (clear Tk13; refine wpList_stKa rfl rfl (.tmp 41) (.tmp 40) rfl g3 rfl a2 rfl HK.out ?_; intro wx H1 k1; replace HK : Hid (HasK wx g3 rs h a2 n) := Lib.hid H1; replace A5 : Hid (HasTr wx g5 ev1 5 val so1 st wk) := Lib.hid (HasC.kept A5.out k1 d35); replace HE1 := Lib.hid (EvAt.far HE1.out FE1.out B3.out k1.other); replace HO1 := Lib.hid (Hp.far HO1.out FO1.out B3.out k1.other); replace HALL := Lib.hid (Hp.far HALL.out FALL.out bk.out k1.other); replace HN := Lib.hid (k1.below _ hg3 HN.out); clear H1 k1)
          | (clear Tk14; refine wpList_ldK (by rfl) (.tmp 4) rfl g3 rfl HK.out ?_)
          | (clear Tk15; refine wpList_alX rfl 54 rfl _ zeroT_run _ rfl ?_; intro wy g10 hgT hlT H1 hn1; have A10 : Hid (HasTr wy g10 nilS 0 0 nilS 0 0) := Lib.hid H1; clear H1)
          | (clear Tk16; refine wpList_alX rfl 28 rfl _ zeroS_run _ rfl ?_; intro wz g11 hgS hlS H1 hn2; have A11 : Hid (HasS wz g11 noWs nilS 0 0) := Lib.hid H1; have dTS : g10 < g11 := Nat.lt_of_lt_of_le hlT hgS; replace A10 : Hid (HasTr wz g10 nilS 0 0 nilS 0 0) := Lib.hid (HasC.new A10.out hn2); clear H1)
          | (clear Tk17; refine wpList_stTr rfl rfl (.tmp 10) (.tmp 46) rfl g10 rfl ev2 how2 val2 so2 st2 wk2 rfl A10.out ?_; intro wu H1 k1; replace A10 : Hid (HasTr wu g10 ev2 how2 val2 so2 st2 wk2) := Lib.hid H1; replace A11 : Hid (HasS wu g11 noWs nilS 0 0) := Lib.hid (HasC.kept A11.out k1 (Nat.ne_of_gt dTS)); have hn3 : New wx wu := k1.below wx hgT (hn1.trans hn2); clear H1 k1)
          | (clear Tk18; refine wpList_stS rfl rfl (.tmp 11) (.tmp 47) rfl g11 rfl (l := l3) (s := s2) (p := p3) (q := q3) rfl A11.out ?_; intro wv H1 k1; have hn : New wx wv := k1.below wx (Nat.le_trans hn1.size hgS) hn3; replace A11 : Hid (HasS wv g11 l3 s2 p3 q3) := Lib.hid H1; replace A10 : Hid (HasTr wv g10 ev2 how2 val2 so2 st2 wk2) := Lib.hid (HasC.kept A10.out k1 (Nat.ne_of_lt dTS)); replace HE2 := Lib.hid (HE2.out.new hn); replace HO2 := Lib.hid (HO2.out.new hn); replace A5 : Hid (HasTr wv g5 ev1 5 val so1 st wk) := Lib.hid (HasC.new A5.out hn); replace HE1 := Lib.hid (HE1.out.new hn); replace HO1 := Lib.hid (HO1.out.new hn); clear H1 k1 hn1 hn2 hn3 hgT hlT hgS hlS dTS; replace HK : Hid (HasK wv g3 rs h a2 n) := Lib.hid (HasC.new HK.out hn); replace HN := Lib.hid (HN.out.trans hn); clear hn; have c7 := HasTr.ev A5.out; have c10 := HasTr.ev A10.out; have hw7 := HasTr.how A5.out; have st7 := HasTr.st A5.out; have st10 := HasTr.st A10.out))
        go_ret
        exact ⟨rfl, hnk⟩
      · have q5 : (how == 5) = false := bneq_of h5
        have HR2 : Hid (runR f rs zs (az ++ mz) n.toNat = (⟨es, how, val, oh, st, wk⟩, ⟨l2, z2, p2, q2⟩)) := Lib.hid (hmore.1 h5)
        clear hmore h5 ht htm
        go_enter Tryz.func9, Tryz.ntmps9
        have Tk1 : Hid True := Lib.hid trivial
        have Tk2 : Hid True := Lib.hid trivial
        have Tk3 : Hid True := Lib.hid trivial
        have Tk4 : Hid True := Lib.hid trivial
        have Tk5 : Hid True := Lib.hid trivial
        have Tk6 : Hid True := Lib.hid trivial
        have Tk7 : Hid True := Lib.hid trivial
        have Tk8 : Hid True := Lib.hid trivial
        have Tk9 : Hid True := Lib.hid trivial
        have Tk10 : Hid True := Lib.hid trivial
        have Tk11 : Hid True := Lib.hid trivial
        have Tk12 : Hid True := Lib.hid trivial
        have Tk13 : Hid True := Lib.hid trivial
        have Tk14 : Hid True := Lib.hid trivial
        have Tk15 : Hid True := Lib.hid trivial
        have Tk16 : Hid True := Lib.hid trivial
        have Tk17 : Hid True := Lib.hid trivial
        have Tk18 : Hid True := Lib.hid trivial
        have Tk19 : Hid True := Lib.hid trivial
        have Tk20 : Hid True := Lib.hid trivial
        go_wp2_with (first
          | (go_at_call 21; refine (gr_is HN.out (HF.out.new HN.out) (HH.out.new HN.out) (HA.out.new HN.out) HG.out).mono ?_; rintro e wx ⟨rfl, hn⟩; replace HK : Hid (HasK wx g3 rs h a n) := Lib.hid (HasC.new HK.out hn); replace HN := Lib.hid (HN.out.trans hn); clear hn)
          | (go_at_call 28; refine (fair_is HN.out (HF.out.new HN.out) (HH.out.new HN.out) (HA.out.new HN.out) HFB.out).mono ?_; rintro e wx ⟨rfl, hn⟩; replace HK : Hid (HasK wx g3 rs h a n) := Lib.hid (HasC.new HK.out hn); replace HN := Lib.hid (HN.out.trans hn); clear hn)
          | (clear Tk1; go_at_call 23; have B3 := Lib.hid (HasC.lt HK.out); refine (run_is HL.out HN.out (HF.out.new HN.out) (HH.out.new HN.out) (HA.out.new HN.out) HCK.out HZ.out HAL.out HNB.out HR.out).mono ?_; rintro e wx ⟨ev1, so1, s1, rfl, h1, h2, h3, hn, f1, f2, f3, fcp⟩; have HE1 := Lib.hid h1; have HO1 := Lib.hid h2; have HS1 := Lib.hid h3; have FE1 := Lib.hid f1; have FO1 := Lib.hid f2; have FS1 := Lib.hid f3; have FC1 := Lib.hid fcp; have ZB := Lib.hid HN.out.size; clear h1 h2 h3 f1 f2 f3 fcp; replace HK : Hid (HasK wx g3 rs h a n) := Lib.hid (HasC.new HK.out hn); replace HN := Lib.hid (HN.out.trans hn); clear hn)
          | (clear Tk2; go_at_call 23; refine (run_is HL.out HN.out (HF.out.new HN.out) (HH.out.new HN.out) HALL.out HCK.out HZ.out HAL2.out HNB.out HR2.out).mono ?_; rintro e wx ⟨ev2, so2, s2, rfl, h1, h2, h3, hn, f1, f2, f3, fcp⟩; have HE2 := Lib.hid h1; have HO2 := Lib.hid h2; have FC2 := Lib.hid fcp; clear h1 h2 h3 f1 f2 f3 fcp; replace HK : Hid (HasK wx g3 rs h a2 n) := Lib.hid (HasC.new HK.out hn); replace A5 : Hid (HasTr wx g5 ev1 how val so1 st wk) := Lib.hid (HasC.new A5.out hn); replace HE1 := Lib.hid (HE1.out.new hn); replace HO1 := Lib.hid (HO1.out.new hn); replace HN := Lib.hid (HN.out.trans hn); clear hn)
          | (go_at_call 31; refine (begins_is (ys := []) HE1.out (by rw [List.append_nil]; exact HE2.out) FC2.out HEB.out).mono ?_; rintro e wx ⟨rfl, hn⟩; replace HK : Hid (HasK wx g3 rs h a2 n) := Lib.hid (HasC.new HK.out hn); replace A5 : Hid (HasTr wx g5 ev1 how val so1 st wk) := Lib.hid (HasC.new A5.out hn); replace HE1 := Lib.hid (HE1.out.new hn); replace HO1 := Lib.hid (HO1.out.new hn); replace A10 : Hid (HasTr wx g10 ev2 how val so2 st wk) := Lib.hid (HasC.new A10.out hn); replace HE2 := Lib.hid (HE2.out.new hn); replace HO2 := Lib.hid (HO2.out.new hn); replace HN := Lib.hid (HN.out.trans hn); clear hn; have hw7 := HasTr.how A5.out; have st7 := HasTr.st A5.out; have st10 := HasTr.st A10.out)
          | (go_at_call 29; refine (rTSame_any HE1.out HE2.out HO1.out HO2.out HEB.out HOB.out).mono ?_; rintro e wx ⟨rfl, hn⟩; replace HK : Hid (HasK wx g3 rs h a2 n) := Lib.hid (HasC.new HK.out hn); replace A5 : Hid (HasTr wx g5 ev1 how val so1 st wk) := Lib.hid (HasC.new A5.out hn); replace HE1 := Lib.hid (HE1.out.new hn); replace HO1 := Lib.hid (HO1.out.new hn); replace A10 : Hid (HasTr wx g10 ev2 how val so2 st wk) := Lib.hid (HasC.new A10.out hn); replace HE2 := Lib.hid (HE2.out.new hn); replace HO2 := Lib.hid (HO2.out.new hn); replace HN := Lib.hid (HN.out.trans hn); clear hn)
          | (go_at_call 22; refine (knows8_from _ HL.out HN.out).mono ?_; rintro e wk ⟨rfl, hnk⟩)
          | (clear Tk3; refine wpList_boxX rfl 51 (.tmp 1) rfl (caC rs h a n) rfl ?_; intro wx g3 hg3 hl3 H1 hn1; have HK : Hid (HasK wx g3 rs h a n) := Lib.hid H1; have HN := Lib.hid hn1; clear H1 hn1 hl3)
          | (clear Tk4; refine wpList_ldK (by rfl) (.tmp 4) rfl g3 rfl HK.out ?_)
          | (clear Tk5; refine wpList_ldK (by rfl) (.tmp 4) rfl g3 rfl HK.out ?_)
          | (clear Tk6; refine wpList_ldK (by rfl) (.tmp 4) rfl g3 rfl HK.out ?_)
          | (clear Tk7; refine wpList_alX rfl 54 rfl _ zeroT_run _ rfl ?_; intro wy g5 hgT hlT H1 hn1; have d35 : g5 ≠ g3 := Nat.ne_of_gt (Nat.lt_of_lt_of_le (HasC.lt HK.out) hgT); have A5 : Hid (HasTr wy g5 nilS 0 0 nilS 0 0) := Lib.hid H1; clear H1)
          | (clear Tk8; refine wpList_alX rfl 28 rfl _ zeroS_run _ rfl ?_; intro wz g6 hgS hlS H1 hn2; have A6 : Hid (HasS wz g6 noWs nilS 0 0) := Lib.hid H1; have dTS : g5 < g6 := Nat.lt_of_lt_of_le hlT hgS; replace A5 : Hid (HasTr wz g5 nilS 0 0 nilS 0 0) := Lib.hid (HasC.new A5.out hn2); clear H1)
          | (clear Tk9; refine wpList_stTr rfl rfl (.tmp 7) (.tmp 32) rfl g5 rfl ev1 how val so1 st wk rfl A5.out ?_; intro wu H1 k1; replace A5 : Hid (HasTr wu g5 ev1 how val so1 st wk) := Lib.hid H1; replace A6 : Hid (HasS wu g6 noWs nilS 0 0) := Lib.hid (HasC.kept A6.out k1 (Nat.ne_of_gt dTS)); have hn3 : New wx wu := k1.below wx hgT (hn1.trans hn2); clear H1 k1)
          | (clear Tk10; refine wpList_stS rfl rfl (.tmp 8) (.tmp 33) rfl g6 rfl (l := l2) (s := s1) (p := p2) (q := q2) rfl A6.out ?_; intro wv H1 k1; have hn : New wx wv := k1.below wx (Nat.le_trans hn1.size hgS) hn3; replace A6 : Hid (HasS wv g6 l2 s1 p2 q2) := Lib.hid H1; replace A5 : Hid (HasTr wv g5 ev1 how val so1 st wk) := Lib.hid (HasC.kept A5.out k1 (Nat.ne_of_lt dTS)); replace HE1 := Lib.hid (HE1.out.new hn); replace HO1 := Lib.hid (HO1.out.new hn); replace HS1 := Lib.hid (HS1.out.new hn); clear H1 k1 hn1 hn2 hn3 hgT hlT hgS hlS dTS; replace HK : Hid (HasK wv g3 rs h a n) := Lib.hid (HasC.new HK.out hn); replace HN := Lib.hid (HN.out.trans hn); clear hn; have ca := HasK.an (HasC.new HK.out (alloc_new wv (.cells #[] 2))))
          | (clear Tk11; at_builtin; refine wpList_appRow rfl (.tmp 35) (.tmp 37) rfl wv.heap.size 0 _ [] rfl (own_empty64 wv _ (Nat.le_refl _)) _ rfl az ((HA.out.new HN.out).new (alloc_new _ _)) HTA.out HL1.out (by rw [alloc_size]; omega) ?_; intro v1 wy ho1 hnw1; have N1 : New wv wy := hnw1 wv (Nat.le_refl _) (alloc_new _ _))
          | (clear Tk12; at_builtin; refine wpList_appRow rfl (.tmp 38) (.tmp 39) rfl wv.heap.size (0 + az.length) _ ([] ++ az) rfl ho1 _ rfl mz ((HMO.out.new HN.out).new N1) HTM.out HL2.out N1.size ?_; intro v2 wz ho2 hnw2; have hn : New wv wz := hnw2 wv (Nat.le_refl _) N1; have hal2 : Hp wz v2 (([] ++ az) ++ mz) := own_hp ho2; have hfr2 : Fresh wv.heap.size v2 (([] ++ az) ++ mz) := own_fresh ho2; rw [List.nil_append] at hal2 hfr2; obtain ⟨a2, e1⟩ : ∃ a2 : Sl, v2 = .slice a2.ao a2.n a2.c := (by obtain ⟨y1, y2, y3⟩ := hal2.form; exact ⟨⟨y1, _, y2⟩, y3⟩); subst e1; have HALL : Hid (Hp wz (svS a2) (az ++ mz)) := Lib.hid hal2; have FALL : Hid (Fresh wv.heap.size (svS a2) (az ++ mz)) := Lib.hid hfr2; have bk := Lib.hid (HasC.lt HK.out); replace A5 : Hid (HasTr wz g5 ev1 how val so1 st wk) := Lib.hid (HasC.new A5.out hn); replace HE1 := Lib.hid (HE1.out.new hn); replace HO1 := Lib.hid (HO1.out.new hn); clear hal2 hfr2 ho1 ho2 hnw1 hnw2 N1; replace HK : Hid (HasK wz g3 rs h a n) := Lib.hid (HasC.new HK.out hn); replace HN := Lib.hid (HN.out.trans hn); clear hn)
          | (clear Tk13; refine wpList_stKa rfl rfl (.tmp 41) (.tmp 40) rfl g3 rfl a2 rfl HK.out ?_; intro wx H1 k1; replace HK : Hid (HasK wx g3 rs h a2 n) := Lib.hid H1; replace A5 : Hid (HasTr wx g5 ev1 how val so1 st wk) := Lib.hid (HasC.kept A5.out k1 d35); replace HE1 := Lib.hid (EvAt.far HE1.out FE1.out B3.out k1.other); replace HO1 := Lib.hid (Hp.far HO1.out FO1.out B3.out k1.other); replace HALL := Lib.hid (Hp.far HALL.out FALL.out bk.out k1.other); replace HN := Lib.hid (k1.below _ hg3 HN.out); clear H1 k1)
          | (clear Tk14; refine wpList_ldK (by rfl) (.tmp 4) rfl g3 rfl HK.out ?_)
          | (clear Tk15; refine wpList_alX rfl 54 rfl _ zeroT_run _ rfl ?_; intro wy g10 hgT hlT H1 hn1; have A10 : Hid (HasTr wy g10 nilS 0 0 nilS 0 0) := Lib.hid H1; clear H1)
          | (clear Tk16; refine wpList_alX rfl 28 rfl _ zeroS_run _ rfl ?_; intro wz g11 hgS hlS H1 hn2; have A11 : Hid (HasS wz g11 noWs nilS 0 0) := Lib.hid H1; have dTS : g10 < g11 := Nat.lt_of_lt_of_le hlT hgS; replace A10 : Hid (HasTr wz g10 nilS 0 0 nilS 0 0) := Lib.hid (HasC.new A10.out hn2); clear H1)
          | (clear Tk17; refine wpList_stTr rfl rfl (.tmp 10) (.tmp 46) rfl g10 rfl ev2 how val so2 st wk rfl A10.out ?_; intro wu H1 k1; replace A10 : Hid (HasTr wu g10 ev2 how val so2 st wk) := Lib.hid H1; replace A11 : Hid (HasS wu g11 noWs nilS 0 0) := Lib.hid (HasC.kept A11.out k1 (Nat.ne_of_gt dTS)); have hn3 : New wx wu := k1.below wx hgT (hn1.trans hn2); clear H1 k1)
          | (clear Tk18; refine wpList_stS rfl rfl (.tmp 11) (.tmp 47) rfl g11 rfl (l := l2) (s := s2) (p := p2) (q := q2) rfl A11.out ?_; intro wv H1 k1; have hn : New wx wv := k1.below wx (Nat.le_trans hn1.size hgS) hn3; replace A11 : Hid (HasS wv g11 l2 s2 p2 q2) := Lib.hid H1; replace A10 : Hid (HasTr wv g10 ev2 how val so2 st wk) := Lib.hid (HasC.kept A10.out k1 (Nat.ne_of_lt dTS)); replace HE2 := Lib.hid (HE2.out.new hn); replace HO2 := Lib.hid (HO2.out.new hn); replace A5 : Hid (HasTr wv g5 ev1 how val so1 st wk) := Lib.hid (HasC.new A5.out hn); replace HE1 := Lib.hid (HE1.out.new hn); replace HO1 := Lib.hid (HO1.out.new hn); clear H1 k1 hn1 hn2 hn3 hgT hlT hgS hlS dTS; replace HK : Hid (HasK wv g3 rs h a2 n) := Lib.hid (HasC.new HK.out hn); replace HN := Lib.hid (HN.out.trans hn); clear hn; have c7 := HasTr.ev A5.out; have c10 := HasTr.ev A10.out; have hw7 := HasTr.how A5.out; have st7 := HasTr.st A5.out; have st10 := HasTr.st A10.out)
          | (clear Tk19; refine wpList_ldTr (by rfl) (.tmp 7) rfl g5 rfl A5.out ?_)
          | (clear Tk20; refine wpList_ldTr (by rfl) (.tmp 10) rfl g10 rfl A10.out ?_))
        go_ret
        exact ⟨rfl, hnk⟩
end Go.Proofs.YtfllkagbphgjlaaGreatDoor
