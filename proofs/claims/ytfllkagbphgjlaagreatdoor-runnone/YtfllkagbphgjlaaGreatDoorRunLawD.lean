/-
  'RunNone': without fuel nothing is done; and how much was done is never more than the fuel: true, for every input.
-/
import Derived.Test.YtfllkagbphgjlaaGreatDoorRunK
import Derived.Test.YtfllkagbphgjlaaGreatDoorCaseOpen
import Derived.Test.YtfllkagbphgjlaaGreatDoorRunH
namespace Go.Proofs.YtfllkagbphgjlaaGreatDoor
open Go.RowKit

set_option maxHeartbeats 16000000 in
set_option maxRecDepth 100000 in
theorem runNone_law (v : Value) (f : List I) (rs : Nat → Int) (h a : Sl) (n : Int) (zs az : List Int) (w : World) (hf : FunAt w v f) (_hi : ∀ y ∈ f, In64I y) (_hm : f.length ≤ maxLen) (hh : Hp w (.slice h.ao h.n h.c) zs) (ha : Hp w (.slice a.ao a.n a.c) az) (_ht : Tame (.slice a.ao a.n a.c)) (hl : Laid w) :
    Calls Tryz.prog 8 #[v, .agg (caC rs h a n).toArray] w fun e w' => e = .returned (.bool true) ∧ New w w' := by
  obtain ⟨fo, fc, rfl⟩ := hf.form
  have HL := Lib.hid hl
  have HF := Lib.hid hf
  have HH : Hid (Hp w (svS h) zs) := Lib.hid hh
  have HA : Hid (Hp w (svS a) az) := Lib.hid ha
  clear hl hf hh ha
  cases hg : grR f.length zs.length az.length n with
  | true =>
    have HG := Lib.hid hg
    clear hg
    go_enter Tryz.func8, Tryz.ntmps8
    have Tk1 : Hid True := Lib.hid trivial
    have Tk2 : Hid True := Lib.hid trivial
    go_wp2_with (first
      | (go_at_call 21; refine (gr_is HN.out (HF.out.new HN.out) (HH.out.new HN.out) (HA.out.new HN.out) HG.out).mono ?_; rintro e wx ⟨rfl, hn⟩; replace HK : Hid (HasK wx g3 rs h a n) := Lib.hid (HasC.new HK.out hn); replace HN := Lib.hid (HN.out.trans hn); clear hn)
      | (go_at_call 22; refine (knows8_from _ HL.out HN.out).mono ?_; rintro e wk ⟨rfl, hnk⟩)
      | (clear Tk1; refine wpList_boxX rfl 51 (.tmp 1) rfl (caC rs h a n) rfl ?_; intro wx g3 hg3 hl3 H1 hn1; have HK : Hid (HasK wx g3 rs h a n) := Lib.hid H1; have HN := Lib.hid hn1; clear H1 hn1 hl3)
      | (clear Tk2; refine wpList_ldK (by rfl) (.tmp 3) rfl g3 rfl HK.out ?_))
    go_ret
    exact ⟨rfl, hnk⟩
  | false =>
    have HG := Lib.hid hg
    have hng := of_decide_eq_false hg
    clear hg
    cases hfb : fairB f zs az n with
    | false =>
      have HFB := Lib.hid hfb
      clear hfb hng
      go_enter Tryz.func8, Tryz.ntmps8
      have Tk1 : Hid True := Lib.hid trivial
      have Tk2 : Hid True := Lib.hid trivial
      have Tk3 : Hid True := Lib.hid trivial
      go_wp2_with (first
        | (go_at_call 21; refine (gr_is HN.out (HF.out.new HN.out) (HH.out.new HN.out) (HA.out.new HN.out) HG.out).mono ?_; rintro e wx ⟨rfl, hn⟩; replace HK : Hid (HasK wx g3 rs h a n) := Lib.hid (HasC.new HK.out hn); replace HN := Lib.hid (HN.out.trans hn); clear hn)
        | (go_at_call 28; refine (fair_is HN.out (HF.out.new HN.out) (HH.out.new HN.out) (HA.out.new HN.out) HFB.out).mono ?_; rintro e wx ⟨rfl, hn⟩; replace HK : Hid (HasK wx g3 rs h a n) := Lib.hid (HasC.new HK.out hn); replace HN := Lib.hid (HN.out.trans hn); clear hn)
        | (go_at_call 22; refine (knows8_from _ HL.out HN.out).mono ?_; rintro e wk ⟨rfl, hnk⟩)
        | (clear Tk1; refine wpList_boxX rfl 51 (.tmp 1) rfl (caC rs h a n) rfl ?_; intro wx g3 hg3 hl3 H1 hn1; have HK : Hid (HasK wx g3 rs h a n) := Lib.hid H1; have HN := Lib.hid hn1; clear H1 hn1 hl3)
        | (clear Tk2; refine wpList_ldK (by rfl) (.tmp 3) rfl g3 rfl HK.out ?_)
        | (clear Tk3; refine wpList_ldK (by rfl) (.tmp 3) rfl g3 rfl HK.out ?_))
      go_ret
      exact ⟨rfl, hnk⟩
    | true =>
      have HFB := Lib.hid hfb
      obtain ⟨hck, hz16, hal, hn0, hn5⟩ := fair_iff.mp hfb
      have hn1k : n ≤ 1000 := by omega
      have hak : az.length ≤ 1000 := by omega
      have HCK := Lib.hid hck
      have HZ := Lib.hid hz16
      have HAL := Lib.hid hal
      have HNB : Hid (0 ≤ n ∧ n ≤ 5000) := Lib.hid ⟨hn0, hn5⟩
      have HBR : Hid (mcB f (begM rs zs) = true) := Lib.hid (beg_right hck hz16)
      have HRN := Lib.hid (onR_rn (az := az) n.toNat (begM rs zs) noTr HBR.out (by decide) (by decide))
      obtain ⟨⟨⟨es, how, val, oh, st, wk⟩, ⟨l2, z2, p2, q2⟩⟩, HR⟩ : ∃ r, Hid (runR f rs zs az n.toNat = r) := ⟨_, Lib.hid rfl⟩
      rw [show onR f az n.toNat (begM rs zs) noTr = (⟨es, how, val, oh, st, wk⟩, ⟨l2, z2, p2, q2⟩) from HR.out] at HRN
      clear hfb hng hck hz16 hal
      obtain ⟨ho, hm, hc⟩ := h
      have hlz : z2.length = hm := by
        have h1 := HRN.out.len
        have h2 : hm = zs.length := Hp.len HH.out
        rw [h2]
        exact h1
      have HLZ := Lib.hid hlz
      have HZK : Hid (zs.length ≤ 1000) := Lib.hid (by have := HZ.out; omega)
      have hwk : ¬ st < wk := by
        have h1 := HRN.out.wk2
        have h2 : wk - 0 ≤ st - 0 := h1
        omega
      have HR2 : Hid (runR f rs zs az (0 : Int).toNat = (⟨[], 0, 0, [], 0, 0⟩, ⟨begL rs, zs, 0, 0⟩)) := Lib.hid rfl
      clear hlz
      go_enter Tryz.func8, Tryz.ntmps8
      have Tk1 : Hid True := Lib.hid trivial
      have Tk2 : Hid True := Lib.hid trivial
      have Tk3 : Hid True := Lib.hid trivial
      have Tk4 : Hid True := Lib.hid trivial
      have Tk5 : Hid True := Lib.hid trivial
      have Tk6 : Hid True := Lib.hid trivial
      have Tk7 : Hid True := Lib.hid trivial
      have Tk8 : Hid True := Lib.hid trivial
      have Tk9 : Hid True := Lib.hid trivial
      have Tk10 : Hid True := Lib.hid trivial
      have Tk11 : Hid True := Lib.hid trivial
      have Tk12 : Hid True := Lib.hid trivial
      have Tk13 : Hid True := Lib.hid trivial
      have Tk14 : Hid True := Lib.hid trivial
      have Tk15 : Hid True := Lib.hid trivial
      have Tk16 : Hid True := Lib.hid trivial
      go_wp2_with (first
        | (go_at_call 21; refine (gr_is HN.out (HF.out.new HN.out) (HH.out.new HN.out) (HA.out.new HN.out) HG.out).mono ?_; rintro e wx ⟨rfl, hn⟩; replace HK : Hid (HasK wx g3 rs ⟨ho, hm, hc⟩ a n) := Lib.hid (HasC.new HK.out hn); replace HN := Lib.hid (HN.out.trans hn); clear hn)
        | (go_at_call 28; refine (fair_is HN.out (HF.out.new HN.out) (HH.out.new HN.out) (HA.out.new HN.out) HFB.out).mono ?_; rintro e wx ⟨rfl, hn⟩; replace HK : Hid (HasK wx g3 rs ⟨ho, hm, hc⟩ a n) := Lib.hid (HasC.new HK.out hn); replace HN := Lib.hid (HN.out.trans hn); clear hn)
        | (clear Tk1; go_at_call 23; refine (run_is HL.out HN.out (HF.out.new HN.out) (HH.out.new HN.out) (HA.out.new HN.out) HCK.out HZ.out HAL.out HNB.out HR.out).mono ?_; rintro e wx ⟨ev1, so1, s1, rfl, h1, h2, h3, hn, f1, f2, f3, fcp⟩; obtain ⟨x1, x2, x3⟩ := s1; have hx2 : hm = x2 := (by have e1 : x2 = z2.length := Hp.len h3; rw [e1, HLZ.out]); subst hx2; have HE1 := Lib.hid h1; have HO1 := Lib.hid h2; have HS1 := Lib.hid h3; have FE1 := Lib.hid f1; have FO1 := Lib.hid f2; have FS1 := Lib.hid f3; have FC1 := Lib.hid fcp; have ZB := Lib.hid HN.out.size; clear h1 h2 h3 f1 f2 f3 fcp; replace HK : Hid (HasK wx g3 rs ⟨ho, hm, hc⟩ a n) := Lib.hid (HasC.new HK.out hn); replace HN := Lib.hid (HN.out.trans hn); clear hn)
        | (clear Tk2; go_at_call 23; refine (run_is HL.out HN.out (HF.out.new HN.out) (HH.out.new HN.out) (HA.out.new HN.out) HCK.out HZ.out HAL.out (n := 0) (by decide) HR2.out).mono ?_; rintro e wx ⟨ev2, so2, s2, rfl, h1, h2, h3, hn, _⟩; obtain ⟨y1, y2, y3⟩ := ev2; have hy2 : 0 = y2 := (by obtain ⟨u1, u2, u3⟩ := h1.form; simp only [svS, Value.slice.injEq] at u3; exact u3.2.1.symm); subst hy2; have HS2 := Lib.hid h3; clear h1 h2 h3; replace HK : Hid (HasK wx g3 rs ⟨ho, hm, hc⟩ a 0) := Lib.hid (HasC.new HK.out hn); replace A5 : Hid (HasTr wx g5 ev1 how val so1 st wk) := Lib.hid (HasC.new A5.out hn); replace A6 : Hid (HasS wx g6 l2 ⟨x1, hm, x3⟩ p2 q2) := Lib.hid (HasC.new A6.out hn); replace HN := Lib.hid (HN.out.trans hn); clear hn)
        | (clear Tk3; refine wpList_boxX rfl 51 (.tmp 1) rfl (caC rs ⟨ho, hm, hc⟩ a n) rfl ?_; intro wx g3 hg3 hl3 H1 hn1; have HK : Hid (HasK wx g3 rs ⟨ho, hm, hc⟩ a n) := Lib.hid H1; have HN := Lib.hid hn1; clear H1 hn1 hl3)
        | (clear Tk4; refine wpList_ldK (by rfl) (.tmp 3) rfl g3 rfl HK.out ?_)
        | (clear Tk5; refine wpList_ldK (by rfl) (.tmp 3) rfl g3 rfl HK.out ?_)
        | (clear Tk6; refine wpList_ldK (by rfl) (.tmp 3) rfl g3 rfl HK.out ?_)
        | (clear Tk7; refine wpList_alX rfl 54 rfl _ zeroT_run _ rfl ?_; intro wy g5 hgT hlT H1 hn1; have d35 : g5 ≠ g3 := Nat.ne_of_gt (Nat.lt_of_lt_of_le (HasC.lt HK.out) hgT); have A5 : Hid (HasTr wy g5 nilS 0 0 nilS 0 0) := Lib.hid H1; clear H1)
        | (clear Tk8; refine wpList_alX rfl 28 rfl _ zeroS_run _ rfl ?_; intro wz g6 hgS hlS H1 hn2; have d36 : g6 ≠ g3 := Nat.ne_of_gt (Nat.lt_of_lt_of_le (HasC.lt HK.out) (Nat.le_trans hn1.size hgS)); have A6 : Hid (HasS wz g6 noWs nilS 0 0) := Lib.hid H1; have dTS : g5 < g6 := Nat.lt_of_lt_of_le hlT hgS; replace A5 : Hid (HasTr wz g5 nilS 0 0 nilS 0 0) := Lib.hid (HasC.new A5.out hn2); clear H1)
        | (clear Tk9; refine wpList_stTr rfl rfl (.tmp 5) (.tmp 25) rfl g5 rfl ev1 how val so1 st wk rfl A5.out ?_; intro wu H1 k1; replace A5 : Hid (HasTr wu g5 ev1 how val so1 st wk) := Lib.hid H1; replace A6 : Hid (HasS wu g6 noWs nilS 0 0) := Lib.hid (HasC.kept A6.out k1 (Nat.ne_of_gt dTS)); have hn3 : New wx wu := k1.below wx hgT (hn1.trans hn2); clear H1 k1)
        | (clear Tk10; refine wpList_stS rfl rfl (.tmp 6) (.tmp 26) rfl g6 rfl (l := l2) (s := ⟨x1, hm, x3⟩) (p := p2) (q := q2) rfl A6.out ?_; intro wv H1 k1; have hn : New wx wv := k1.below wx (Nat.le_trans hn1.size hgS) hn3; replace A6 : Hid (HasS wv g6 l2 ⟨x1, hm, x3⟩ p2 q2) := Lib.hid H1; replace A5 : Hid (HasTr wv g5 ev1 how val so1 st wk) := Lib.hid (HasC.kept A5.out k1 (Nat.ne_of_lt dTS)); replace HE1 := Lib.hid (HE1.out.new hn); replace HO1 := Lib.hid (HO1.out.new hn); replace HS1 := Lib.hid (HS1.out.new hn); clear H1 k1 hn1 hn2 hn3 hgT hlT hgS hlS dTS; replace HK : Hid (HasK wv g3 rs ⟨ho, hm, hc⟩ a n) := Lib.hid (HasC.new HK.out hn); replace HN := Lib.hid (HN.out.trans hn); clear hn)
        | (clear Tk11; refine wpList_stKf rfl rfl (.tmp 28) (.const (.int .i64 0)) rfl g3 rfl 0 rfl HK.out ?_; intro wx H1 k1; replace HK : Hid (HasK wx g3 rs ⟨ho, hm, hc⟩ a 0) := Lib.hid H1; replace A5 : Hid (HasTr wx g5 ev1 how val so1 st wk) := Lib.hid (HasC.kept A5.out k1 d35); replace A6 : Hid (HasS wx g6 l2 ⟨x1, hm, x3⟩ p2 q2) := Lib.hid (HasC.kept A6.out k1 d36); replace HN := Lib.hid (k1.below _ hg3 HN.out); clear H1 k1)
        | (clear Tk12; refine wpList_ldK (by rfl) (.tmp 3) rfl g3 rfl HK.out ?_)
        | (clear Tk13; refine wpList_alX rfl 54 rfl _ zeroT_run _ rfl ?_; intro wy g8 hgT hlT H1 hn1; have A8 : Hid (HasTr wy g8 nilS 0 0 nilS 0 0) := Lib.hid H1; clear H1)
        | (clear Tk14; refine wpList_alX rfl 28 rfl _ zeroS_run _ rfl ?_; intro wz g9 hgS hlS H1 hn2; have A9 : Hid (HasS wz g9 noWs nilS 0 0) := Lib.hid H1; have dTS : g8 < g9 := Nat.lt_of_lt_of_le hlT hgS; replace A8 : Hid (HasTr wz g8 nilS 0 0 nilS 0 0) := Lib.hid (HasC.new A8.out hn2); clear H1)
        | (clear Tk15; refine wpList_stTr rfl rfl (.tmp 8) (.tmp 33) rfl g8 rfl ⟨y1, 0, y3⟩ 0 0 so2 0 0 rfl A8.out ?_; intro wu H1 k1; replace A8 : Hid (HasTr wu g8 ⟨y1, 0, y3⟩ 0 0 so2 0 0) := Lib.hid H1; replace A9 : Hid (HasS wu g9 noWs nilS 0 0) := Lib.hid (HasC.kept A9.out k1 (Nat.ne_of_gt dTS)); have hn3 : New wx wu := k1.below wx hgT (hn1.trans hn2); clear H1 k1)
        | (clear Tk16; refine wpList_stS rfl rfl (.tmp 9) (.tmp 34) rfl g9 rfl (l := (begL rs)) (s := s2) (p := 0) (q := 0) rfl A9.out ?_; intro wv H1 k1; have hn : New wx wv := k1.below wx (Nat.le_trans hn1.size hgS) hn3; replace A9 : Hid (HasS wv g9 (begL rs) s2 0 0) := Lib.hid H1; replace A8 : Hid (HasTr wv g8 ⟨y1, 0, y3⟩ 0 0 so2 0 0) := Lib.hid (HasC.kept A8.out k1 (Nat.ne_of_lt dTS)); replace HS2 := Lib.hid (HS2.out.new hn); replace A5 : Hid (HasTr wv g5 ev1 how val so1 st wk) := Lib.hid (HasC.new A5.out hn); replace A6 : Hid (HasS wv g6 l2 ⟨x1, hm, x3⟩ p2 q2) := Lib.hid (HasC.new A6.out hn); clear H1 k1 hn1 hn2 hn3 hgT hlT hgS hlS dTS; replace HK : Hid (HasK wv g3 rs ⟨ho, hm, hc⟩ a 0) := Lib.hid (HasC.new HK.out hn); replace HN := Lib.hid (HN.out.trans hn); clear hn; have c4 := HasTr.st A5.out; have c5 := HasTr.wk A5.out; have c48 := HasS.hp A6.out; have c8 := HasK.hp HK.out))
      have S0 : Hid (New wv wv.drew) := Lib.hid ((New.refl wv).drew)
      have HLV := HL.out.new HN.out
      have hne := newW_any wv
      refine wp_region_noPanic ?_
      refine wp_region_held_drew (S := fun w' => New wv w') (by kernel_rfl) S0.out (fun _ => ?_)
      refine wpAnyH_take (i := 0) (v := .pointer (some ⟨g8, 4, none⟩)) rfl (by kernel_rfl) (by kernel_rfl) (by kernel_rfl) (fun _ _ _ h => h) (Or.inl ⟨rfl, fun _ _ => by go_simp⟩) S0.out ?_
      simp only [List.getElem_toArray, List.getElem_cons_zero, Act.put, List.setIfInBounds_toArray, List.set_cons_zero, List.set_cons_succ]
      refine wpAnyH_take (i := 1) (v := .int .i64 0) rfl (by kernel_rfl) (by kernel_rfl) (by kernel_rfl) (fun _ _ _ h => h) (ldC_if rfl 3 Tryz.isAgg3 (.tmp 58) rfl ⟨g8, 4, none⟩ rfl (fun w' h => HasTr.st (HasC.new A8.out h))) S0.out ?_
      simp only [List.getElem_toArray, List.getElem_cons_zero, List.getElem_cons_succ, Act.put, List.setIfInBounds_toArray, List.set_cons_zero, List.set_cons_succ]
      refine wpAnyH_take (i := 2) (v := .bool true) rfl (by kernel_rfl) (by kernel_rfl) (by kernel_rfl) (fun _ _ _ h => h) (Or.inl ⟨rfl, fun _ _ => by go_simp⟩) S0.out ?_
      simp only [List.getElem_toArray, List.getElem_cons_zero, List.getElem_cons_succ, Act.put, List.setIfInBounds_toArray, List.set_cons_zero, List.set_cons_succ]
      refine wpAnyH_take (i := 3) (v := .bool true) rfl (by kernel_rfl) (by kernel_rfl) (by kernel_rfl) (fun _ _ _ h => h) (Or.inl ⟨rfl, fun _ _ => by go_simp⟩) S0.out ?_
      simp only [List.getElem_toArray, List.getElem_cons_zero, List.getElem_cons_succ, Act.put, List.setIfInBounds_toArray, List.set_cons_zero, List.set_cons_succ]
      refine wpAnyH_take (i := 4) (v := .pointer (some ⟨g8, 0, none⟩)) rfl (by kernel_rfl) (by kernel_rfl) (by kernel_rfl) (fun _ _ _ h => h) (Or.inl ⟨rfl, fun _ _ => by go_simp⟩) S0.out ?_
      simp only [List.getElem_toArray, List.getElem_cons_zero, List.getElem_cons_succ, Act.put, List.setIfInBounds_toArray, List.set_cons_zero, List.set_cons_succ]
      refine wpAnyH_take (i := 5) (v := .slice y1 0 y3) rfl (by kernel_rfl) (by kernel_rfl) (by kernel_rfl) (fun _ _ _ h => h) (ldC_if rfl 31 Tryz.isAgg31 (.tmp 62) rfl ⟨g8, 0, none⟩ rfl (fun w' h => HasTr.ev (HasC.new A8.out h))) S0.out ?_
      simp only [List.getElem_toArray, List.getElem_cons_zero, List.getElem_cons_succ, Act.put, List.setIfInBounds_toArray, List.set_cons_zero, List.set_cons_succ]
      refine wpAnyH_take (i := 6) (v := .int .i64 0) rfl (by kernel_rfl) (by kernel_rfl) (by kernel_rfl) (fun _ _ _ h => h) (Or.inl ⟨rfl, fun _ _ => by go_simp⟩) S0.out ?_
      simp only [List.getElem_toArray, List.getElem_cons_zero, List.getElem_cons_succ, Act.put, List.setIfInBounds_toArray, List.set_cons_zero, List.set_cons_succ]
      refine wpAnyH_take (i := 7) (v := .bool true) rfl (by kernel_rfl) (by kernel_rfl) (by kernel_rfl) (fun _ _ _ h => h) (Or.inl ⟨rfl, fun _ _ => by go_simp⟩) S0.out ?_
      simp only [List.getElem_toArray, List.getElem_cons_zero, List.getElem_cons_succ, Act.put, List.setIfInBounds_toArray, List.set_cons_zero, List.set_cons_succ]
      refine wpAnyH_take (i := 8) (v := .bool true) rfl (by kernel_rfl) (by kernel_rfl) (by kernel_rfl) (fun _ _ _ h => h) (Or.inl ⟨rfl, fun _ _ => by go_simp⟩) S0.out ?_
      simp only [List.getElem_toArray, List.getElem_cons_zero, List.getElem_cons_succ, Act.put, List.setIfInBounds_toArray, List.set_cons_zero, List.set_cons_succ]
      refine wpAnyH_take (i := 9) (v := .bool true) rfl (by kernel_rfl) (by kernel_rfl) (by kernel_rfl) (fun _ _ _ h => h) (Or.inl ⟨rfl, fun _ _ => by go_simp⟩) S0.out ?_
      simp only [List.getElem_toArray, List.getElem_cons_zero, List.getElem_cons_succ, Act.put, List.setIfInBounds_toArray, List.set_cons_zero, List.set_cons_succ]
      refine wpAnyH_take (i := 10) (v := .pointer (some ⟨g8, 1, none⟩)) rfl (by kernel_rfl) (by kernel_rfl) (by kernel_rfl) (fun _ _ _ h => h) (Or.inl ⟨rfl, fun _ _ => by go_simp⟩) S0.out ?_
      simp only [List.getElem_toArray, List.getElem_cons_zero, List.getElem_cons_succ, Act.put, List.setIfInBounds_toArray, List.set_cons_zero, List.set_cons_succ]
      refine wpAnyH_take (i := 11) (v := .pointer (some ⟨g8, 1, none⟩)) rfl (by kernel_rfl) (by kernel_rfl) (by kernel_rfl) (fun _ _ _ h => h) (Or.inl ⟨rfl, fun _ _ => by go_simp⟩) S0.out ?_
      simp only [List.getElem_toArray, List.getElem_cons_zero, List.getElem_cons_succ, Act.put, List.setIfInBounds_toArray, List.set_cons_zero, List.set_cons_succ]
      refine wpAnyH_take (i := 12) (v := .int .i64 0) rfl (by kernel_rfl) (by kernel_rfl) (by kernel_rfl) (fun _ _ _ h => h) (ldC_if rfl 3 Tryz.isAgg3 (.tmp 69) rfl ⟨g8, 1, none⟩ rfl (fun w' h => HasTr.how (HasC.new A8.out h))) S0.out ?_
      simp only [List.getElem_toArray, List.getElem_cons_zero, List.getElem_cons_succ, Act.put, List.setIfInBounds_toArray, List.set_cons_zero, List.set_cons_succ]
      refine wpAnyH_take (i := 13) (v := .bool true) rfl (by kernel_rfl) (by kernel_rfl) (by kernel_rfl) (fun _ _ _ h => h) (Or.inl ⟨rfl, fun _ _ => by go_simp⟩) S0.out ?_
      simp only [List.getElem_toArray, List.getElem_cons_zero, List.getElem_cons_succ, Act.put, List.setIfInBounds_toArray, List.set_cons_zero, List.set_cons_succ]
      refine wpAnyH_take (i := 14) (v := .bool true) rfl (by kernel_rfl) (by kernel_rfl) (by kernel_rfl) (fun _ _ _ h => h) (Or.inl ⟨rfl, fun _ _ => by go_simp⟩) S0.out ?_
      simp only [List.getElem_toArray, List.getElem_cons_zero, List.getElem_cons_succ, Act.put, List.setIfInBounds_toArray, List.set_cons_zero, List.set_cons_succ]
      refine wpAnyH_take (i := 15) (v := .bool true) rfl (by kernel_rfl) (by kernel_rfl) (by kernel_rfl) (fun _ _ _ h => h) (Or.inl ⟨rfl, fun _ _ => by go_simp⟩) S0.out ?_
      simp only [List.getElem_toArray, List.getElem_cons_zero, List.getElem_cons_succ, Act.put, List.setIfInBounds_toArray, List.set_cons_zero, List.set_cons_succ]
      refine wpAnyH_take (i := 16) (v := .pointer (some ⟨g9, 49, none⟩)) rfl (by kernel_rfl) (by kernel_rfl) (by kernel_rfl) (fun _ _ _ h => h) (Or.inl ⟨rfl, fun _ _ => by go_simp⟩) S0.out ?_
      simp only [List.getElem_toArray, List.getElem_cons_zero, List.getElem_cons_succ, Act.put, List.setIfInBounds_toArray, List.set_cons_zero, List.set_cons_succ]
      refine wpAnyH_take (i := 17) (v := .int .i64 0) rfl (by kernel_rfl) (by kernel_rfl) (by kernel_rfl) (fun _ _ _ h => h) (ldC_if rfl 3 Tryz.isAgg3 (.tmp 74) rfl ⟨g9, 49, none⟩ rfl (fun w' h => HasS.at (HasC.new A9.out h))) S0.out ?_
      simp only [List.getElem_toArray, List.getElem_cons_zero, List.getElem_cons_succ, Act.put, List.setIfInBounds_toArray, List.set_cons_zero, List.set_cons_succ]
      refine wpAnyH_take (i := 18) (v := .bool true) rfl (by kernel_rfl) (by kernel_rfl) (by kernel_rfl) (fun _ _ _ h => h) (Or.inl ⟨rfl, fun _ _ => by go_simp⟩) S0.out ?_
      simp only [List.getElem_toArray, List.getElem_cons_zero, List.getElem_cons_succ, Act.put, List.setIfInBounds_toArray, List.set_cons_zero, List.set_cons_succ]
      refine wpAnyH_take (i := 19) (v := .bool true) rfl (by kernel_rfl) (by kernel_rfl) (by kernel_rfl) (fun _ _ _ h => h) (Or.inl ⟨rfl, fun _ _ => by go_simp⟩) S0.out ?_
      simp only [List.getElem_toArray, List.getElem_cons_zero, List.getElem_cons_succ, Act.put, List.setIfInBounds_toArray, List.set_cons_zero, List.set_cons_succ]
      refine wpAnyH_take (i := 20) (v := .bool true) rfl (by kernel_rfl) (by kernel_rfl) (by kernel_rfl) (fun _ _ _ h => h) (Or.inl ⟨rfl, fun _ _ => by go_simp⟩) S0.out ?_
      simp only [List.getElem_toArray, List.getElem_cons_zero, List.getElem_cons_succ, Act.put, List.setIfInBounds_toArray, List.set_cons_zero, List.set_cons_succ]
      refine wpAnyH_take (i := 21) (v := .agg (cellsS (begL rs) s2 0 0).toArray) rfl (by kernel_rfl) (by kernel_rfl) (by kernel_rfl) (fun _ _ _ h => h) (ldS_if rfl (.tmp 9) rfl g9 rfl (fun w' h => HasC.new A9.out h)) S0.out ?_
      simp only [List.getElem_toArray, List.getElem_cons_zero, List.getElem_cons_succ, Act.put, List.setIfInBounds_toArray, List.set_cons_zero, List.set_cons_succ]
      refine wpAnyH_take (i := 23) (v := .agg (caC rs ⟨ho, hm, hc⟩ a 0).toArray) rfl (by kernel_rfl) (by kernel_rfl) (by kernel_rfl) (fun _ _ _ h => h) (ldK_if rfl (.tmp 3) rfl g3 rfl (fun w' h => HasC.new HK.out h)) S0.out ?_
      simp only [List.getElem_toArray, List.getElem_cons_zero, List.getElem_cons_succ, Act.put, List.setIfInBounds_toArray, List.set_cons_zero, List.set_cons_succ]
      refine wpAnyH_callG (i := 22) rfl rfl (by kernel_rfl) 15 #[.agg (cellsS (begL rs) s2 0 0).toArray] (by go_simp) ?_
      refine (as_any (begL rs) s2 0 0 _).mono ?_
      rintro e w1 ⟨b1, rfl, ha1, hn1⟩
      have N1 := Lib.hid (S0.out.trans hn1)
      have HA1 := Lib.hid ha1
      refine ⟨_, rfl, N1.out, ?_⟩
      simp only [List.getElem_toArray, List.getElem_cons_zero, List.getElem_cons_succ, Act.put, List.setIfInBounds_toArray, List.set_cons_zero, List.set_cons_succ]
      refine wpAnyH_callG (i := 24) rfl rfl (by kernel_rfl) 27 #[.agg (caC rs ⟨ho, hm, hc⟩ a 0).toArray] (by go_simp) ?_
      refine (rBegin_any rs ⟨ho, hm, hc⟩ a 0 _).mono ?_
      rintro e w2 ⟨b2, rfl, ha2, hn2⟩
      have N2 := Lib.hid (N1.out.trans hn2)
      have HA2 := Lib.hid ha2
      replace HA1 := Lib.hid (HA1.out.new hn2)
      refine ⟨_, rfl, N2.out, ?_⟩
      simp only [List.getElem_toArray, List.getElem_cons_zero, List.getElem_cons_succ, Act.put, List.setIfInBounds_toArray, List.set_cons_zero, List.set_cons_succ]
      refine wpAnyH_callG (i := 25) rfl rfl (by kernel_rfl) 17 #[.agg (refC b1 s2 0 0).toArray, .agg (refC b2 ⟨ho, hm, hc⟩ 0 0).toArray] (by go_simp) ?_
      refine (refSame_any (begL rs) (begL rs) (fun _ _ => rfl) zs 0 0 b1 s2 b2 ⟨ho, hm, hc⟩ _ HA1.out HA2.out (HS2.out.new N2.out) ((HH.out.new HN.out).new N2.out) HZK.out).mono ?_
      rintro e w3 ⟨rfl, hn3⟩
      have N3 := Lib.hid (N2.out.trans hn3)
      refine ⟨_, rfl, N3.out, ?_⟩
      simp only [List.getElem_toArray, List.getElem_cons_zero, List.getElem_cons_succ, Act.put, List.setIfInBounds_toArray, List.set_cons_zero, List.set_cons_succ]
      refine wpAnyH_rest 26 rfl (by kernel_rfl) (by kernel_rfl) N3.out ?_
      simp only [List.drop_succ_cons, List.drop_zero]
      clear hn1 ha1 hn2 ha2 hn3 HA1 HA2
      repeat (go_big_quiet_step (first | (go_at_call 22; exact quiet_new (knows8_from _ HLV (Subtype.property _)))))
      refine wpQuiet_nil ?_
      intro w4 h4
      refine NoPanic.normal ?_
      go_wp2
      go_ret
      exact ⟨rfl, HN.out.trans h4⟩
end Go.Proofs.YtfllkagbphgjlaaGreatDoor
