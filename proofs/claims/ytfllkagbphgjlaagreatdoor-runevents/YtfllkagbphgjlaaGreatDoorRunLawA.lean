/-
  'RunEvents': a run's events have the answers, one by one, in their order, and are as many as were asked: true, for every input.
-/
import Derived.Test.YtfllkagbphgjlaaGreatDoorRunK
import Derived.Test.YtfllkagbphgjlaaGreatDoorCaseOpen
namespace Go.Proofs.YtfllkagbphgjlaaGreatDoor
open Go.RowKit

set_option maxHeartbeats 16000000 in
set_option maxRecDepth 100000 in
theorem runEvents_law (v : Value) (f : List I) (rs : Nat → Int) (h a : Sl) (n : Int) (zs az : List Int) (w : World) (hf : FunAt w v f) (_hi : ∀ y ∈ f, In64I y) (_hm : f.length ≤ maxLen) (hh : Hp w (.slice h.ao h.n h.c) zs) (ha : Hp w (.slice a.ao a.n a.c) az) (_ht : Tame (.slice a.ao a.n a.c)) (hl : Laid w) :
    Calls Tryz.prog 10 #[v, .agg (caC rs h a n).toArray] w fun e w' => e = .returned (.bool true) ∧ New w w' := by
  obtain ⟨fo, fc, rfl⟩ := hf.form
  have HL := Lib.hid hl
  have HF := Lib.hid hf
  have HH : Hid (Hp w (svS h) zs) := Lib.hid hh
  have HA : Hid (Hp w (svS a) az) := Lib.hid ha
  clear hl hf hh ha
  cases hg : grR f.length zs.length az.length n with
  | true =>
    have HG := Lib.hid hg
    clear hg
    go_enter Tryz.func10, Tryz.ntmps10
    have Tk1 : Hid True := Lib.hid trivial
    have Tk2 : Hid True := Lib.hid trivial
    go_wp2_with (first
      | (go_at_call 21; refine (gr_is HN.out (HF.out.new HN.out) (HH.out.new HN.out) (HA.out.new HN.out) HG.out).mono ?_; rintro e wx ⟨rfl, hn⟩; replace HK : Hid (HasK wx g3 rs h a n) := Lib.hid (HasC.new HK.out hn); replace HN := Lib.hid (HN.out.trans hn); clear hn)
      | (go_at_call 22; refine (knows8_from _ HL.out HN.out).mono ?_; rintro e wk ⟨rfl, hnk⟩)
      | (clear Tk1; refine wpList_boxX rfl 51 (.tmp 1) rfl (caC rs h a n) rfl ?_; intro wx g3 hg3 hl3 H1 hn1; have HK : Hid (HasK wx g3 rs h a n) := Lib.hid H1; have HN := Lib.hid hn1; clear H1 hn1 hl3)
      | (clear Tk2; refine wpList_ldK (by rfl) (.tmp 3) rfl g3 rfl HK.out ?_))
    go_ret
    exact ⟨rfl, hnk⟩
  | false =>
    have HG := Lib.hid hg
    have hng := of_decide_eq_false hg
    clear hg
    cases hfb : fairB f zs az n with
    | false =>
      have HFB := Lib.hid hfb
      clear hfb hng
      go_enter Tryz.func10, Tryz.ntmps10
      have Tk1 : Hid True := Lib.hid trivial
      have Tk2 : Hid True := Lib.hid trivial
      have Tk3 : Hid True := Lib.hid trivial
      go_wp2_with (first
        | (go_at_call 21; refine (gr_is HN.out (HF.out.new HN.out) (HH.out.new HN.out) (HA.out.new HN.out) HG.out).mono ?_; rintro e wx ⟨rfl, hn⟩; replace HK : Hid (HasK wx g3 rs h a n) := Lib.hid (HasC.new HK.out hn); replace HN := Lib.hid (HN.out.trans hn); clear hn)
        | (go_at_call 28; refine (fair_is HN.out (HF.out.new HN.out) (HH.out.new HN.out) (HA.out.new HN.out) HFB.out).mono ?_; rintro e wx ⟨rfl, hn⟩; replace HK : Hid (HasK wx g3 rs h a n) := Lib.hid (HasC.new HK.out hn); replace HN := Lib.hid (HN.out.trans hn); clear hn)
        | (go_at_call 22; refine (knows8_from _ HL.out HN.out).mono ?_; rintro e wk ⟨rfl, hnk⟩)
        | (clear Tk1; refine wpList_boxX rfl 51 (.tmp 1) rfl (caC rs h a n) rfl ?_; intro wx g3 hg3 hl3 H1 hn1; have HK : Hid (HasK wx g3 rs h a n) := Lib.hid H1; have HN := Lib.hid hn1; clear H1 hn1 hl3)
        | (clear Tk2; refine wpList_ldK (by rfl) (.tmp 3) rfl g3 rfl HK.out ?_)
        | (clear Tk3; refine wpList_ldK (by rfl) (.tmp 3) rfl g3 rfl HK.out ?_))
      go_ret
      exact ⟨rfl, hnk⟩
    | true =>
      have HFB := Lib.hid hfb
      obtain ⟨hck, hz16, hal, hn0, hn5⟩ := fair_iff.mp hfb
      have hn1k : n ≤ 1000 := by omega
      have hak : az.length ≤ 1000 := by omega
      have HCK := Lib.hid hck
      have HZ := Lib.hid hz16
      have HAL := Lib.hid hal
      have HNB : Hid (0 ≤ n ∧ n ≤ 5000) := Lib.hid ⟨hn0, hn5⟩
      have HBR : Hid (mcB f (begM rs zs) = true) := Lib.hid (beg_right hck hz16)
      have HRN := Lib.hid (onR_rn (az := az) n.toNat (begM rs zs) noTr HBR.out (by decide) (by decide))
      obtain ⟨⟨⟨es, how, val, oh, st, wk⟩, ⟨l2, z2, p2, q2⟩⟩, HR⟩ : ∃ r, Hid (runR f rs zs az n.toNat = r) := ⟨_, Lib.hid rfl⟩
      rw [show onR f az n.toNat (begM rs zs) noTr = (⟨es, how, val, oh, st, wk⟩, ⟨l2, z2, p2, q2⟩) from HR.out] at HRN
      clear hfb hng hck hz16 hal
      have hans := onR_ans (az := az) n.toNat (begM rs zs) noTr HBR.out ⟨rfl, Nat.zero_le _, nofun, nofun⟩
      rw [show onR f az n.toNat (begM rs zs) noTr = (⟨es, how, val, oh, st, wk⟩, ⟨l2, z2, p2, q2⟩) from HR.out] at hans
      obtain ⟨m, HMl⟩ : ∃ m, Hid (es.length = m) := ⟨_, Lib.hid rfl⟩
      have hq : q2 = (m : Int) := by rw [← HMl.out]; exact hans.q
      subst hq
      have hle : m ≤ az.length := by rw [← HMl.out]; exact hans.le
      have HANS := Lib.hid hans
      clear hans
      obtain ⟨ao, an, ac⟩ := a
      have han : an = az.length := Hp.len HA.out
      have hle' : ¬ (an : Int) < (m : Int) := by omega
      have HAN := Lib.hid han
      clear han hle
      go_enter Tryz.func10, Tryz.ntmps10
      have Tk1 : Hid True := Lib.hid trivial
      have Tk2 : Hid True := Lib.hid trivial
      have Tk3 : Hid True := Lib.hid trivial
      have Tk4 : Hid True := Lib.hid trivial
      have Tk5 : Hid True := Lib.hid trivial
      have Tk6 : Hid True := Lib.hid trivial
      have Tk7 : Hid True := Lib.hid trivial
      have Tk8 : Hid True := Lib.hid trivial
      have Tk9 : Hid True := Lib.hid trivial
      go_wp2_with (first
        | (go_at_call 21; refine (gr_is HN.out (HF.out.new HN.out) (HH.out.new HN.out) (HA.out.new HN.out) HG.out).mono ?_; rintro e wx ⟨rfl, hn⟩; replace HK : Hid (HasK wx g3 rs h ⟨ao, an, ac⟩ n) := Lib.hid (HasC.new HK.out hn); replace HN := Lib.hid (HN.out.trans hn); clear hn)
        | (go_at_call 28; refine (fair_is HN.out (HF.out.new HN.out) (HH.out.new HN.out) (HA.out.new HN.out) HFB.out).mono ?_; rintro e wx ⟨rfl, hn⟩; replace HK : Hid (HasK wx g3 rs h ⟨ao, an, ac⟩ n) := Lib.hid (HasC.new HK.out hn); replace HN := Lib.hid (HN.out.trans hn); clear hn)
        | (clear Tk1; go_at_call 23; refine (run_is HL.out HN.out (HF.out.new HN.out) (HH.out.new HN.out) (HA.out.new HN.out) HCK.out HZ.out HAL.out HNB.out HR.out).mono ?_; rintro e wx ⟨ev1, so1, s1, rfl, h1, h2, h3, hn, f1, f2, f3, fcp⟩; obtain ⟨e1, e2, e3⟩ := ev1; have he2 : e2 = m := (by rw [← HMl.out]; obtain ⟨x1, x2, x3⟩ := h1.form; simp only [svS, Value.slice.injEq] at x3; exact x3.2.1); subst he2; have HE1 := Lib.hid h1; have HO1 := Lib.hid h2; have HS1 := Lib.hid h3; have FE1 := Lib.hid f1; have FO1 := Lib.hid f2; have FS1 := Lib.hid f3; have FC1 := Lib.hid fcp; have ZB := Lib.hid HN.out.size; clear h1 h2 h3 f1 f2 f3 fcp; replace HK : Hid (HasK wx g3 rs h ⟨ao, an, ac⟩ n) := Lib.hid (HasC.new HK.out hn); replace HN := Lib.hid (HN.out.trans hn); clear hn)
        | (clear Tk2; refine wpList_boxX rfl 51 (.tmp 1) rfl (caC rs h ⟨ao, an, ac⟩ n) rfl ?_; intro wx g3 hg3 hl3 H1 hn1; have HK : Hid (HasK wx g3 rs h ⟨ao, an, ac⟩ n) := Lib.hid H1; have HN := Lib.hid hn1; clear H1 hn1 hl3)
        | (clear Tk3; refine wpList_ldK (by rfl) (.tmp 3) rfl g3 rfl HK.out ?_)
        | (clear Tk4; refine wpList_ldK (by rfl) (.tmp 3) rfl g3 rfl HK.out ?_)
        | (clear Tk5; refine wpList_ldK (by rfl) (.tmp 3) rfl g3 rfl HK.out ?_)
        | (clear Tk6; refine wpList_alX rfl 54 rfl _ zeroT_run _ rfl ?_; intro wy g5 hgT hlT H1 hn1; have A5 : Hid (HasTr wy g5 nilS 0 0 nilS 0 0) := Lib.hid H1; clear H1)
        | (clear Tk7; refine wpList_alX rfl 28 rfl _ zeroS_run _ rfl ?_; intro wz g6 hgS hlS H1 hn2; have A6 : Hid (HasS wz g6 noWs nilS 0 0) := Lib.hid H1; have dTS : g5 < g6 := Nat.lt_of_lt_of_le hlT hgS; replace A5 : Hid (HasTr wz g5 nilS 0 0 nilS 0 0) := Lib.hid (HasC.new A5.out hn2); clear H1)
        | (clear Tk8; refine wpList_stTr rfl rfl (.tmp 5) (.tmp 23) rfl g5 rfl ⟨e1, e2, e3⟩ how val so1 st wk rfl A5.out ?_; intro wu H1 k1; replace A5 : Hid (HasTr wu g5 ⟨e1, e2, e3⟩ how val so1 st wk) := Lib.hid H1; replace A6 : Hid (HasS wu g6 noWs nilS 0 0) := Lib.hid (HasC.kept A6.out k1 (Nat.ne_of_gt dTS)); have hn3 : New wx wu := k1.below wx hgT (hn1.trans hn2); clear H1 k1)
        | (clear Tk9; refine wpList_stS rfl rfl (.tmp 6) (.tmp 24) rfl g6 rfl (l := l2) (s := s1) (p := p2) (q := (e2 : Int)) rfl A6.out ?_; intro wv H1 k1; have hn : New wx wv := k1.below wx (Nat.le_trans hn1.size hgS) hn3; replace A6 : Hid (HasS wv g6 l2 s1 p2 (e2 : Int)) := Lib.hid H1; replace A5 : Hid (HasTr wv g5 ⟨e1, e2, e3⟩ how val so1 st wk) := Lib.hid (HasC.kept A5.out k1 (Nat.ne_of_lt dTS)); replace HE1 := Lib.hid (HE1.out.new hn); replace HO1 := Lib.hid (HO1.out.new hn); replace HS1 := Lib.hid (HS1.out.new hn); clear H1 k1 hn1 hn2 hn3 hgT hlT hgS hlS dTS; replace HK : Hid (HasK wv g3 rs h ⟨ao, an, ac⟩ n) := Lib.hid (HasC.new HK.out hn); replace HN := Lib.hid (HN.out.trans hn); clear hn; have c0 := HasTr.ev A5.out; have c50 := HasS.ask A6.out; have c9 := HasK.an HK.out))
      have hme : e2 ≤ 5000 := by have := HAN.out; have := HAL.out; omega
      go_loopw [8] (fun kv wr => ∃ k : Nat, kv = .int .i64 k ∧ k ≤ e2 ∧ Hid (New wv wr)) (fun kv _ => e2 - (intOf kv).toNat)
      case atStart => exact ⟨0, rfl, by omega, Lib.hid (New.refl _)⟩
      case round =>
        obtain ⟨k, rfl, hk, HNr⟩ := hrel
        have c0 := HasTr.ev (HasC.new A5.out HNr.out)
        by_cases hlt : k < e2
        · have hlt' : (k : Int) < (e2 : Int) := by omega
          have hke : k < es.length := by rw [HMl.out]; exact hlt
          obtain ⟨b, o, hixE, hrgE⟩ := EvAt.ix HE1.out hke
          obtain ⟨ya, y, ey, hixA, hcA⟩ := Hp.ix HA.out (i := k) (by have := HAN.out; omega)
          have hya : (es[k]).2.2 = y := by
            have := HANS.out.ans k hke
            rw [List.getD_eq_getElem?_getD, ey] at this
            exact this
          have hnum := HANS.out.num k hke
          obtain ⟨x, HX⟩ : ∃ x : Ev, Hid (es[k] = x) := ⟨_, Lib.hid rfl⟩
          rw [HX.out] at hrgE hya
          have hn1 : 0 ≤ x.1 ∧ x.1 ≤ 99 := by rw [← HX.out]; exact hnum
          obtain ⟨x1, x2, x3⟩ := x
          have hya : x3 = y := hya
          subst hya
          have n1 : decide (x1 < 0) = false := decide_eq_false (by have := hn1.1; simp only at this; omega)
          have n2 : decide (99 < x1) = false := decide_eq_false (by have := hn1.2; simp only at this; omega)
          have hne := newW_any wr
          have z0 : ∀ y : NewW wr, y.val.cell? ⟨g5, 0, none⟩ = some (.slice e1 e2 e3) := fun y => HasTr.ev (HasC.new A5.out (HNr.out.trans y.property))
          have z1 : ∀ y : NewW wr, y.val.cell? ⟨g3, 9, none⟩ = some (.slice ao an ac) := fun y => HasK.an (HasC.new HK.out (HNr.out.trans y.property))
          have z2 : ∀ y : NewW wr, y.val.cell? ⟨b, o, none⟩ = some (.int .i64 x1) := fun y => hrgE _ (HNr.out.trans y.property) 0 _ rfl
          have z3 : ∀ y : NewW wr, y.val.cell? ⟨b, o + 2, none⟩ = some (.int .i64 x3) := fun y => hrgE _ (HNr.out.trans y.property) 2 _ rfl
          have z4 : ∀ y : NewW wr, y.val.cell? ya = some (.int .i64 x3) := fun y => hcA _ ((HN.out.trans HNr.out).trans y.property)
          clear hrgE hcA ey hnum hn1
          go_wp2_with fail
          refine wp_region_new (New.refl wr) (by kernel_rfl) (by kernel_rfl) ?_
          repeat (go_big_quiet_step (first | fail))
          refine wpQuiet_nil ?_
          intro w8 hn8
          go_wp2
          go_roundw
          case rel => exact ⟨k + 1, by go_num, hlt, Lib.hid (HNr.out.trans hn8)⟩
          case measure => simp [intOf]; omega
        · obtain rfl : k = e2 := by omega
          replace HN := Lib.hid (HN.out.trans HNr.out)
          go_wp2_with (first
            | (go_at_call 22; refine (knows8_from _ HL.out HN.out).mono ?_; rintro e wk ⟨rfl, hnk⟩))
          go_ret
          exact ⟨rfl, hnk⟩
end Go.Proofs.YtfllkagbphgjlaaGreatDoor
