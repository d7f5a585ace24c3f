/-
  'RunGoes': a run that goes on did as many steps as it had fuel; with more it is where so many steps more lead: true, for every input.
-/
import Derived.Test.YtlmnodbhfpgplaaGreatDoorRunK
import Derived.Test.YtlmnodbhfpgplaaGreatDoorCaseOpen
import Derived.Test.YtlmnodbhfpgplaaGreatDoorRunN
import Derived.Test.YtlmnodbhfpgplaaGreatDoorRunG
import Derived.Deep.CutRange
namespace Go.Proofs.YtlmnodbhfpgplaaGreatDoor
open Go.RowKit

set_option maxHeartbeats 16000000 in
set_option maxRecDepth 100000 in
theorem runGoesB (v : Value) (f : List I) (rs : Nat → Int) (h a : Sl) (n : Int) (zs az : List Int) (mr : Int) (w : World) (hf : FunAt w v f) (_hi : ∀ y ∈ f, In64I y) (_hm : f.length ≤ maxLen) (hh : Hp w (.slice h.ao h.n h.c) zs) (ha : Hp w (.slice a.ao a.n a.c) az) (_ht : Tame (.slice a.ao a.n a.c)) (hb : 0 ≤ mr ∧ mr ≤ 255) (hl : Laid w) (hX : (runR f rs zs az n.toNat).1.how ≠ 0) :
    Calls Tryz.prog 3 #[v, .agg (caC rs h a n).toArray, .int .u8 mr] w fun e w' => e = .returned (.bool true) ∧ New w w' := by
  obtain ⟨fo, fc, rfl⟩ := hf.form
  have HL := Lib.hid hl
  have HF := Lib.hid hf
  have HH : Hid (Hp w (svS h) zs) := Lib.hid hh
  have HA : Hid (Hp w (svS a) az) := Lib.hid ha
  clear hl hf hh ha
  cases hg : grR f.length zs.length az.length n with
  | true =>
    have HG := Lib.hid hg
    clear hg
    go_enter Tryz.func3, Tryz.ntmps3
    have Tk1 : Hid True := Lib.hid trivial
    have Tk2 : Hid True := Lib.hid trivial
    go_wp2_with (first
      | (go_at_call 5; refine (gr_is HN.out (HF.out.new HN.out) (HH.out.new HN.out) (HA.out.new HN.out) HG.out).mono ?_; rintro e wx ⟨rfl, hn⟩; replace HK : Hid (HasK wx g3 rs h a n) := Lib.hid (HasC.new HK.out hn); replace HN := Lib.hid (HN.out.trans hn); clear hn)
      | (go_at_call 7; refine (knows8_from _ HL.out HN.out).mono ?_; rintro e wk ⟨rfl, hnk⟩)
      | (clear Tk1; refine wpList_boxX rfl 26 (.tmp 1) rfl (caC rs h a n) rfl ?_; intro wx g3 hg3 hl3 H1 hn1; have HK : Hid (HasK wx g3 rs h a n) := Lib.hid H1; have HN := Lib.hid hn1; clear H1 hn1 hl3)
      | (clear Tk2; refine wpList_ldK (by rfl) (.tmp 4) rfl g3 rfl HK.out ?_))
    go_ret
    exact ⟨rfl, hnk⟩
  | false =>
    have HG := Lib.hid hg
    have hng := of_decide_eq_false hg
    clear hg
    cases hfb : fairB f zs az n with
    | false =>
      have HFB := Lib.hid hfb
      clear hfb hng
      go_enter Tryz.func3, Tryz.ntmps3
      have Tk1 : Hid True := Lib.hid trivial
      have Tk2 : Hid True := Lib.hid trivial
      have Tk3 : Hid True := Lib.hid trivial
      go_wp2_with (first
        | (go_at_call 5; refine (gr_is HN.out (HF.out.new HN.out) (HH.out.new HN.out) (HA.out.new HN.out) HG.out).mono ?_; rintro e wx ⟨rfl, hn⟩; replace HK : Hid (HasK wx g3 rs h a n) := Lib.hid (HasC.new HK.out hn); replace HN := Lib.hid (HN.out.trans hn); clear hn)
        | (go_at_call 6; refine (fair_is HN.out (HF.out.new HN.out) (HH.out.new HN.out) (HA.out.new HN.out) HFB.out).mono ?_; rintro e wx ⟨rfl, hn⟩; replace HK : Hid (HasK wx g3 rs h a n) := Lib.hid (HasC.new HK.out hn); replace HN := Lib.hid (HN.out.trans hn); clear hn)
        | (go_at_call 7; refine (knows8_from _ HL.out HN.out).mono ?_; rintro e wk ⟨rfl, hnk⟩)
        | (clear Tk1; refine wpList_boxX rfl 26 (.tmp 1) rfl (caC rs h a n) rfl ?_; intro wx g3 hg3 hl3 H1 hn1; have HK : Hid (HasK wx g3 rs h a n) := Lib.hid H1; have HN := Lib.hid hn1; clear H1 hn1 hl3)
        | (clear Tk2; refine wpList_ldK (by rfl) (.tmp 4) rfl g3 rfl HK.out ?_)
        | (clear Tk3; refine wpList_ldK (by rfl) (.tmp 4) rfl g3 rfl HK.out ?_))
      go_ret
      exact ⟨rfl, hnk⟩
    | true =>
      have HFB := Lib.hid hfb
      obtain ⟨hck, hz16, hal, hn0, hn5⟩ := fair_iff.mp hfb
      have hn1k : n ≤ 1000 := by omega
      have hak : az.length ≤ 1000 := by omega
      have HCK := Lib.hid hck
      have HZ := Lib.hid hz16
      have HAL := Lib.hid hal
      have HNB : Hid (0 ≤ n ∧ n ≤ 5000) := Lib.hid ⟨hn0, hn5⟩
      have HBR : Hid (mcB f (begM rs zs) = true) := Lib.hid (beg_right hck hz16)
      have HRN := Lib.hid (onR_rn (az := az) n.toNat (begM rs zs) noTr HBR.out (by decide) (by decide))
      obtain ⟨⟨⟨es, how, val, oh, st, wk⟩, ⟨l2, z2, p2, q2⟩⟩, HR⟩ : ∃ r, Hid (runR f rs zs az n.toNat = r) := ⟨_, Lib.hid rfl⟩
      rw [show onR f az n.toNat (begM rs zs) noTr = (⟨es, how, val, oh, st, wk⟩, ⟨l2, z2, p2, q2⟩) from HR.out] at HRN
      clear hfb hng hck hz16 hal
      have HEB : Hid (es.length ≤ 100000) := Lib.hid (by have := HRN.out.evl; simp only [noTr, List.length_nil] at this; omega)
      have HOB : Hid (oh.length ≤ 1000) := Lib.hid (by have := HRN.out.hp; simp only at this; omega)
      have HNB2 : Hid (0 ≤ n + mr ∧ n + mr ≤ 5000) := Lib.hid (by omega)
      have hb1 := hb.1
      have hb2 := hb.2
      have hn5b : ¬ 5000 < n + mr := by omega
      have hsn : ¬ n < st := by have h1 := HRN.out.st2; have h2 : st ≤ 0 + (n.toNat : Int) := h1; omega
      have hws : ¬ st < wk := by have h1 := HRN.out.wk2; have h2 : wk - 0 ≤ st - 0 := h1; omega
      have HSB : Hid (0 ≤ st ∧ st ≤ n ∧ 0 ≤ wk ∧ wk ≤ st) := Lib.hid (by have h1 := HRN.out.st1; have h2 : (0 : Int) ≤ st := h1; have h3 := HRN.out.wk1; have h4 : (0 : Int) ≤ wk := h3; omega)
      have HEN : Hid ((es.length : Int) ≤ n) := Lib.hid (by have h1 := HRN.out.evl; simp only [noTr, List.length_nil] at h1; omega)
      obtain ⟨⟨⟨es2, how2, val2, oh2, st2, wk2⟩, ⟨l3, z3, p3, q3⟩⟩, HR2⟩ : ∃ r, Hid (runR f rs zs az (n + mr).toNat = r) := ⟨_, Lib.hid rfl⟩
      have hadd := onR_add (f := f) (az := az) mr.toNat n.toNat (begM rs zs) noTr
      rw [show onR f az n.toNat (begM rs zs) noTr = (⟨es, how, val, oh, st, wk⟩, ⟨l2, z2, p2, q2⟩) from HR.out, show n.toNat + mr.toNat = (n + mr).toNat by omega, show onR f az (n + mr).toNat (begM rs zs) noTr = (⟨es2, how2, val2, oh2, st2, wk2⟩, ⟨l3, z3, p3, q3⟩) from HR2.out] at hadd
      have HON : Hid (onR f az mr.toNat ⟨l2, z2, p2, q2⟩ ⟨es, how, val, oh, st, wk⟩ = (⟨es2, how2, val2, oh2, st2, wk2⟩, ⟨l3, z3, p3, q3⟩)) := Lib.hid hadd.symm
      have rn2 := onR_rn (az := az) mr.toNat ⟨l2, z2, p2, q2⟩ ⟨es, how, val, oh, st, wk⟩ HRN.out.right HRN.out.hp HRN.out.how
      rw [← hadd] at rn2
      have HEB2 : Hid (es2.length ≤ 100000) := Lib.hid (by have h1 := rn2.evl; have h2 := HEN.out; simp only at h1; omega)
      have HOB2 : Hid (oh2.length ≤ 1000) := Lib.hid (by have h1 := rn2.hp; simp only at h1; omega)
      have HZ3 : Hid (z3.length ≤ 1000) := Lib.hid (by have h1 := rn2.len; have h2 := HRN.out.len; have h3 : z3.length = z2.length := h1; have h4 : z2.length = zs.length := h2; have := HZ.out; omega)
      by_cases h0 : how = 0
      · exact absurd h0 (by have := hX; rw [HR.out] at this; exact this)
      · have q0 : (how == 0) = false := bneq_of h0
        clear hadd rn2 h0
        go_enter Tryz.func3, Tryz.ntmps3
        have Tk1 : Hid True := Lib.hid trivial
        have Tk2 : Hid True := Lib.hid trivial
        have Tk3 : Hid True := Lib.hid trivial
        have Tk4 : Hid True := Lib.hid trivial
        have Tk5 : Hid True := Lib.hid trivial
        have Tk6 : Hid True := Lib.hid trivial
        have Tk7 : Hid True := Lib.hid trivial
        have Tk8 : Hid True := Lib.hid trivial
        have Tk9 : Hid True := Lib.hid trivial
        go_wp2_with (first
          | (go_at_call 5; refine (gr_is HN.out (HF.out.new HN.out) (HH.out.new HN.out) (HA.out.new HN.out) HG.out).mono ?_; rintro e wx ⟨rfl, hn⟩; replace HK : Hid (HasK wx g3 rs h a n) := Lib.hid (HasC.new HK.out hn); replace HN := Lib.hid (HN.out.trans hn); clear hn)
          | (go_at_call 6; refine (fair_is HN.out (HF.out.new HN.out) (HH.out.new HN.out) (HA.out.new HN.out) HFB.out).mono ?_; rintro e wx ⟨rfl, hn⟩; replace HK : Hid (HasK wx g3 rs h a n) := Lib.hid (HasC.new HK.out hn); replace HN := Lib.hid (HN.out.trans hn); clear hn; have cf := HasK.fuel HK.out)
          | (clear Tk1; go_at_call 8; have B3 := Lib.hid (HasC.lt HK.out); refine (run_is HL.out HN.out (HF.out.new HN.out) (HH.out.new HN.out) (HA.out.new HN.out) HCK.out HZ.out HAL.out HNB.out HR.out).mono ?_; rintro e wx ⟨ev1, so1, s1, rfl, h1, h2, h3, hn, f1, f2, f3, fcp⟩; have HE1 := Lib.hid h1; have HO1 := Lib.hid h2; have HS1 := Lib.hid h3; have FE1 := Lib.hid f1; have FO1 := Lib.hid f2; have FS1 := Lib.hid f3; have FC1 := Lib.hid fcp; have ZB := Lib.hid HN.out.size; clear h1 h2 h3 f1 f2 f3 fcp; replace HK : Hid (HasK wx g3 rs h a n) := Lib.hid (HasC.new HK.out hn); replace HN := Lib.hid (HN.out.trans hn); clear hn)
          | (clear Tk2; refine wpList_boxX rfl 26 (.tmp 1) rfl (caC rs h a n) rfl ?_; intro wx g3 hg3 hl3 H1 hn1; have HK : Hid (HasK wx g3 rs h a n) := Lib.hid H1; have HN := Lib.hid hn1; clear H1 hn1 hl3)
          | (clear Tk3; refine wpList_ldK (by rfl) (.tmp 4) rfl g3 rfl HK.out ?_)
          | (clear Tk4; refine wpList_ldK (by rfl) (.tmp 4) rfl g3 rfl HK.out ?_)
          | (clear Tk5; refine wpList_ldK (by rfl) (.tmp 4) rfl g3 rfl HK.out ?_)
          | (clear Tk6; refine wpList_alX rfl 33 rfl _ zeroT_run _ rfl ?_; intro wy g5 hgT hlT H1 hn1; have d35 : g5 ≠ g3 := Nat.ne_of_gt (Nat.lt_of_lt_of_le (HasC.lt HK.out) hgT); have A5 : Hid (HasTr wy g5 nilS 0 0 nilS 0 0) := Lib.hid H1; clear H1)
          | (clear Tk7; refine wpList_alX rfl 38 rfl _ zeroS_run _ rfl ?_; intro wz g6 hgS hlS H1 hn2; have A6 : Hid (HasS wz g6 noWs nilS 0 0) := Lib.hid H1; have dTS : g5 < g6 := Nat.lt_of_lt_of_le hlT hgS; replace A5 : Hid (HasTr wz g5 nilS 0 0 nilS 0 0) := Lib.hid (HasC.new A5.out hn2); clear H1)
          | (clear Tk8; refine wpList_stTr rfl rfl (.tmp 7) (.tmp 37) rfl g5 rfl ev1 how val so1 st wk rfl A5.out ?_; intro wu H1 k1; replace A5 : Hid (HasTr wu g5 ev1 how val so1 st wk) := Lib.hid H1; replace A6 : Hid (HasS wu g6 noWs nilS 0 0) := Lib.hid (HasC.kept A6.out k1 (Nat.ne_of_gt dTS)); have hn3 : New wx wu := k1.below wx hgT (hn1.trans hn2); clear H1 k1)
          | (clear Tk9; refine wpList_stS rfl rfl (.tmp 8) (.tmp 38) rfl g6 rfl (l := l2) (s := s1) (p := p2) (q := q2) rfl A6.out ?_; intro wv H1 k1; have hn : New wx wv := k1.below wx (Nat.le_trans hn1.size hgS) hn3; replace A6 : Hid (HasS wv g6 l2 s1 p2 q2) := Lib.hid H1; replace A5 : Hid (HasTr wv g5 ev1 how val so1 st wk) := Lib.hid (HasC.kept A5.out k1 (Nat.ne_of_lt dTS)); replace HE1 := Lib.hid (HE1.out.new hn); replace HO1 := Lib.hid (HO1.out.new hn); replace HS1 := Lib.hid (HS1.out.new hn); clear H1 k1 hn1 hn2 hn3 hgT hlT hgS hlS dTS; replace HK : Hid (HasK wv g3 rs h a n) := Lib.hid (HasC.new HK.out hn); replace HN := Lib.hid (HN.out.trans hn); clear hn; have cf := HasK.fuel HK.out; have ch := HasTr.how A5.out; have cs := HasTr.st A5.out; have cw := HasTr.wk A5.out))
        have b3v : g3 < wv.heap.size := HasC.lt HK.out
        have AE1 : Hid (Ap (fun k => k = g3) (svS ev1) es) := Lib.hid (FE1.out.ap (fun _ h => by rw [h]; exact B3.out))
        have AO1 : Hid (Ap (fun k => k = g3) (svS so1) oh) := Lib.hid (FO1.out.ap (fun _ h => by rw [h]; exact B3.out))
        have AS1 : Hid (Ap (fun k => k = g3) (svS s1) z2) := Lib.hid (FS1.out.ap (fun _ h => by rw [h]; exact B3.out))
        have HAL1 : Hid (az.length ≤ 100000) := Lib.hid (by have := HAL.out; omega)
        have HMC : Hid (mcB f ⟨l2, z2, p2, q2⟩ = true) := Lib.hid HRN.out.right
        have HB1 : Hid (0 ≤ st ∧ st + mr ≤ 20000) := Lib.hid (by have := HSB.out; omega)
        have HB2 : Hid (0 ≤ wk ∧ wk + mr ≤ 20000) := Lib.hid (by have := HSB.out; omega)
        have HB3 : Hid ((es.length : Int) + mr ≤ 20000) := Lib.hid (by have := HEN.out; omega)
        go_cut [10, 11] from 69 to 80 (fun c10 c11 wF => ∃ (g10 g11 : Nat) (ev so a' s' : Sl), c10 = .pointer (some ⟨g10, 0, none⟩) ∧ c11 = .pointer (some ⟨g11, 0, none⟩) ∧ Hid (HasTr wF g10 ev how2 val2 so st2 wk2) ∧ Hid (HasRf wF g11 a' s' p3 q3) ∧ Hid (Rz wF (fun k => k = g3) ev es2 a' l3 s' z3 so oh2) ∧ Hid (wv.heap.size ≤ g10 ∧ wv.heap.size ≤ g11) ∧ Hid (New wv wF))
        case first =>
          have S0 : Hid (New wv wv.drew) := Lib.hid ((New.refl wv).drew)
          refine wp_region_noPanic ?_
          refine wp_region_held_drew (S := fun w' => New wv w') (by kernel_rfl) S0.out (fun _ => ?_)
          refine wpAnyH_take (i := 0) (v := .slice fo f.length fc) rfl (by kernel_rfl) (by kernel_rfl) (by kernel_rfl) (fun _ _ _ h => h) (Or.inl ⟨rfl, fun _ _ => by go_simp⟩) S0.out ?_
          simp only [List.getElem_toArray, List.getElem_cons_zero, Act.put, List.setIfInBounds_toArray, List.set_cons_zero, List.set_cons_succ]
          refine wpAnyH_take (i := 1) (v := .agg (cellsS l2 s1 p2 q2).toArray) rfl (by kernel_rfl) (by kernel_rfl) (by kernel_rfl) (fun _ _ _ h => h) (ldS_if rfl (.tmp 8) rfl g6 rfl (fun w' h => HasC.new A6.out h)) S0.out ?_
          simp only [List.getElem_toArray, List.getElem_cons_zero, List.getElem_cons_succ, Act.put, List.setIfInBounds_toArray, List.set_cons_zero, List.set_cons_succ]
          refine wpAnyH_take (i := 3) (v := .agg (trC ev1 (how) val so1 st wk).toArray) rfl (by kernel_rfl) (by kernel_rfl) (by kernel_rfl) (fun _ _ _ h => h) (ldTr_if rfl (.tmp 7) rfl g5 rfl (fun w' h => HasC.new A5.out h)) S0.out ?_
          simp only [List.getElem_toArray, List.getElem_cons_zero, List.getElem_cons_succ, Act.put, List.setIfInBounds_toArray, List.set_cons_zero, List.set_cons_succ]
          refine wpAnyH_take (i := 4) (v := .pointer (some ⟨g3, 9, none⟩)) rfl (by kernel_rfl) (by kernel_rfl) (by kernel_rfl) (fun _ _ _ h => h) (Or.inl ⟨rfl, fun _ _ => by go_simp⟩) S0.out ?_
          simp only [List.getElem_toArray, List.getElem_cons_zero, List.getElem_cons_succ, Act.put, List.setIfInBounds_toArray, List.set_cons_zero, List.set_cons_succ]
          refine wpAnyH_take (i := 5) (v := .slice a.ao a.n a.c) rfl (by kernel_rfl) (by kernel_rfl) (by kernel_rfl) (fun _ _ _ h => h) (ldC_if rfl 24 Tryz.isAgg24 (.tmp 74) rfl ⟨g3, 9, none⟩ rfl (fun w' h => HasK.an (HasC.new HK.out h))) S0.out ?_
          simp only [List.getElem_toArray, List.getElem_cons_zero, List.getElem_cons_succ, Act.put, List.setIfInBounds_toArray, List.set_cons_zero, List.set_cons_succ]
          refine wpAnyH_take (i := 6) (v := .int .u8 mr) rfl (by kernel_rfl) (by kernel_rfl) (by kernel_rfl) (fun _ _ _ h => h) (Or.inl ⟨rfl, fun _ _ => by go_simp⟩) S0.out ?_
          simp only [List.getElem_toArray, List.getElem_cons_zero, List.getElem_cons_succ, Act.put, List.setIfInBounds_toArray, List.set_cons_zero, List.set_cons_succ]
          refine wpAnyH_take (i := 7) (v := .int .i64 mr) rfl (by kernel_rfl) (by kernel_rfl) (by kernel_rfl) (fun _ _ _ h => h) (Or.inl ⟨rfl, fun _ _ => by first | (go_simp; done) | (go_simp; rw [IntKind.wrap_i64]; omega)⟩) S0.out ?_
          simp only [List.getElem_toArray, List.getElem_cons_zero, List.getElem_cons_succ, Act.put, List.setIfInBounds_toArray, List.set_cons_zero, List.set_cons_succ]
          refine wpAnyH_all (rs := [2, 12, 13]) (by kernel_rfl) (by simp) ?_
          simp only [List.mem_cons, List.not_mem_nil, or_false]
          rintro t (rfl | rfl | rfl)
          · refine wpOp_call (i := 2) rfl rfl 10 #[.agg (cellsS l2 s1 p2 q2).toArray] (by go_simp) ?_
            refine (as_far l2 s1 p2 q2 _).mono ?_
            rintro e wA ⟨b, rfl, hb9, hnN, hfb⟩
            have AB : Hid (ApS (fun k => k = g3) b) := Lib.hid (hfb.aps (fun _ h => by rw [h]; exact Nat.lt_of_lt_of_le b3v S0.out.size))
            have HWB := Lib.hid hb9
            replace S0 := Lib.hid (S0.out.trans hnN)
            clear hfb hb9 hnN
            refine ⟨_, rfl, S0.out, ?_⟩
            simp only [List.getElem_toArray, List.getElem_cons_zero, List.getElem_cons_succ, Act.put, List.setIfInBounds_toArray, List.set_cons_zero, List.set_cons_succ]
            refine wpAnyH_all (rs := [8, 12, 13]) (by kernel_rfl) (by simp) ?_
            simp only [List.mem_cons, List.not_mem_nil, or_false]
            rintro t (rfl | rfl | rfl)
            · refine wpOp_call (i := 8) rfl rfl 9 #[.slice fo f.length fc, .agg (refC b s1 p2 q2).toArray, .agg (trC ev1 (how) val so1 st wk).toArray, .slice a.ao a.n a.c, .int .i64 mr] (by go_simp) ?_
              refine (on_is (ca := a) (G0 := (fun k => k = g3)) ((HF.out.new HN.out).new S0.out) ((HA.out.new HN.out).new S0.out) HAL1.out HWB.out (HS1.out.new S0.out) (HE1.out.new S0.out) (HO1.out.new S0.out) HMC.out hb1 HB1.out HB2.out HB3.out (fun _ h => by rw [h]; exact Nat.lt_of_lt_of_le b3v S0.out.size) (HE1.out.ap2 AE1.out (fun _ h => .inl h)) AB.out (HS1.out.ap2 AS1.out (fun _ h => .inl h)) (HO1.out.ap2 AO1.out (fun _ h => .inl h)) HON.out).mono ?_
              rintro e wO ⟨ev, so, a', s', rfl, y1, y2, y3, y4, hnN, y5, y6, y7, y8⟩
              have RZ : Hid (Rz wO (fun k => k = g3) ev es2 a' l3 s' z3 so oh2) := Lib.hid ⟨y1, y5, y3, y7, y4, y8, y2, y6⟩
              replace S0 := Lib.hid (S0.out.trans hnN)
              clear y1 y2 y3 y4 y5 y6 y7 y8 hnN HWB AB
              refine ⟨_, rfl, S0.out, ?_⟩
              simp only [List.getElem_toArray, List.getElem_cons_zero, List.getElem_cons_succ, Act.put, List.setIfInBounds_toArray, List.set_cons_zero, List.set_cons_succ]
              refine wpAnyH_take (i := 9) (v := .tuple #[.agg (trC ev how2 val2 so st2 wk2).toArray, .agg (refC a' s' p3 q3).toArray]) rfl (by kernel_rfl) (by kernel_rfl) (by kernel_rfl) (fun _ _ _ h => h) (Or.inl ⟨rfl, fun _ _ => by go_simp⟩) S0.out ?_
              simp only [List.getElem_toArray, List.getElem_cons_zero, List.getElem_cons_succ, Act.put, List.setIfInBounds_toArray, List.set_cons_zero, List.set_cons_succ]
              refine wpAnyH_take (i := 10) (v := .agg (trC ev how2 val2 so st2 wk2).toArray) rfl (by kernel_rfl) (by kernel_rfl) (by kernel_rfl) (fun _ _ _ h => h) (Or.inl ⟨rfl, fun _ _ => by go_simp⟩) S0.out ?_
              simp only [List.getElem_toArray, List.getElem_cons_zero, List.getElem_cons_succ, Act.put, List.setIfInBounds_toArray, List.set_cons_zero, List.set_cons_succ]
              refine wpAnyH_take (i := 11) (v := .agg (refC a' s' p3 q3).toArray) rfl (by kernel_rfl) (by kernel_rfl) (by kernel_rfl) (fun _ _ _ h => h) (Or.inl ⟨rfl, fun _ _ => by go_simp⟩) S0.out ?_
              simp only [List.getElem_toArray, List.getElem_cons_zero, List.getElem_cons_succ, Act.put, List.setIfInBounds_toArray, List.set_cons_zero, List.set_cons_succ]
              refine wpAnyH_all (rs := [12, 13]) (by kernel_rfl) (by simp) ?_
              simp only [List.mem_cons, List.not_mem_nil, or_false]
              rintro t (rfl | rfl)
              · refine wpOp_alX (i := 12) rfl rfl 33 rfl _ zeroT_run _ rfl ?_
                intro wM g10 hgM hlM HM9 hnN
                have z10 : wv.heap.size ≤ g10 := Nat.le_trans S0.out.size hgM
                have A10 : Hid (HasTr wM g10 nilS 0 0 nilS 0 0) := Lib.hid HM9
                replace RZ := Lib.hid ((RZ.out.own (H := (fun k => k = g3 ∨ k = g10)) (fun _ h => h.elim .inl (fun h => .inr (by rw [h]; exact hgM)))).new hnN)
                replace S0 := Lib.hid (S0.out.trans hnN)
                clear HM9 hnN hgM hlM
                refine ⟨S0.out, ?_⟩
                simp only [List.getElem_toArray, List.getElem_cons_zero, List.getElem_cons_succ, Act.put, List.setIfInBounds_toArray, List.set_cons_zero, List.set_cons_succ]
                refine wpAnyH_all (rs := [13]) (by kernel_rfl) (by simp) ?_
                simp only [List.mem_cons, List.not_mem_nil, or_false]
                rintro t rfl
                refine wpOp_alX (i := 13) rfl rfl 44 rfl _ zeroR_run _ rfl ?_
                intro wM g11 hgM hlM HM9 hnN
                have z11 : wv.heap.size ≤ g11 := Nat.le_trans S0.out.size hgM
                have dd0 : g10 < g11 := Nat.lt_of_lt_of_le (HasC.lt A10.out) hgM
                have dd : g10 ≠ g11 := by omega
                replace A10 : Hid (HasTr wM g10 nilS 0 0 nilS 0 0) := Lib.hid (HasC.new A10.out hnN)
                have A11 : Hid (HasRf wM g11 nilS nilS 0 0) := Lib.hid HM9
                replace RZ := Lib.hid ((RZ.out.own (H := (fun k => k = g3 ∨ k = g10 ∨ k = g11)) (fun _ h => h.elim (fun h => .inl (.inl h)) (fun h => h.elim (fun h => .inl (.inr h)) (fun h => .inr (by rw [h]; exact hgM))))).new hnN)
                replace S0 := Lib.hid (S0.out.trans hnN)
                clear HM9 hnN hgM hlM
                refine ⟨S0.out, ?_⟩
                simp only [List.getElem_toArray, List.getElem_cons_zero, List.getElem_cons_succ, Act.put, List.setIfInBounds_toArray, List.set_cons_zero, List.set_cons_succ]
                refine wpAnyH_forced [14, 15] _ _ _ S0.out (by kernel_rfl) (by simp) ?_
                simp only [List.map_cons, List.map_nil, Array.getD_eq_getD_getElem?, List.getElem?_toArray, List.getElem?_cons_succ, List.getElem?_cons_zero, Option.getD_some]
                refine wpLS_stX rfl rfl _ (.tmp 10) (.tmp 79) rfl g10 rfl _ rfl A10.out (trC ev how2 val2 so st2 wk2) rfl (by simp [trC]) (by simp [trC, Value.oneCell']) infoTr ?_
                intro w8 H8 k8
                have d1 : g10 ≠ g11 := dd
                refine ⟨k8.below _ z10 S0.out, ?_⟩
                refine wpLS_stX rfl rfl _ (.tmp 11) (.tmp 80) rfl g11 rfl _ rfl (HasC.kept A11.out k8 (Ne.symm d1)) (refC a' s' p3 q3) rfl (by simp [refC]) (by simp [refC, Value.oneCell']) infoRf ?_
                intro w9 H9 k9
                refine ⟨k9.below _ z11 (k8.below _ z10 S0.out), ?_⟩
                refine wpLS_nil ?_
                refine NoPanic.normal ?_
                have RW := (RZ.out.keep (fun j _ hG h => (k8.other j (fun x => hG (.inr (.inl x)))).trans h)).keep (fun j _ hG h => (k9.other j (fun x => hG (.inr (.inr x)))).trans h)
                go_wp2_with fail
                go_meet
                exact ⟨g10, g11, ev, so, a', s', rfl, rfl, Lib.hid (HasC.kept H8 k9 d1), Lib.hid H9, Lib.hid (RW.mono (fun _ h => .inl h)), Lib.hid ⟨z10, z11⟩, Lib.hid (k9.below _ z11 (k8.below _ z10 S0.out))⟩
              · refine wpOp_alX (i := 13) rfl rfl 44 rfl _ zeroR_run _ rfl ?_
                intro wM g11 hgM hlM HM9 hnN
                have z11 : wv.heap.size ≤ g11 := Nat.le_trans S0.out.size hgM
                have A11 : Hid (HasRf wM g11 nilS nilS 0 0) := Lib.hid HM9
                replace RZ := Lib.hid ((RZ.out.own (H := (fun k => k = g3 ∨ k = g11)) (fun _ h => h.elim .inl (fun h => .inr (by rw [h]; exact hgM)))).new hnN)
                replace S0 := Lib.hid (S0.out.trans hnN)
                clear HM9 hnN hgM hlM
                refine ⟨S0.out, ?_⟩
                simp only [List.getElem_toArray, List.getElem_cons_zero, List.getElem_cons_succ, Act.put, List.setIfInBounds_toArray, List.set_cons_zero, List.set_cons_succ]
                refine wpAnyH_all (rs := [12]) (by kernel_rfl) (by simp) ?_
                simp only [List.mem_cons, List.not_mem_nil, or_false]
                rintro t rfl
                refine wpOp_alX (i := 12) rfl rfl 33 rfl _ zeroT_run _ rfl ?_
                intro wM g10 hgM hlM HM9 hnN
                have z10 : wv.heap.size ≤ g10 := Nat.le_trans S0.out.size hgM
                have dd0 : g11 < g10 := Nat.lt_of_lt_of_le (HasC.lt A11.out) hgM
                have dd : g10 ≠ g11 := by omega
                replace A11 : Hid (HasRf wM g11 nilS nilS 0 0) := Lib.hid (HasC.new A11.out hnN)
                have A10 : Hid (HasTr wM g10 nilS 0 0 nilS 0 0) := Lib.hid HM9
                replace RZ := Lib.hid ((RZ.out.own (H := (fun k => k = g3 ∨ k = g10 ∨ k = g11)) (fun _ h => h.elim (fun h => .inl (.inl h)) (fun h => h.elim (fun h => .inr (by rw [h]; exact hgM)) (fun h => .inl (.inr h))))).new hnN)
                replace S0 := Lib.hid (S0.out.trans hnN)
                clear HM9 hnN hgM hlM
                refine ⟨S0.out, ?_⟩
                simp only [List.getElem_toArray, List.getElem_cons_zero, List.getElem_cons_succ, Act.put, List.setIfInBounds_toArray, List.set_cons_zero, List.set_cons_succ]
                refine wpAnyH_forced [14, 15] _ _ _ S0.out (by kernel_rfl) (by simp) ?_
                simp only [List.map_cons, List.map_nil, Array.getD_eq_getD_getElem?, List.getElem?_toArray, List.getElem?_cons_succ, List.getElem?_cons_zero, Option.getD_some]
                refine wpLS_stX rfl rfl _ (.tmp 10) (.tmp 79) rfl g10 rfl _ rfl A10.out (trC ev how2 val2 so st2 wk2) rfl (by simp [trC]) (by simp [trC, Value.oneCell']) infoTr ?_
                intro w8 H8 k8
                have d1 : g10 ≠ g11 := dd
                refine ⟨k8.below _ z10 S0.out, ?_⟩
                refine wpLS_stX rfl rfl _ (.tmp 11) (.tmp 80) rfl g11 rfl _ rfl (HasC.kept A11.out k8 (Ne.symm d1)) (refC a' s' p3 q3) rfl (by simp [refC]) (by simp [refC, Value.oneCell']) infoRf ?_
                intro w9 H9 k9
                refine ⟨k9.below _ z11 (k8.below _ z10 S0.out), ?_⟩
                refine wpLS_nil ?_
                refine NoPanic.normal ?_
                have RW := (RZ.out.keep (fun j _ hG h => (k8.other j (fun x => hG (.inr (.inl x)))).trans h)).keep (fun j _ hG h => (k9.other j (fun x => hG (.inr (.inr x)))).trans h)
                go_wp2_with fail
                go_meet
                exact ⟨g10, g11, ev, so, a', s', rfl, rfl, Lib.hid (HasC.kept H8 k9 d1), Lib.hid H9, Lib.hid (RW.mono (fun _ h => .inl h)), Lib.hid ⟨z10, z11⟩, Lib.hid (k9.below _ z11 (k8.below _ z10 S0.out))⟩
            · refine wpOp_alX (i := 12) rfl rfl 33 rfl _ zeroT_run _ rfl ?_
              intro wM g10 hgM hlM HM9 hnN
              have z10 : wv.heap.size ≤ g10 := Nat.le_trans S0.out.size hgM
              have A10 : Hid (HasTr wM g10 nilS 0 0 nilS 0 0) := Lib.hid HM9
              replace AB := Lib.hid (HWB.out.aps2 (H := (fun k => k = g3 ∨ k = g10)) AB.out (fun _ h => h.elim .inl (fun h => .inr (by rw [h]; exact hgM))))
              replace HWB := Lib.hid (HWB.out.new hnN)
              replace S0 := Lib.hid (S0.out.trans hnN)
              clear HM9 hnN hgM hlM
              refine ⟨S0.out, ?_⟩
              simp only [List.getElem_toArray, List.getElem_cons_zero, List.getElem_cons_succ, Act.put, List.setIfInBounds_toArray, List.set_cons_zero, List.set_cons_succ]
              refine wpAnyH_all (rs := [8, 13]) (by kernel_rfl) (by simp) ?_
              simp only [List.mem_cons, List.not_mem_nil, or_false]
              rintro t (rfl | rfl)
              · refine wpOp_call (i := 8) rfl rfl 9 #[.slice fo f.length fc, .agg (refC b s1 p2 q2).toArray, .agg (trC ev1 (how) val so1 st wk).toArray, .slice a.ao a.n a.c, .int .i64 mr] (by go_simp) ?_
                refine (on_is (ca := a) (G0 := (fun k => k = g3 ∨ k = g10)) ((HF.out.new HN.out).new S0.out) ((HA.out.new HN.out).new S0.out) HAL1.out HWB.out (HS1.out.new S0.out) (HE1.out.new S0.out) (HO1.out.new S0.out) HMC.out hb1 HB1.out HB2.out HB3.out (fun _ h => h.elim (fun h => by rw [h]; exact Nat.lt_of_lt_of_le b3v S0.out.size) (fun h => by rw [h]; exact HasC.lt A10.out)) (HE1.out.ap2 AE1.out (fun _ h => h.elim .inl (fun h => .inr (by rw [h]; exact z10)))) AB.out (HS1.out.ap2 AS1.out (fun _ h => h.elim .inl (fun h => .inr (by rw [h]; exact z10)))) (HO1.out.ap2 AO1.out (fun _ h => h.elim .inl (fun h => .inr (by rw [h]; exact z10)))) HON.out).mono ?_
                rintro e wO ⟨ev, so, a', s', rfl, y1, y2, y3, y4, hnN, y5, y6, y7, y8⟩
                have RZ : Hid (Rz wO (fun k => k = g3 ∨ k = g10) ev es2 a' l3 s' z3 so oh2) := Lib.hid ⟨y1, y5, y3, y7, y4, y8, y2, y6⟩
                replace A10 : Hid (HasTr wO g10 nilS 0 0 nilS 0 0) := Lib.hid (HasC.new A10.out hnN)
                replace S0 := Lib.hid (S0.out.trans hnN)
                clear y1 y2 y3 y4 y5 y6 y7 y8 hnN HWB AB
                refine ⟨_, rfl, S0.out, ?_⟩
                simp only [List.getElem_toArray, List.getElem_cons_zero, List.getElem_cons_succ, Act.put, List.setIfInBounds_toArray, List.set_cons_zero, List.set_cons_succ]
                refine wpAnyH_take (i := 9) (v := .tuple #[.agg (trC ev how2 val2 so st2 wk2).toArray, .agg (refC a' s' p3 q3).toArray]) rfl (by kernel_rfl) (by kernel_rfl) (by kernel_rfl) (fun _ _ _ h => h) (Or.inl ⟨rfl, fun _ _ => by go_simp⟩) S0.out ?_
                simp only [List.getElem_toArray, List.getElem_cons_zero, List.getElem_cons_succ, Act.put, List.setIfInBounds_toArray, List.set_cons_zero, List.set_cons_succ]
                refine wpAnyH_take (i := 10) (v := .agg (trC ev how2 val2 so st2 wk2).toArray) rfl (by kernel_rfl) (by kernel_rfl) (by kernel_rfl) (fun _ _ _ h => h) (Or.inl ⟨rfl, fun _ _ => by go_simp⟩) S0.out ?_
                simp only [List.getElem_toArray, List.getElem_cons_zero, List.getElem_cons_succ, Act.put, List.setIfInBounds_toArray, List.set_cons_zero, List.set_cons_succ]
                refine wpAnyH_take (i := 11) (v := .agg (refC a' s' p3 q3).toArray) rfl (by kernel_rfl) (by kernel_rfl) (by kernel_rfl) (fun _ _ _ h => h) (Or.inl ⟨rfl, fun _ _ => by go_simp⟩) S0.out ?_
                simp only [List.getElem_toArray, List.getElem_cons_zero, List.getElem_cons_succ, Act.put, List.setIfInBounds_toArray, List.set_cons_zero, List.set_cons_succ]
                refine wpAnyH_all (rs := [13]) (by kernel_rfl) (by simp) ?_
                simp only [List.mem_cons, List.not_mem_nil, or_false]
                rintro t rfl
                refine wpOp_alX (i := 13) rfl rfl 44 rfl _ zeroR_run _ rfl ?_
                intro wM g11 hgM hlM HM9 hnN
                have z11 : wv.heap.size ≤ g11 := Nat.le_trans S0.out.size hgM
                have dd0 : g10 < g11 := Nat.lt_of_lt_of_le (HasC.lt A10.out) hgM
                have dd : g10 ≠ g11 := by omega
                replace A10 : Hid (HasTr wM g10 nilS 0 0 nilS 0 0) := Lib.hid (HasC.new A10.out hnN)
                have A11 : Hid (HasRf wM g11 nilS nilS 0 0) := Lib.hid HM9
                replace RZ := Lib.hid ((RZ.out.own (H := (fun k => k = g3 ∨ k = g10 ∨ k = g11)) (fun _ h => h.elim (fun h => .inl (.inl h)) (fun h => h.elim (fun h => .inl (.inr h)) (fun h => .inr (by rw [h]; exact hgM))))).new hnN)
                replace S0 := Lib.hid (S0.out.trans hnN)
                clear HM9 hnN hgM hlM
                refine ⟨S0.out, ?_⟩
                simp only [List.getElem_toArray, List.getElem_cons_zero, List.getElem_cons_succ, Act.put, List.setIfInBounds_toArray, List.set_cons_zero, List.set_cons_succ]
                refine wpAnyH_forced [14, 15] _ _ _ S0.out (by kernel_rfl) (by simp) ?_
                simp only [List.map_cons, List.map_nil, Array.getD_eq_getD_getElem?, List.getElem?_toArray, List.getElem?_cons_succ, List.getElem?_cons_zero, Option.getD_some]
                refine wpLS_stX rfl rfl _ (.tmp 10) (.tmp 79) rfl g10 rfl _ rfl A10.out (trC ev how2 val2 so st2 wk2) rfl (by simp [trC]) (by simp [trC, Value.oneCell']) infoTr ?_
                intro w8 H8 k8
                have d1 : g10 ≠ g11 := dd
                refine ⟨k8.below _ z10 S0.out, ?_⟩
                refine wpLS_stX rfl rfl _ (.tmp 11) (.tmp 80) rfl g11 rfl _ rfl (HasC.kept A11.out k8 (Ne.symm d1)) (refC a' s' p3 q3) rfl (by simp [refC]) (by simp [refC, Value.oneCell']) infoRf ?_
                intro w9 H9 k9
                refine ⟨k9.below _ z11 (k8.below _ z10 S0.out), ?_⟩
                refine wpLS_nil ?_
                refine NoPanic.normal ?_
                have RW := (RZ.out.keep (fun j _ hG h => (k8.other j (fun x => hG (.inr (.inl x)))).trans h)).keep (fun j _ hG h => (k9.other j (fun x => hG (.inr (.inr x)))).trans h)
                go_wp2_with fail
                go_meet
                exact ⟨g10, g11, ev, so, a', s', rfl, rfl, Lib.hid (HasC.kept H8 k9 d1), Lib.hid H9, Lib.hid (RW.mono (fun _ h => .inl h)), Lib.hid ⟨z10, z11⟩, Lib.hid (k9.below _ z11 (k8.below _ z10 S0.out))⟩
              · refine wpOp_alX (i := 13) rfl rfl 44 rfl _ zeroR_run _ rfl ?_
                intro wM g11 hgM hlM HM9 hnN
                have z11 : wv.heap.size ≤ g11 := Nat.le_trans S0.out.size hgM
                have dd0 : g10 < g11 := Nat.lt_of_lt_of_le (HasC.lt A10.out) hgM
                have dd : g10 ≠ g11 := by omega
                replace A10 : Hid (HasTr wM g10 nilS 0 0 nilS 0 0) := Lib.hid (HasC.new A10.out hnN)
                have A11 : Hid (HasRf wM g11 nilS nilS 0 0) := Lib.hid HM9
                replace AB := Lib.hid (HWB.out.aps2 (H := (fun k => k = g3 ∨ k = g10 ∨ k = g11)) AB.out (fun _ h => h.elim (fun h => .inl (.inl h)) (fun h => h.elim (fun h => .inl (.inr h)) (fun h => .inr (by rw [h]; exact hgM)))))
                replace HWB := Lib.hid (HWB.out.new hnN)
                replace S0 := Lib.hid (S0.out.trans hnN)
                clear HM9 hnN hgM hlM
                refine ⟨S0.out, ?_⟩
                simp only [List.getElem_toArray, List.getElem_cons_zero, List.getElem_cons_succ, Act.put, List.setIfInBounds_toArray, List.set_cons_zero, List.set_cons_succ]
                refine wpAnyH_all (rs := [8]) (by kernel_rfl) (by simp) ?_
                simp only [List.mem_cons, List.not_mem_nil, or_false]
                rintro t rfl
                refine wpOp_call (i := 8) rfl rfl 9 #[.slice fo f.length fc, .agg (refC b s1 p2 q2).toArray, .agg (trC ev1 (how) val so1 st wk).toArray, .slice a.ao a.n a.c, .int .i64 mr] (by go_simp) ?_
                refine (on_is (ca := a) (G0 := (fun k => k = g3 ∨ k = g10 ∨ k = g11)) ((HF.out.new HN.out).new S0.out) ((HA.out.new HN.out).new S0.out) HAL1.out HWB.out (HS1.out.new S0.out) (HE1.out.new S0.out) (HO1.out.new S0.out) HMC.out hb1 HB1.out HB2.out HB3.out (fun _ h => h.elim (fun h => by rw [h]; exact Nat.lt_of_lt_of_le b3v S0.out.size) (fun h => h.elim (fun h => by rw [h]; exact HasC.lt A10.out) (fun h => by rw [h]; exact HasC.lt A11.out))) (HE1.out.ap2 AE1.out (fun _ h => h.elim .inl (fun h => h.elim (fun h => .inr (by rw [h]; exact z10)) (fun h => .inr (by rw [h]; exact z11))))) AB.out (HS1.out.ap2 AS1.out (fun _ h => h.elim .inl (fun h => h.elim (fun h => .inr (by rw [h]; exact z10)) (fun h => .inr (by rw [h]; exact z11))))) (HO1.out.ap2 AO1.out (fun _ h => h.elim .inl (fun h => h.elim (fun h => .inr (by rw [h]; exact z10)) (fun h => .inr (by rw [h]; exact z11))))) HON.out).mono ?_
                rintro e wO ⟨ev, so, a', s', rfl, y1, y2, y3, y4, hnN, y5, y6, y7, y8⟩
                have RZ : Hid (Rz wO (fun k => k = g3 ∨ k = g10 ∨ k = g11) ev es2 a' l3 s' z3 so oh2) := Lib.hid ⟨y1, y5, y3, y7, y4, y8, y2, y6⟩
                replace A10 : Hid (HasTr wO g10 nilS 0 0 nilS 0 0) := Lib.hid (HasC.new A10.out hnN)
                replace A11 : Hid (HasRf wO g11 nilS nilS 0 0) := Lib.hid (HasC.new A11.out hnN)
                replace S0 := Lib.hid (S0.out.trans hnN)
                clear y1 y2 y3 y4 y5 y6 y7 y8 hnN HWB AB
                refine ⟨_, rfl, S0.out, ?_⟩
                simp only [List.getElem_toArray, List.getElem_cons_zero, List.getElem_cons_succ, Act.put, List.setIfInBounds_toArray, List.set_cons_zero, List.set_cons_succ]
                refine wpAnyH_take (i := 9) (v := .tuple #[.agg (trC ev how2 val2 so st2 wk2).toArray, .agg (refC a' s' p3 q3).toArray]) rfl (by kernel_rfl) (by kernel_rfl) (by kernel_rfl) (fun _ _ _ h => h) (Or.inl ⟨rfl, fun _ _ => by go_simp⟩) S0.out ?_
                simp only [List.getElem_toArray, List.getElem_cons_zero, List.getElem_cons_succ, Act.put, List.setIfInBounds_toArray, List.set_cons_zero, List.set_cons_succ]
                refine wpAnyH_take (i := 10) (v := .agg (trC ev how2 val2 so st2 wk2).toArray) rfl (by kernel_rfl) (by kernel_rfl) (by kernel_rfl) (fun _ _ _ h => h) (Or.inl ⟨rfl, fun _ _ => by go_simp⟩) S0.out ?_
                simp only [List.getElem_toArray, List.getElem_cons_zero, List.getElem_cons_succ, Act.put, List.setIfInBounds_toArray, List.set_cons_zero, List.set_cons_succ]
                refine wpAnyH_take (i := 11) (v := .agg (refC a' s' p3 q3).toArray) rfl (by kernel_rfl) (by kernel_rfl) (by kernel_rfl) (fun _ _ _ h => h) (Or.inl ⟨rfl, fun _ _ => by go_simp⟩) S0.out ?_
                simp only [List.getElem_toArray, List.getElem_cons_zero, List.getElem_cons_succ, Act.put, List.setIfInBounds_toArray, List.set_cons_zero, List.set_cons_succ]
                refine wpAnyH_forced [14, 15] _ _ _ S0.out (by kernel_rfl) (by simp) ?_
                simp only [List.map_cons, List.map_nil, Array.getD_eq_getD_getElem?, List.getElem?_toArray, List.getElem?_cons_succ, List.getElem?_cons_zero, Option.getD_some]
                refine wpLS_stX rfl rfl _ (.tmp 10) (.tmp 79) rfl g10 rfl _ rfl A10.out (trC ev how2 val2 so st2 wk2) rfl (by simp [trC]) (by simp [trC, Value.oneCell']) infoTr ?_
                intro w8 H8 k8
                have d1 : g10 ≠ g11 := dd
                refine ⟨k8.below _ z10 S0.out, ?_⟩
                refine wpLS_stX rfl rfl _ (.tmp 11) (.tmp 80) rfl g11 rfl _ rfl (HasC.kept A11.out k8 (Ne.symm d1)) (refC a' s' p3 q3) rfl (by simp [refC]) (by simp [refC, Value.oneCell']) infoRf ?_
                intro w9 H9 k9
                refine ⟨k9.below _ z11 (k8.below _ z10 S0.out), ?_⟩
                refine wpLS_nil ?_
                refine NoPanic.normal ?_
                have RW := (RZ.out.keep (fun j _ hG h => (k8.other j (fun x => hG (.inr (.inl x)))).trans h)).keep (fun j _ hG h => (k9.other j (fun x => hG (.inr (.inr x)))).trans h)
                go_wp2_with fail
                go_meet
                exact ⟨g10, g11, ev, so, a', s', rfl, rfl, Lib.hid (HasC.kept H8 k9 d1), Lib.hid H9, Lib.hid (RW.mono (fun _ h => .inl h)), Lib.hid ⟨z10, z11⟩, Lib.hid (k9.below _ z11 (k8.below _ z10 S0.out))⟩
            · refine wpOp_alX (i := 13) rfl rfl 44 rfl _ zeroR_run _ rfl ?_
              intro wM g11 hgM hlM HM9 hnN
              have z11 : wv.heap.size ≤ g11 := Nat.le_trans S0.out.size hgM
              have A11 : Hid (HasRf wM g11 nilS nilS 0 0) := Lib.hid HM9
              replace AB := Lib.hid (HWB.out.aps2 (H := (fun k => k = g3 ∨ k = g11)) AB.out (fun _ h => h.elim .inl (fun h => .inr (by rw [h]; exact hgM))))
              replace HWB := Lib.hid (HWB.out.new hnN)
              replace S0 := Lib.hid (S0.out.trans hnN)
              clear HM9 hnN hgM hlM
              refine ⟨S0.out, ?_⟩
              simp only [List.getElem_toArray, List.getElem_cons_zero, List.getElem_cons_succ, Act.put, List.setIfInBounds_toArray, List.set_cons_zero, List.set_cons_succ]
              refine wpAnyH_all (rs := [8, 12]) (by kernel_rfl) (by simp) ?_
              simp only [List.mem_cons, List.not_mem_nil, or_false]
              rintro t (rfl | rfl)
              · refine wpOp_call (i := 8) rfl rfl 9 #[.slice fo f.length fc, .agg (refC b s1 p2 q2).toArray, .agg (trC ev1 (how) val so1 st wk).toArray, .slice a.ao a.n a.c, .int .i64 mr] (by go_simp) ?_
                refine (on_is (ca := a) (G0 := (fun k => k = g3 ∨ k = g11)) ((HF.out.new HN.out).new S0.out) ((HA.out.new HN.out).new S0.out) HAL1.out HWB.out (HS1.out.new S0.out) (HE1.out.new S0.out) (HO1.out.new S0.out) HMC.out hb1 HB1.out HB2.out HB3.out (fun _ h => h.elim (fun h => by rw [h]; exact Nat.lt_of_lt_of_le b3v S0.out.size) (fun h => by rw [h]; exact HasC.lt A11.out)) (HE1.out.ap2 AE1.out (fun _ h => h.elim .inl (fun h => .inr (by rw [h]; exact z11)))) AB.out (HS1.out.ap2 AS1.out (fun _ h => h.elim .inl (fun h => .inr (by rw [h]; exact z11)))) (HO1.out.ap2 AO1.out (fun _ h => h.elim .inl (fun h => .inr (by rw [h]; exact z11)))) HON.out).mono ?_
                rintro e wO ⟨ev, so, a', s', rfl, y1, y2, y3, y4, hnN, y5, y6, y7, y8⟩
                have RZ : Hid (Rz wO (fun k => k = g3 ∨ k = g11) ev es2 a' l3 s' z3 so oh2) := Lib.hid ⟨y1, y5, y3, y7, y4, y8, y2, y6⟩
                replace A11 : Hid (HasRf wO g11 nilS nilS 0 0) := Lib.hid (HasC.new A11.out hnN)
                replace S0 := Lib.hid (S0.out.trans hnN)
                clear y1 y2 y3 y4 y5 y6 y7 y8 hnN HWB AB
                refine ⟨_, rfl, S0.out, ?_⟩
                simp only [List.getElem_toArray, List.getElem_cons_zero, List.getElem_cons_succ, Act.put, List.setIfInBounds_toArray, List.set_cons_zero, List.set_cons_succ]
                refine wpAnyH_take (i := 9) (v := .tuple #[.agg (trC ev how2 val2 so st2 wk2).toArray, .agg (refC a' s' p3 q3).toArray]) rfl (by kernel_rfl) (by kernel_rfl) (by kernel_rfl) (fun _ _ _ h => h) (Or.inl ⟨rfl, fun _ _ => by go_simp⟩) S0.out ?_
                simp only [List.getElem_toArray, List.getElem_cons_zero, List.getElem_cons_succ, Act.put, List.setIfInBounds_toArray, List.set_cons_zero, List.set_cons_succ]
                refine wpAnyH_take (i := 10) (v := .agg (trC ev how2 val2 so st2 wk2).toArray) rfl (by kernel_rfl) (by kernel_rfl) (by kernel_rfl) (fun _ _ _ h => h) (Or.inl ⟨rfl, fun _ _ => by go_simp⟩) S0.out ?_
                simp only [List.getElem_toArray, List.getElem_cons_zero, List.getElem_cons_succ, Act.put, List.setIfInBounds_toArray, List.set_cons_zero, List.set_cons_succ]
                refine wpAnyH_take (i := 11) (v := .agg (refC a' s' p3 q3).toArray) rfl (by kernel_rfl) (by kernel_rfl) (by kernel_rfl) (fun _ _ _ h => h) (Or.inl ⟨rfl, fun _ _ => by go_simp⟩) S0.out ?_
                simp only [List.getElem_toArray, List.getElem_cons_zero, List.getElem_cons_succ, Act.put, List.setIfInBounds_toArray, List.set_cons_zero, List.set_cons_succ]
                refine wpAnyH_all (rs := [12]) (by kernel_rfl) (by simp) ?_
                simp only [List.mem_cons, List.not_mem_nil, or_false]
                rintro t rfl
                refine wpOp_alX (i := 12) rfl rfl 33 rfl _ zeroT_run _ rfl ?_
                intro wM g10 hgM hlM HM9 hnN
                have z10 : wv.heap.size ≤ g10 := Nat.le_trans S0.out.size hgM
                have dd0 : g11 < g10 := Nat.lt_of_lt_of_le (HasC.lt A11.out) hgM
                have dd : g10 ≠ g11 := by omega
                replace A11 : Hid (HasRf wM g11 nilS nilS 0 0) := Lib.hid (HasC.new A11.out hnN)
                have A10 : Hid (HasTr wM g10 nilS 0 0 nilS 0 0) := Lib.hid HM9
                replace RZ := Lib.hid ((RZ.out.own (H := (fun k => k = g3 ∨ k = g10 ∨ k = g11)) (fun _ h => h.elim (fun h => .inl (.inl h)) (fun h => h.elim (fun h => .inr (by rw [h]; exact hgM)) (fun h => .inl (.inr h))))).new hnN)
                replace S0 := Lib.hid (S0.out.trans hnN)
                clear HM9 hnN hgM hlM
                refine ⟨S0.out, ?_⟩
                simp only [List.getElem_toArray, List.getElem_cons_zero, List.getElem_cons_succ, Act.put, List.setIfInBounds_toArray, List.set_cons_zero, List.set_cons_succ]
                refine wpAnyH_forced [14, 15] _ _ _ S0.out (by kernel_rfl) (by simp) ?_
                simp only [List.map_cons, List.map_nil, Array.getD_eq_getD_getElem?, List.getElem?_toArray, List.getElem?_cons_succ, List.getElem?_cons_zero, Option.getD_some]
                refine wpLS_stX rfl rfl _ (.tmp 10) (.tmp 79) rfl g10 rfl _ rfl A10.out (trC ev how2 val2 so st2 wk2) rfl (by simp [trC]) (by simp [trC, Value.oneCell']) infoTr ?_
                intro w8 H8 k8
                have d1 : g10 ≠ g11 := dd
                refine ⟨k8.below _ z10 S0.out, ?_⟩
                refine wpLS_stX rfl rfl _ (.tmp 11) (.tmp 80) rfl g11 rfl _ rfl (HasC.kept A11.out k8 (Ne.symm d1)) (refC a' s' p3 q3) rfl (by simp [refC]) (by simp [refC, Value.oneCell']) infoRf ?_
                intro w9 H9 k9
                refine ⟨k9.below _ z11 (k8.below _ z10 S0.out), ?_⟩
                refine wpLS_nil ?_
                refine NoPanic.normal ?_
                have RW := (RZ.out.keep (fun j _ hG h => (k8.other j (fun x => hG (.inr (.inl x)))).trans h)).keep (fun j _ hG h => (k9.other j (fun x => hG (.inr (.inr x)))).trans h)
                go_wp2_with fail
                go_meet
                exact ⟨g10, g11, ev, so, a', s', rfl, rfl, Lib.hid (HasC.kept H8 k9 d1), Lib.hid H9, Lib.hid (RW.mono (fun _ h => .inl h)), Lib.hid ⟨z10, z11⟩, Lib.hid (k9.below _ z11 (k8.below _ z10 S0.out))⟩
              · refine wpOp_alX (i := 12) rfl rfl 33 rfl _ zeroT_run _ rfl ?_
                intro wM g10 hgM hlM HM9 hnN
                have z10 : wv.heap.size ≤ g10 := Nat.le_trans S0.out.size hgM
                have dd0 : g11 < g10 := Nat.lt_of_lt_of_le (HasC.lt A11.out) hgM
                have dd : g10 ≠ g11 := by omega
                replace A11 : Hid (HasRf wM g11 nilS nilS 0 0) := Lib.hid (HasC.new A11.out hnN)
                have A10 : Hid (HasTr wM g10 nilS 0 0 nilS 0 0) := Lib.hid HM9
                replace AB := Lib.hid (HWB.out.aps2 (H := (fun k => k = g3 ∨ k = g10 ∨ k = g11)) AB.out (fun _ h => h.elim (fun h => .inl (.inl h)) (fun h => h.elim (fun h => .inr (by rw [h]; exact hgM)) (fun h => .inl (.inr h)))))
                replace HWB := Lib.hid (HWB.out.new hnN)
                replace S0 := Lib.hid (S0.out.trans hnN)
                clear HM9 hnN hgM hlM
                refine ⟨S0.out, ?_⟩
                simp only [List.getElem_toArray, List.getElem_cons_zero, List.getElem_cons_succ, Act.put, List.setIfInBounds_toArray, List.set_cons_zero, List.set_cons_succ]
                refine wpAnyH_all (rs := [8]) (by kernel_rfl) (by simp) ?_
                simp only [List.mem_cons, List.not_mem_nil, or_false]
                rintro t rfl
                refine wpOp_call (i := 8) rfl rfl 9 #[.slice fo f.length fc, .agg (refC b s1 p2 q2).toArray, .agg (trC ev1 (how) val so1 st wk).toArray, .slice a.ao a.n a.c, .int .i64 mr] (by go_simp) ?_
                refine (on_is (ca := a) (G0 := (fun k => k = g3 ∨ k = g10 ∨ k = g11)) ((HF.out.new HN.out).new S0.out) ((HA.out.new HN.out).new S0.out) HAL1.out HWB.out (HS1.out.new S0.out) (HE1.out.new S0.out) (HO1.out.new S0.out) HMC.out hb1 HB1.out HB2.out HB3.out (fun _ h => h.elim (fun h => by rw [h]; exact Nat.lt_of_lt_of_le b3v S0.out.size) (fun h => h.elim (fun h => by rw [h]; exact HasC.lt A10.out) (fun h => by rw [h]; exact HasC.lt A11.out))) (HE1.out.ap2 AE1.out (fun _ h => h.elim .inl (fun h => h.elim (fun h => .inr (by rw [h]; exact z10)) (fun h => .inr (by rw [h]; exact z11))))) AB.out (HS1.out.ap2 AS1.out (fun _ h => h.elim .inl (fun h => h.elim (fun h => .inr (by rw [h]; exact z10)) (fun h => .inr (by rw [h]; exact z11))))) (HO1.out.ap2 AO1.out (fun _ h => h.elim .inl (fun h => h.elim (fun h => .inr (by rw [h]; exact z10)) (fun h => .inr (by rw [h]; exact z11))))) HON.out).mono ?_
                rintro e wO ⟨ev, so, a', s', rfl, y1, y2, y3, y4, hnN, y5, y6, y7, y8⟩
                have RZ : Hid (Rz wO (fun k => k = g3 ∨ k = g10 ∨ k = g11) ev es2 a' l3 s' z3 so oh2) := Lib.hid ⟨y1, y5, y3, y7, y4, y8, y2, y6⟩
                replace A10 : Hid (HasTr wO g10 nilS 0 0 nilS 0 0) := Lib.hid (HasC.new A10.out hnN)
                replace A11 : Hid (HasRf wO g11 nilS nilS 0 0) := Lib.hid (HasC.new A11.out hnN)
                replace S0 := Lib.hid (S0.out.trans hnN)
                clear y1 y2 y3 y4 y5 y6 y7 y8 hnN HWB AB
                refine ⟨_, rfl, S0.out, ?_⟩
                simp only [List.getElem_toArray, List.getElem_cons_zero, List.getElem_cons_succ, Act.put, List.setIfInBounds_toArray, List.set_cons_zero, List.set_cons_succ]
                refine wpAnyH_take (i := 9) (v := .tuple #[.agg (trC ev how2 val2 so st2 wk2).toArray, .agg (refC a' s' p3 q3).toArray]) rfl (by kernel_rfl) (by kernel_rfl) (by kernel_rfl) (fun _ _ _ h => h) (Or.inl ⟨rfl, fun _ _ => by go_simp⟩) S0.out ?_
                simp only [List.getElem_toArray, List.getElem_cons_zero, List.getElem_cons_succ, Act.put, List.setIfInBounds_toArray, List.set_cons_zero, List.set_cons_succ]
                refine wpAnyH_take (i := 10) (v := .agg (trC ev how2 val2 so st2 wk2).toArray) rfl (by kernel_rfl) (by kernel_rfl) (by kernel_rfl) (fun _ _ _ h => h) (Or.inl ⟨rfl, fun _ _ => by go_simp⟩) S0.out ?_
                simp only [List.getElem_toArray, List.getElem_cons_zero, List.getElem_cons_succ, Act.put, List.setIfInBounds_toArray, List.set_cons_zero, List.set_cons_succ]
                refine wpAnyH_take (i := 11) (v := .agg (refC a' s' p3 q3).toArray) rfl (by kernel_rfl) (by kernel_rfl) (by kernel_rfl) (fun _ _ _ h => h) (Or.inl ⟨rfl, fun _ _ => by go_simp⟩) S0.out ?_
                simp only [List.getElem_toArray, List.getElem_cons_zero, List.getElem_cons_succ, Act.put, List.setIfInBounds_toArray, List.set_cons_zero, List.set_cons_succ]
                refine wpAnyH_forced [14, 15] _ _ _ S0.out (by kernel_rfl) (by simp) ?_
                simp only [List.map_cons, List.map_nil, Array.getD_eq_getD_getElem?, List.getElem?_toArray, List.getElem?_cons_succ, List.getElem?_cons_zero, Option.getD_some]
                refine wpLS_stX rfl rfl _ (.tmp 10) (.tmp 79) rfl g10 rfl _ rfl A10.out (trC ev how2 val2 so st2 wk2) rfl (by simp [trC]) (by simp [trC, Value.oneCell']) infoTr ?_
                intro w8 H8 k8
                have d1 : g10 ≠ g11 := dd
                refine ⟨k8.below _ z10 S0.out, ?_⟩
                refine wpLS_stX rfl rfl _ (.tmp 11) (.tmp 80) rfl g11 rfl _ rfl (HasC.kept A11.out k8 (Ne.symm d1)) (refC a' s' p3 q3) rfl (by simp [refC]) (by simp [refC, Value.oneCell']) infoRf ?_
                intro w9 H9 k9
                refine ⟨k9.below _ z11 (k8.below _ z10 S0.out), ?_⟩
                refine wpLS_nil ?_
                refine NoPanic.normal ?_
                have RW := (RZ.out.keep (fun j _ hG h => (k8.other j (fun x => hG (.inr (.inl x)))).trans h)).keep (fun j _ hG h => (k9.other j (fun x => hG (.inr (.inr x)))).trans h)
                go_wp2_with fail
                go_meet
                exact ⟨g10, g11, ev, so, a', s', rfl, rfl, Lib.hid (HasC.kept H8 k9 d1), Lib.hid H9, Lib.hid (RW.mono (fun _ h => .inl h)), Lib.hid ⟨z10, z11⟩, Lib.hid (k9.below _ z11 (k8.below _ z10 S0.out))⟩
          · refine wpOp_alX (i := 12) rfl rfl 33 rfl _ zeroT_run _ rfl ?_
            intro wM g10 hgM hlM HM9 hnN
            have z10 : wv.heap.size ≤ g10 := Nat.le_trans S0.out.size hgM
            have A10 : Hid (HasTr wM g10 nilS 0 0 nilS 0 0) := Lib.hid HM9
            replace S0 := Lib.hid (S0.out.trans hnN)
            clear HM9 hnN hgM hlM
            refine ⟨S0.out, ?_⟩
            simp only [List.getElem_toArray, List.getElem_cons_zero, List.getElem_cons_succ, Act.put, List.setIfInBounds_toArray, List.set_cons_zero, List.set_cons_succ]
            refine wpAnyH_all (rs := [2, 13]) (by kernel_rfl) (by simp) ?_
            simp only [List.mem_cons, List.not_mem_nil, or_false]
            rintro t (rfl | rfl)
            · refine wpOp_call (i := 2) rfl rfl 10 #[.agg (cellsS l2 s1 p2 q2).toArray] (by go_simp) ?_
              refine (as_far l2 s1 p2 q2 _).mono ?_
              rintro e wA ⟨b, rfl, hb9, hnN, hfb⟩
              have AB : Hid (ApS (fun k => k = g3 ∨ k = g10) b) := Lib.hid (hfb.aps (fun _ h => h.elim (fun h => by rw [h]; exact Nat.lt_of_lt_of_le b3v S0.out.size) (fun h => by rw [h]; exact HasC.lt A10.out)))
              have HWB := Lib.hid hb9
              replace A10 : Hid (HasTr wA g10 nilS 0 0 nilS 0 0) := Lib.hid (HasC.new A10.out hnN)
              replace S0 := Lib.hid (S0.out.trans hnN)
              clear hfb hb9 hnN
              refine ⟨_, rfl, S0.out, ?_⟩
              simp only [List.getElem_toArray, List.getElem_cons_zero, List.getElem_cons_succ, Act.put, List.setIfInBounds_toArray, List.set_cons_zero, List.set_cons_succ]
              refine wpAnyH_all (rs := [8, 13]) (by kernel_rfl) (by simp) ?_
              simp only [List.mem_cons, List.not_mem_nil, or_false]
              rintro t (rfl | rfl)
              · refine wpOp_call (i := 8) rfl rfl 9 #[.slice fo f.length fc, .agg (refC b s1 p2 q2).toArray, .agg (trC ev1 (how) val so1 st wk).toArray, .slice a.ao a.n a.c, .int .i64 mr] (by go_simp) ?_
                refine (on_is (ca := a) (G0 := (fun k => k = g3 ∨ k = g10)) ((HF.out.new HN.out).new S0.out) ((HA.out.new HN.out).new S0.out) HAL1.out HWB.out (HS1.out.new S0.out) (HE1.out.new S0.out) (HO1.out.new S0.out) HMC.out hb1 HB1.out HB2.out HB3.out (fun _ h => h.elim (fun h => by rw [h]; exact Nat.lt_of_lt_of_le b3v S0.out.size) (fun h => by rw [h]; exact HasC.lt A10.out)) (HE1.out.ap2 AE1.out (fun _ h => h.elim .inl (fun h => .inr (by rw [h]; exact z10)))) AB.out (HS1.out.ap2 AS1.out (fun _ h => h.elim .inl (fun h => .inr (by rw [h]; exact z10)))) (HO1.out.ap2 AO1.out (fun _ h => h.elim .inl (fun h => .inr (by rw [h]; exact z10)))) HON.out).mono ?_
                rintro e wO ⟨ev, so, a', s', rfl, y1, y2, y3, y4, hnN, y5, y6, y7, y8⟩
                have RZ : Hid (Rz wO (fun k => k = g3 ∨ k = g10) ev es2 a' l3 s' z3 so oh2) := Lib.hid ⟨y1, y5, y3, y7, y4, y8, y2, y6⟩
                replace A10 : Hid (HasTr wO g10 nilS 0 0 nilS 0 0) := Lib.hid (HasC.new A10.out hnN)
                replace S0 := Lib.hid (S0.out.trans hnN)
                clear y1 y2 y3 y4 y5 y6 y7 y8 hnN HWB AB
                refine ⟨_, rfl, S0.out, ?_⟩
                simp only [List.getElem_toArray, List.getElem_cons_zero, List.getElem_cons_succ, Act.put, List.setIfInBounds_toArray, List.set_cons_zero, List.set_cons_succ]
                refine wpAnyH_take (i := 9) (v := .tuple #[.agg (trC ev how2 val2 so st2 wk2).toArray, .agg (refC a' s' p3 q3).toArray]) rfl (by kernel_rfl) (by kernel_rfl) (by kernel_rfl) (fun _ _ _ h => h) (Or.inl ⟨rfl, fun _ _ => by go_simp⟩) S0.out ?_
                simp only [List.getElem_toArray, List.getElem_cons_zero, List.getElem_cons_succ, Act.put, List.setIfInBounds_toArray, List.set_cons_zero, List.set_cons_succ]
                refine wpAnyH_take (i := 10) (v := .agg (trC ev how2 val2 so st2 wk2).toArray) rfl (by kernel_rfl) (by kernel_rfl) (by kernel_rfl) (fun _ _ _ h => h) (Or.inl ⟨rfl, fun _ _ => by go_simp⟩) S0.out ?_
                simp only [List.getElem_toArray, List.getElem_cons_zero, List.getElem_cons_succ, Act.put, List.setIfInBounds_toArray, List.set_cons_zero, List.set_cons_succ]
                refine wpAnyH_take (i := 11) (v := .agg (refC a' s' p3 q3).toArray) rfl (by kernel_rfl) (by kernel_rfl) (by kernel_rfl) (fun _ _ _ h => h) (Or.inl ⟨rfl, fun _ _ => by go_simp⟩) S0.out ?_
                simp only [List.getElem_toArray, List.getElem_cons_zero, List.getElem_cons_succ, Act.put, List.setIfInBounds_toArray, List.set_cons_zero, List.set_cons_succ]
                refine wpAnyH_all (rs := [13]) (by kernel_rfl) (by simp) ?_
                simp only [List.mem_cons, List.not_mem_nil, or_false]
                rintro t rfl
                refine wpOp_alX (i := 13) rfl rfl 44 rfl _ zeroR_run _ rfl ?_
                intro wM g11 hgM hlM HM9 hnN
                have z11 : wv.heap.size ≤ g11 := Nat.le_trans S0.out.size hgM
                have dd0 : g10 < g11 := Nat.lt_of_lt_of_le (HasC.lt A10.out) hgM
                have dd : g10 ≠ g11 := by omega
                replace A10 : Hid (HasTr wM g10 nilS 0 0 nilS 0 0) := Lib.hid (HasC.new A10.out hnN)
                have A11 : Hid (HasRf wM g11 nilS nilS 0 0) := Lib.hid HM9
                replace RZ := Lib.hid ((RZ.out.own (H := (fun k => k = g3 ∨ k = g10 ∨ k = g11)) (fun _ h => h.elim (fun h => .inl (.inl h)) (fun h => h.elim (fun h => .inl (.inr h)) (fun h => .inr (by rw [h]; exact hgM))))).new hnN)
                replace S0 := Lib.hid (S0.out.trans hnN)
                clear HM9 hnN hgM hlM
                refine ⟨S0.out, ?_⟩
                simp only [List.getElem_toArray, List.getElem_cons_zero, List.getElem_cons_succ, Act.put, List.setIfInBounds_toArray, List.set_cons_zero, List.set_cons_succ]
                refine wpAnyH_forced [14, 15] _ _ _ S0.out (by kernel_rfl) (by simp) ?_
                simp only [List.map_cons, List.map_nil, Array.getD_eq_getD_getElem?, List.getElem?_toArray, List.getElem?_cons_succ, List.getElem?_cons_zero, Option.getD_some]
                refine wpLS_stX rfl rfl _ (.tmp 10) (.tmp 79) rfl g10 rfl _ rfl A10.out (trC ev how2 val2 so st2 wk2) rfl (by simp [trC]) (by simp [trC, Value.oneCell']) infoTr ?_
                intro w8 H8 k8
                have d1 : g10 ≠ g11 := dd
                refine ⟨k8.below _ z10 S0.out, ?_⟩
                refine wpLS_stX rfl rfl _ (.tmp 11) (.tmp 80) rfl g11 rfl _ rfl (HasC.kept A11.out k8 (Ne.symm d1)) (refC a' s' p3 q3) rfl (by simp [refC]) (by simp [refC, Value.oneCell']) infoRf ?_
                intro w9 H9 k9
                refine ⟨k9.below _ z11 (k8.below _ z10 S0.out), ?_⟩
                refine wpLS_nil ?_
                refine NoPanic.normal ?_
                have RW := (RZ.out.keep (fun j _ hG h => (k8.other j (fun x => hG (.inr (.inl x)))).trans h)).keep (fun j _ hG h => (k9.other j (fun x => hG (.inr (.inr x)))).trans h)
                go_wp2_with fail
                go_meet
                exact ⟨g10, g11, ev, so, a', s', rfl, rfl, Lib.hid (HasC.kept H8 k9 d1), Lib.hid H9, Lib.hid (RW.mono (fun _ h => .inl h)), Lib.hid ⟨z10, z11⟩, Lib.hid (k9.below _ z11 (k8.below _ z10 S0.out))⟩
              · refine wpOp_alX (i := 13) rfl rfl 44 rfl _ zeroR_run _ rfl ?_
                intro wM g11 hgM hlM HM9 hnN
                have z11 : wv.heap.size ≤ g11 := Nat.le_trans S0.out.size hgM
                have dd0 : g10 < g11 := Nat.lt_of_lt_of_le (HasC.lt A10.out) hgM
                have dd : g10 ≠ g11 := by omega
                replace A10 : Hid (HasTr wM g10 nilS 0 0 nilS 0 0) := Lib.hid (HasC.new A10.out hnN)
                have A11 : Hid (HasRf wM g11 nilS nilS 0 0) := Lib.hid HM9
                replace AB := Lib.hid (HWB.out.aps2 (H := (fun k => k = g3 ∨ k = g10 ∨ k = g11)) AB.out (fun _ h => h.elim (fun h => .inl (.inl h)) (fun h => h.elim (fun h => .inl (.inr h)) (fun h => .inr (by rw [h]; exact hgM)))))
                replace HWB := Lib.hid (HWB.out.new hnN)
                replace S0 := Lib.hid (S0.out.trans hnN)
                clear HM9 hnN hgM hlM
                refine ⟨S0.out, ?_⟩
                simp only [List.getElem_toArray, List.getElem_cons_zero, List.getElem_cons_succ, Act.put, List.setIfInBounds_toArray, List.set_cons_zero, List.set_cons_succ]
                refine wpAnyH_all (rs := [8]) (by kernel_rfl) (by simp) ?_
                simp only [List.mem_cons, List.not_mem_nil, or_false]
                rintro t rfl
                refine wpOp_call (i := 8) rfl rfl 9 #[.slice fo f.length fc, .agg (refC b s1 p2 q2).toArray, .agg (trC ev1 (how) val so1 st wk).toArray, .slice a.ao a.n a.c, .int .i64 mr] (by go_simp) ?_
                refine (on_is (ca := a) (G0 := (fun k => k = g3 ∨ k = g10 ∨ k = g11)) ((HF.out.new HN.out).new S0.out) ((HA.out.new HN.out).new S0.out) HAL1.out HWB.out (HS1.out.new S0.out) (HE1.out.new S0.out) (HO1.out.new S0.out) HMC.out hb1 HB1.out HB2.out HB3.out (fun _ h => h.elim (fun h => by rw [h]; exact Nat.lt_of_lt_of_le b3v S0.out.size) (fun h => h.elim (fun h => by rw [h]; exact HasC.lt A10.out) (fun h => by rw [h]; exact HasC.lt A11.out))) (HE1.out.ap2 AE1.out (fun _ h => h.elim .inl (fun h => h.elim (fun h => .inr (by rw [h]; exact z10)) (fun h => .inr (by rw [h]; exact z11))))) AB.out (HS1.out.ap2 AS1.out (fun _ h => h.elim .inl (fun h => h.elim (fun h => .inr (by rw [h]; exact z10)) (fun h => .inr (by rw [h]; exact z11))))) (HO1.out.ap2 AO1.out (fun _ h => h.elim .inl (fun h => h.elim (fun h => .inr (by rw [h]; exact z10)) (fun h => .inr (by rw [h]; exact z11))))) HON.out).mono ?_
                rintro e wO ⟨ev, so, a', s', rfl, y1, y2, y3, y4, hnN, y5, y6, y7, y8⟩
                have RZ : Hid (Rz wO (fun k => k = g3 ∨ k = g10 ∨ k = g11) ev es2 a' l3 s' z3 so oh2) := Lib.hid ⟨y1, y5, y3, y7, y4, y8, y2, y6⟩
                replace A10 : Hid (HasTr wO g10 nilS 0 0 nilS 0 0) := Lib.hid (HasC.new A10.out hnN)
                replace A11 : Hid (HasRf wO g11 nilS nilS 0 0) := Lib.hid (HasC.new A11.out hnN)
                replace S0 := Lib.hid (S0.out.trans hnN)
                clear y1 y2 y3 y4 y5 y6 y7 y8 hnN HWB AB
                refine ⟨_, rfl, S0.out, ?_⟩
                simp only [List.getElem_toArray, List.getElem_cons_zero, List.getElem_cons_succ, Act.put, List.setIfInBounds_toArray, List.set_cons_zero, List.set_cons_succ]
                refine wpAnyH_take (i := 9) (v := .tuple #[.agg (trC ev how2 val2 so st2 wk2).toArray, .agg (refC a' s' p3 q3).toArray]) rfl (by kernel_rfl) (by kernel_rfl) (by kernel_rfl) (fun _ _ _ h => h) (Or.inl ⟨rfl, fun _ _ => by go_simp⟩) S0.out ?_
                simp only [List.getElem_toArray, List.getElem_cons_zero, List.getElem_cons_succ, Act.put, List.setIfInBounds_toArray, List.set_cons_zero, List.set_cons_succ]
                refine wpAnyH_take (i := 10) (v := .agg (trC ev how2 val2 so st2 wk2).toArray) rfl (by kernel_rfl) (by kernel_rfl) (by kernel_rfl) (fun _ _ _ h => h) (Or.inl ⟨rfl, fun _ _ => by go_simp⟩) S0.out ?_
                simp only [List.getElem_toArray, List.getElem_cons_zero, List.getElem_cons_succ, Act.put, List.setIfInBounds_toArray, List.set_cons_zero, List.set_cons_succ]
                refine wpAnyH_take (i := 11) (v := .agg (refC a' s' p3 q3).toArray) rfl (by kernel_rfl) (by kernel_rfl) (by kernel_rfl) (fun _ _ _ h => h) (Or.inl ⟨rfl, fun _ _ => by go_simp⟩) S0.out ?_
                simp only [List.getElem_toArray, List.getElem_cons_zero, List.getElem_cons_succ, Act.put, List.setIfInBounds_toArray, List.set_cons_zero, List.set_cons_succ]
                refine wpAnyH_forced [14, 15] _ _ _ S0.out (by kernel_rfl) (by simp) ?_
                simp only [List.map_cons, List.map_nil, Array.getD_eq_getD_getElem?, List.getElem?_toArray, List.getElem?_cons_succ, List.getElem?_cons_zero, Option.getD_some]
                refine wpLS_stX rfl rfl _ (.tmp 10) (.tmp 79) rfl g10 rfl _ rfl A10.out (trC ev how2 val2 so st2 wk2) rfl (by simp [trC]) (by simp [trC, Value.oneCell']) infoTr ?_
                intro w8 H8 k8
                have d1 : g10 ≠ g11 := dd
                refine ⟨k8.below _ z10 S0.out, ?_⟩
                refine wpLS_stX rfl rfl _ (.tmp 11) (.tmp 80) rfl g11 rfl _ rfl (HasC.kept A11.out k8 (Ne.symm d1)) (refC a' s' p3 q3) rfl (by simp [refC]) (by simp [refC, Value.oneCell']) infoRf ?_
                intro w9 H9 k9
                refine ⟨k9.below _ z11 (k8.below _ z10 S0.out), ?_⟩
                refine wpLS_nil ?_
                refine NoPanic.normal ?_
                have RW := (RZ.out.keep (fun j _ hG h => (k8.other j (fun x => hG (.inr (.inl x)))).trans h)).keep (fun j _ hG h => (k9.other j (fun x => hG (.inr (.inr x)))).trans h)
                go_wp2_with fail
                go_meet
                exact ⟨g10, g11, ev, so, a', s', rfl, rfl, Lib.hid (HasC.kept H8 k9 d1), Lib.hid H9, Lib.hid (RW.mono (fun _ h => .inl h)), Lib.hid ⟨z10, z11⟩, Lib.hid (k9.below _ z11 (k8.below _ z10 S0.out))⟩
            · refine wpOp_alX (i := 13) rfl rfl 44 rfl _ zeroR_run _ rfl ?_
              intro wM g11 hgM hlM HM9 hnN
              have z11 : wv.heap.size ≤ g11 := Nat.le_trans S0.out.size hgM
              have dd0 : g10 < g11 := Nat.lt_of_lt_of_le (HasC.lt A10.out) hgM
              have dd : g10 ≠ g11 := by omega
              replace A10 : Hid (HasTr wM g10 nilS 0 0 nilS 0 0) := Lib.hid (HasC.new A10.out hnN)
              have A11 : Hid (HasRf wM g11 nilS nilS 0 0) := Lib.hid HM9
              replace S0 := Lib.hid (S0.out.trans hnN)
              clear HM9 hnN hgM hlM
              refine ⟨S0.out, ?_⟩
              simp only [List.getElem_toArray, List.getElem_cons_zero, List.getElem_cons_succ, Act.put, List.setIfInBounds_toArray, List.set_cons_zero, List.set_cons_succ]
              refine wpAnyH_all (rs := [2]) (by kernel_rfl) (by simp) ?_
              simp only [List.mem_cons, List.not_mem_nil, or_false]
              rintro t rfl
              refine wpOp_call (i := 2) rfl rfl 10 #[.agg (cellsS l2 s1 p2 q2).toArray] (by go_simp) ?_
              refine (as_far l2 s1 p2 q2 _).mono ?_
              rintro e wA ⟨b, rfl, hb9, hnN, hfb⟩
              have AB : Hid (ApS (fun k => k = g3 ∨ k = g10 ∨ k = g11) b) := Lib.hid (hfb.aps (fun _ h => h.elim (fun h => by rw [h]; exact Nat.lt_of_lt_of_le b3v S0.out.size) (fun h => h.elim (fun h => by rw [h]; exact HasC.lt A10.out) (fun h => by rw [h]; exact HasC.lt A11.out))))
              have HWB := Lib.hid hb9
              replace A10 : Hid (HasTr wA g10 nilS 0 0 nilS 0 0) := Lib.hid (HasC.new A10.out hnN)
              replace A11 : Hid (HasRf wA g11 nilS nilS 0 0) := Lib.hid (HasC.new A11.out hnN)
              replace S0 := Lib.hid (S0.out.trans hnN)
              clear hfb hb9 hnN
              refine ⟨_, rfl, S0.out, ?_⟩
              simp only [List.getElem_toArray, List.getElem_cons_zero, List.getElem_cons_succ, Act.put, List.setIfInBounds_toArray, List.set_cons_zero, List.set_cons_succ]
              refine wpAnyH_all (rs := [8]) (by kernel_rfl) (by simp) ?_
              simp only [List.mem_cons, List.not_mem_nil, or_false]
              rintro t rfl
              refine wpOp_call (i := 8) rfl rfl 9 #[.slice fo f.length fc, .agg (refC b s1 p2 q2).toArray, .agg (trC ev1 (how) val so1 st wk).toArray, .slice a.ao a.n a.c, .int .i64 mr] (by go_simp) ?_
              refine (on_is (ca := a) (G0 := (fun k => k = g3 ∨ k = g10 ∨ k = g11)) ((HF.out.new HN.out).new S0.out) ((HA.out.new HN.out).new S0.out) HAL1.out HWB.out (HS1.out.new S0.out) (HE1.out.new S0.out) (HO1.out.new S0.out) HMC.out hb1 HB1.out HB2.out HB3.out (fun _ h => h.elim (fun h => by rw [h]; exact Nat.lt_of_lt_of_le b3v S0.out.size) (fun h => h.elim (fun h => by rw [h]; exact HasC.lt A10.out) (fun h => by rw [h]; exact HasC.lt A11.out))) (HE1.out.ap2 AE1.out (fun _ h => h.elim .inl (fun h => h.elim (fun h => .inr (by rw [h]; exact z10)) (fun h => .inr (by rw [h]; exact z11))))) AB.out (HS1.out.ap2 AS1.out (fun _ h => h.elim .inl (fun h => h.elim (fun h => .inr (by rw [h]; exact z10)) (fun h => .inr (by rw [h]; exact z11))))) (HO1.out.ap2 AO1.out (fun _ h => h.elim .inl (fun h => h.elim (fun h => .inr (by rw [h]; exact z10)) (fun h => .inr (by rw [h]; exact z11))))) HON.out).mono ?_
              rintro e wO ⟨ev, so, a', s', rfl, y1, y2, y3, y4, hnN, y5, y6, y7, y8⟩
              have RZ : Hid (Rz wO (fun k => k = g3 ∨ k = g10 ∨ k = g11) ev es2 a' l3 s' z3 so oh2) := Lib.hid ⟨y1, y5, y3, y7, y4, y8, y2, y6⟩
              replace A10 : Hid (HasTr wO g10 nilS 0 0 nilS 0 0) := Lib.hid (HasC.new A10.out hnN)
              replace A11 : Hid (HasRf wO g11 nilS nilS 0 0) := Lib.hid (HasC.new A11.out hnN)
              replace S0 := Lib.hid (S0.out.trans hnN)
              clear y1 y2 y3 y4 y5 y6 y7 y8 hnN HWB AB
              refine ⟨_, rfl, S0.out, ?_⟩
              simp only [List.getElem_toArray, List.getElem_cons_zero, List.getElem_cons_succ, Act.put, List.setIfInBounds_toArray, List.set_cons_zero, List.set_cons_succ]
              refine wpAnyH_take (i := 9) (v := .tuple #[.agg (trC ev how2 val2 so st2 wk2).toArray, .agg (refC a' s' p3 q3).toArray]) rfl (by kernel_rfl) (by kernel_rfl) (by kernel_rfl) (fun _ _ _ h => h) (Or.inl ⟨rfl, fun _ _ => by go_simp⟩) S0.out ?_
              simp only [List.getElem_toArray, List.getElem_cons_zero, List.getElem_cons_succ, Act.put, List.setIfInBounds_toArray, List.set_cons_zero, List.set_cons_succ]
              refine wpAnyH_take (i := 10) (v := .agg (trC ev how2 val2 so st2 wk2).toArray) rfl (by kernel_rfl) (by kernel_rfl) (by kernel_rfl) (fun _ _ _ h => h) (Or.inl ⟨rfl, fun _ _ => by go_simp⟩) S0.out ?_
              simp only [List.getElem_toArray, List.getElem_cons_zero, List.getElem_cons_succ, Act.put, List.setIfInBounds_toArray, List.set_cons_zero, List.set_cons_succ]
              refine wpAnyH_take (i := 11) (v := .agg (refC a' s' p3 q3).toArray) rfl (by kernel_rfl) (by kernel_rfl) (by kernel_rfl) (fun _ _ _ h => h) (Or.inl ⟨rfl, fun _ _ => by go_simp⟩) S0.out ?_
              simp only [List.getElem_toArray, List.getElem_cons_zero, List.getElem_cons_succ, Act.put, List.setIfInBounds_toArray, List.set_cons_zero, List.set_cons_succ]
              refine wpAnyH_forced [14, 15] _ _ _ S0.out (by kernel_rfl) (by simp) ?_
              simp only [List.map_cons, List.map_nil, Array.getD_eq_getD_getElem?, List.getElem?_toArray, List.getElem?_cons_succ, List.getElem?_cons_zero, Option.getD_some]
              refine wpLS_stX rfl rfl _ (.tmp 10) (.tmp 79) rfl g10 rfl _ rfl A10.out (trC ev how2 val2 so st2 wk2) rfl (by simp [trC]) (by simp [trC, Value.oneCell']) infoTr ?_
              intro w8 H8 k8
              have d1 : g10 ≠ g11 := dd
              refine ⟨k8.below _ z10 S0.out, ?_⟩
              refine wpLS_stX rfl rfl _ (.tmp 11) (.tmp 80) rfl g11 rfl _ rfl (HasC.kept A11.out k8 (Ne.symm d1)) (refC a' s' p3 q3) rfl (by simp [refC]) (by simp [refC, Value.oneCell']) infoRf ?_
              intro w9 H9 k9
              refine ⟨k9.below _ z11 (k8.below _ z10 S0.out), ?_⟩
              refine wpLS_nil ?_
              refine NoPanic.normal ?_
              have RW := (RZ.out.keep (fun j _ hG h => (k8.other j (fun x => hG (.inr (.inl x)))).trans h)).keep (fun j _ hG h => (k9.other j (fun x => hG (.inr (.inr x)))).trans h)
              go_wp2_with fail
              go_meet
              exact ⟨g10, g11, ev, so, a', s', rfl, rfl, Lib.hid (HasC.kept H8 k9 d1), Lib.hid H9, Lib.hid (RW.mono (fun _ h => .inl h)), Lib.hid ⟨z10, z11⟩, Lib.hid (k9.below _ z11 (k8.below _ z10 S0.out))⟩
          · refine wpOp_alX (i := 13) rfl rfl 44 rfl _ zeroR_run _ rfl ?_
            intro wM g11 hgM hlM HM9 hnN
            have z11 : wv.heap.size ≤ g11 := Nat.le_trans S0.out.size hgM
            have A11 : Hid (HasRf wM g11 nilS nilS 0 0) := Lib.hid HM9
            replace S0 := Lib.hid (S0.out.trans hnN)
            clear HM9 hnN hgM hlM
            refine ⟨S0.out, ?_⟩
            simp only [List.getElem_toArray, List.getElem_cons_zero, List.getElem_cons_succ, Act.put, List.setIfInBounds_toArray, List.set_cons_zero, List.set_cons_succ]
            refine wpAnyH_all (rs := [2, 12]) (by kernel_rfl) (by simp) ?_
            simp only [List.mem_cons, List.not_mem_nil, or_false]
            rintro t (rfl | rfl)
            · refine wpOp_call (i := 2) rfl rfl 10 #[.agg (cellsS l2 s1 p2 q2).toArray] (by go_simp) ?_
              refine (as_far l2 s1 p2 q2 _).mono ?_
              rintro e wA ⟨b, rfl, hb9, hnN, hfb⟩
              have AB : Hid (ApS (fun k => k = g3 ∨ k = g11) b) := Lib.hid (hfb.aps (fun _ h => h.elim (fun h => by rw [h]; exact Nat.lt_of_lt_of_le b3v S0.out.size) (fun h => by rw [h]; exact HasC.lt A11.out)))
              have HWB := Lib.hid hb9
              replace A11 : Hid (HasRf wA g11 nilS nilS 0 0) := Lib.hid (HasC.new A11.out hnN)
              replace S0 := Lib.hid (S0.out.trans hnN)
              clear hfb hb9 hnN
              refine ⟨_, rfl, S0.out, ?_⟩
              simp only [List.getElem_toArray, List.getElem_cons_zero, List.getElem_cons_succ, Act.put, List.setIfInBounds_toArray, List.set_cons_zero, List.set_cons_succ]
              refine wpAnyH_all (rs := [8, 12]) (by kernel_rfl) (by simp) ?_
              simp only [List.mem_cons, List.not_mem_nil, or_false]
              rintro t (rfl | rfl)
              · refine wpOp_call (i := 8) rfl rfl 9 #[.slice fo f.length fc, .agg (refC b s1 p2 q2).toArray, .agg (trC ev1 (how) val so1 st wk).toArray, .slice a.ao a.n a.c, .int .i64 mr] (by go_simp) ?_
                refine (on_is (ca := a) (G0 := (fun k => k = g3 ∨ k = g11)) ((HF.out.new HN.out).new S0.out) ((HA.out.new HN.out).new S0.out) HAL1.out HWB.out (HS1.out.new S0.out) (HE1.out.new S0.out) (HO1.out.new S0.out) HMC.out hb1 HB1.out HB2.out HB3.out (fun _ h => h.elim (fun h => by rw [h]; exact Nat.lt_of_lt_of_le b3v S0.out.size) (fun h => by rw [h]; exact HasC.lt A11.out)) (HE1.out.ap2 AE1.out (fun _ h => h.elim .inl (fun h => .inr (by rw [h]; exact z11)))) AB.out (HS1.out.ap2 AS1.out (fun _ h => h.elim .inl (fun h => .inr (by rw [h]; exact z11)))) (HO1.out.ap2 AO1.out (fun _ h => h.elim .inl (fun h => .inr (by rw [h]; exact z11)))) HON.out).mono ?_
                rintro e wO ⟨ev, so, a', s', rfl, y1, y2, y3, y4, hnN, y5, y6, y7, y8⟩
                have RZ : Hid (Rz wO (fun k => k = g3 ∨ k = g11) ev es2 a' l3 s' z3 so oh2) := Lib.hid ⟨y1, y5, y3, y7, y4, y8, y2, y6⟩
                replace A11 : Hid (HasRf wO g11 nilS nilS 0 0) := Lib.hid (HasC.new A11.out hnN)
                replace S0 := Lib.hid (S0.out.trans hnN)
                clear y1 y2 y3 y4 y5 y6 y7 y8 hnN HWB AB
                refine ⟨_, rfl, S0.out, ?_⟩
                simp only [List.getElem_toArray, List.getElem_cons_zero, List.getElem_cons_succ, Act.put, List.setIfInBounds_toArray, List.set_cons_zero, List.set_cons_succ]
                refine wpAnyH_take (i := 9) (v := .tuple #[.agg (trC ev how2 val2 so st2 wk2).toArray, .agg (refC a' s' p3 q3).toArray]) rfl (by kernel_rfl) (by kernel_rfl) (by kernel_rfl) (fun _ _ _ h => h) (Or.inl ⟨rfl, fun _ _ => by go_simp⟩) S0.out ?_
                simp only [List.getElem_toArray, List.getElem_cons_zero, List.getElem_cons_succ, Act.put, List.setIfInBounds_toArray, List.set_cons_zero, List.set_cons_succ]
                refine wpAnyH_take (i := 10) (v := .agg (trC ev how2 val2 so st2 wk2).toArray) rfl (by kernel_rfl) (by kernel_rfl) (by kernel_rfl) (fun _ _ _ h => h) (Or.inl ⟨rfl, fun _ _ => by go_simp⟩) S0.out ?_
                simp only [List.getElem_toArray, List.getElem_cons_zero, List.getElem_cons_succ, Act.put, List.setIfInBounds_toArray, List.set_cons_zero, List.set_cons_succ]
                refine wpAnyH_take (i := 11) (v := .agg (refC a' s' p3 q3).toArray) rfl (by kernel_rfl) (by kernel_rfl) (by kernel_rfl) (fun _ _ _ h => h) (Or.inl ⟨rfl, fun _ _ => by go_simp⟩) S0.out ?_
                simp only [List.getElem_toArray, List.getElem_cons_zero, List.getElem_cons_succ, Act.put, List.setIfInBounds_toArray, List.set_cons_zero, List.set_cons_succ]
                refine wpAnyH_all (rs := [12]) (by kernel_rfl) (by simp) ?_
                simp only [List.mem_cons, List.not_mem_nil, or_false]
                rintro t rfl
                refine wpOp_alX (i := 12) rfl rfl 33 rfl _ zeroT_run _ rfl ?_
                intro wM g10 hgM hlM HM9 hnN
                have z10 : wv.heap.size ≤ g10 := Nat.le_trans S0.out.size hgM
                have dd0 : g11 < g10 := Nat.lt_of_lt_of_le (HasC.lt A11.out) hgM
                have dd : g10 ≠ g11 := by omega
                replace A11 : Hid (HasRf wM g11 nilS nilS 0 0) := Lib.hid (HasC.new A11.out hnN)
                have A10 : Hid (HasTr wM g10 nilS 0 0 nilS 0 0) := Lib.hid HM9
                replace RZ := Lib.hid ((RZ.out.own (H := (fun k => k = g3 ∨ k = g10 ∨ k = g11)) (fun _ h => h.elim (fun h => .inl (.inl h)) (fun h => h.elim (fun h => .inr (by rw [h]; exact hgM)) (fun h => .inl (.inr h))))).new hnN)
                replace S0 := Lib.hid (S0.out.trans hnN)
                clear HM9 hnN hgM hlM
                refine ⟨S0.out, ?_⟩
                simp only [List.getElem_toArray, List.getElem_cons_zero, List.getElem_cons_succ, Act.put, List.setIfInBounds_toArray, List.set_cons_zero, List.set_cons_succ]
                refine wpAnyH_forced [14, 15] _ _ _ S0.out (by kernel_rfl) (by simp) ?_
                simp only [List.map_cons, List.map_nil, Array.getD_eq_getD_getElem?, List.getElem?_toArray, List.getElem?_cons_succ, List.getElem?_cons_zero, Option.getD_some]
                refine wpLS_stX rfl rfl _ (.tmp 10) (.tmp 79) rfl g10 rfl _ rfl A10.out (trC ev how2 val2 so st2 wk2) rfl (by simp [trC]) (by simp [trC, Value.oneCell']) infoTr ?_
                intro w8 H8 k8
                have d1 : g10 ≠ g11 := dd
                refine ⟨k8.below _ z10 S0.out, ?_⟩
                refine wpLS_stX rfl rfl _ (.tmp 11) (.tmp 80) rfl g11 rfl _ rfl (HasC.kept A11.out k8 (Ne.symm d1)) (refC a' s' p3 q3) rfl (by simp [refC]) (by simp [refC, Value.oneCell']) infoRf ?_
                intro w9 H9 k9
                refine ⟨k9.below _ z11 (k8.below _ z10 S0.out), ?_⟩
                refine wpLS_nil ?_
                refine NoPanic.normal ?_
                have RW := (RZ.out.keep (fun j _ hG h => (k8.other j (fun x => hG (.inr (.inl x)))).trans h)).keep (fun j _ hG h => (k9.other j (fun x => hG (.inr (.inr x)))).trans h)
                go_wp2_with fail
                go_meet
                exact ⟨g10, g11, ev, so, a', s', rfl, rfl, Lib.hid (HasC.kept H8 k9 d1), Lib.hid H9, Lib.hid (RW.mono (fun _ h => .inl h)), Lib.hid ⟨z10, z11⟩, Lib.hid (k9.below _ z11 (k8.below _ z10 S0.out))⟩
              · refine wpOp_alX (i := 12) rfl rfl 33 rfl _ zeroT_run _ rfl ?_
                intro wM g10 hgM hlM HM9 hnN
                have z10 : wv.heap.size ≤ g10 := Nat.le_trans S0.out.size hgM
                have dd0 : g11 < g10 := Nat.lt_of_lt_of_le (HasC.lt A11.out) hgM
                have dd : g10 ≠ g11 := by omega
                replace A11 : Hid (HasRf wM g11 nilS nilS 0 0) := Lib.hid (HasC.new A11.out hnN)
                have A10 : Hid (HasTr wM g10 nilS 0 0 nilS 0 0) := Lib.hid HM9
                replace AB := Lib.hid (HWB.out.aps2 (H := (fun k => k = g3 ∨ k = g10 ∨ k = g11)) AB.out (fun _ h => h.elim (fun h => .inl (.inl h)) (fun h => h.elim (fun h => .inr (by rw [h]; exact hgM)) (fun h => .inl (.inr h)))))
                replace HWB := Lib.hid (HWB.out.new hnN)
                replace S0 := Lib.hid (S0.out.trans hnN)
                clear HM9 hnN hgM hlM
                refine ⟨S0.out, ?_⟩
                simp only [List.getElem_toArray, List.getElem_cons_zero, List.getElem_cons_succ, Act.put, List.setIfInBounds_toArray, List.set_cons_zero, List.set_cons_succ]
                refine wpAnyH_all (rs := [8]) (by kernel_rfl) (by simp) ?_
                simp only [List.mem_cons, List.not_mem_nil, or_false]
                rintro t rfl
                refine wpOp_call (i := 8) rfl rfl 9 #[.slice fo f.length fc, .agg (refC b s1 p2 q2).toArray, .agg (trC ev1 (how) val so1 st wk).toArray, .slice a.ao a.n a.c, .int .i64 mr] (by go_simp) ?_
                refine (on_is (ca := a) (G0 := (fun k => k = g3 ∨ k = g10 ∨ k = g11)) ((HF.out.new HN.out).new S0.out) ((HA.out.new HN.out).new S0.out) HAL1.out HWB.out (HS1.out.new S0.out) (HE1.out.new S0.out) (HO1.out.new S0.out) HMC.out hb1 HB1.out HB2.out HB3.out (fun _ h => h.elim (fun h => by rw [h]; exact Nat.lt_of_lt_of_le b3v S0.out.size) (fun h => h.elim (fun h => by rw [h]; exact HasC.lt A10.out) (fun h => by rw [h]; exact HasC.lt A11.out))) (HE1.out.ap2 AE1.out (fun _ h => h.elim .inl (fun h => h.elim (fun h => .inr (by rw [h]; exact z10)) (fun h => .inr (by rw [h]; exact z11))))) AB.out (HS1.out.ap2 AS1.out (fun _ h => h.elim .inl (fun h => h.elim (fun h => .inr (by rw [h]; exact z10)) (fun h => .inr (by rw [h]; exact z11))))) (HO1.out.ap2 AO1.out (fun _ h => h.elim .inl (fun h => h.elim (fun h => .inr (by rw [h]; exact z10)) (fun h => .inr (by rw [h]; exact z11))))) HON.out).mono ?_
                rintro e wO ⟨ev, so, a', s', rfl, y1, y2, y3, y4, hnN, y5, y6, y7, y8⟩
                have RZ : Hid (Rz wO (fun k => k = g3 ∨ k = g10 ∨ k = g11) ev es2 a' l3 s' z3 so oh2) := Lib.hid ⟨y1, y5, y3, y7, y4, y8, y2, y6⟩
                replace A10 : Hid (HasTr wO g10 nilS 0 0 nilS 0 0) := Lib.hid (HasC.new A10.out hnN)
                replace A11 : Hid (HasRf wO g11 nilS nilS 0 0) := Lib.hid (HasC.new A11.out hnN)
                replace S0 := Lib.hid (S0.out.trans hnN)
                clear y1 y2 y3 y4 y5 y6 y7 y8 hnN HWB AB
                refine ⟨_, rfl, S0.out, ?_⟩
                simp only [List.getElem_toArray, List.getElem_cons_zero, List.getElem_cons_succ, Act.put, List.setIfInBounds_toArray, List.set_cons_zero, List.set_cons_succ]
                refine wpAnyH_take (i := 9) (v := .tuple #[.agg (trC ev how2 val2 so st2 wk2).toArray, .agg (refC a' s' p3 q3).toArray]) rfl (by kernel_rfl) (by kernel_rfl) (by kernel_rfl) (fun _ _ _ h => h) (Or.inl ⟨rfl, fun _ _ => by go_simp⟩) S0.out ?_
                simp only [List.getElem_toArray, List.getElem_cons_zero, List.getElem_cons_succ, Act.put, List.setIfInBounds_toArray, List.set_cons_zero, List.set_cons_succ]
                refine wpAnyH_take (i := 10) (v := .agg (trC ev how2 val2 so st2 wk2).toArray) rfl (by kernel_rfl) (by kernel_rfl) (by kernel_rfl) (fun _ _ _ h => h) (Or.inl ⟨rfl, fun _ _ => by go_simp⟩) S0.out ?_
                simp only [List.getElem_toArray, List.getElem_cons_zero, List.getElem_cons_succ, Act.put, List.setIfInBounds_toArray, List.set_cons_zero, List.set_cons_succ]
                refine wpAnyH_take (i := 11) (v := .agg (refC a' s' p3 q3).toArray) rfl (by kernel_rfl) (by kernel_rfl) (by kernel_rfl) (fun _ _ _ h => h) (Or.inl ⟨rfl, fun _ _ => by go_simp⟩) S0.out ?_
                simp only [List.getElem_toArray, List.getElem_cons_zero, List.getElem_cons_succ, Act.put, List.setIfInBounds_toArray, List.set_cons_zero, List.set_cons_succ]
                refine wpAnyH_forced [14, 15] _ _ _ S0.out (by kernel_rfl) (by simp) ?_
                simp only [List.map_cons, List.map_nil, Array.getD_eq_getD_getElem?, List.getElem?_toArray, List.getElem?_cons_succ, List.getElem?_cons_zero, Option.getD_some]
                refine wpLS_stX rfl rfl _ (.tmp 10) (.tmp 79) rfl g10 rfl _ rfl A10.out (trC ev how2 val2 so st2 wk2) rfl (by simp [trC]) (by simp [trC, Value.oneCell']) infoTr ?_
                intro w8 H8 k8
                have d1 : g10 ≠ g11 := dd
                refine ⟨k8.below _ z10 S0.out, ?_⟩
                refine wpLS_stX rfl rfl _ (.tmp 11) (.tmp 80) rfl g11 rfl _ rfl (HasC.kept A11.out k8 (Ne.symm d1)) (refC a' s' p3 q3) rfl (by simp [refC]) (by simp [refC, Value.oneCell']) infoRf ?_
                intro w9 H9 k9
                refine ⟨k9.below _ z11 (k8.below _ z10 S0.out), ?_⟩
                refine wpLS_nil ?_
                refine NoPanic.normal ?_
                have RW := (RZ.out.keep (fun j _ hG h => (k8.other j (fun x => hG (.inr (.inl x)))).trans h)).keep (fun j _ hG h => (k9.other j (fun x => hG (.inr (.inr x)))).trans h)
                go_wp2_with fail
                go_meet
                exact ⟨g10, g11, ev, so, a', s', rfl, rfl, Lib.hid (HasC.kept H8 k9 d1), Lib.hid H9, Lib.hid (RW.mono (fun _ h => .inl h)), Lib.hid ⟨z10, z11⟩, Lib.hid (k9.below _ z11 (k8.below _ z10 S0.out))⟩
            · refine wpOp_alX (i := 12) rfl rfl 33 rfl _ zeroT_run _ rfl ?_
              intro wM g10 hgM hlM HM9 hnN
              have z10 : wv.heap.size ≤ g10 := Nat.le_trans S0.out.size hgM
              have dd0 : g11 < g10 := Nat.lt_of_lt_of_le (HasC.lt A11.out) hgM
              have dd : g10 ≠ g11 := by omega
              replace A11 : Hid (HasRf wM g11 nilS nilS 0 0) := Lib.hid (HasC.new A11.out hnN)
              have A10 : Hid (HasTr wM g10 nilS 0 0 nilS 0 0) := Lib.hid HM9
              replace S0 := Lib.hid (S0.out.trans hnN)
              clear HM9 hnN hgM hlM
              refine ⟨S0.out, ?_⟩
              simp only [List.getElem_toArray, List.getElem_cons_zero, List.getElem_cons_succ, Act.put, List.setIfInBounds_toArray, List.set_cons_zero, List.set_cons_succ]
              refine wpAnyH_all (rs := [2]) (by kernel_rfl) (by simp) ?_
              simp only [List.mem_cons, List.not_mem_nil, or_false]
              rintro t rfl
              refine wpOp_call (i := 2) rfl rfl 10 #[.agg (cellsS l2 s1 p2 q2).toArray] (by go_simp) ?_
              refine (as_far l2 s1 p2 q2 _).mono ?_
              rintro e wA ⟨b, rfl, hb9, hnN, hfb⟩
              have AB : Hid (ApS (fun k => k = g3 ∨ k = g10 ∨ k = g11) b) := Lib.hid (hfb.aps (fun _ h => h.elim (fun h => by rw [h]; exact Nat.lt_of_lt_of_le b3v S0.out.size) (fun h => h.elim (fun h => by rw [h]; exact HasC.lt A10.out) (fun h => by rw [h]; exact HasC.lt A11.out))))
              have HWB := Lib.hid hb9
              replace A10 : Hid (HasTr wA g10 nilS 0 0 nilS 0 0) := Lib.hid (HasC.new A10.out hnN)
              replace A11 : Hid (HasRf wA g11 nilS nilS 0 0) := Lib.hid (HasC.new A11.out hnN)
              replace S0 := Lib.hid (S0.out.trans hnN)
              clear hfb hb9 hnN
              refine ⟨_, rfl, S0.out, ?_⟩
              simp only [List.getElem_toArray, List.getElem_cons_zero, List.getElem_cons_succ, Act.put, List.setIfInBounds_toArray, List.set_cons_zero, List.set_cons_succ]
              refine wpAnyH_all (rs := [8]) (by kernel_rfl) (by simp) ?_
              simp only [List.mem_cons, List.not_mem_nil, or_false]
              rintro t rfl
              refine wpOp_call (i := 8) rfl rfl 9 #[.slice fo f.length fc, .agg (refC b s1 p2 q2).toArray, .agg (trC ev1 (how) val so1 st wk).toArray, .slice a.ao a.n a.c, .int .i64 mr] (by go_simp) ?_
              refine (on_is (ca := a) (G0 := (fun k => k = g3 ∨ k = g10 ∨ k = g11)) ((HF.out.new HN.out).new S0.out) ((HA.out.new HN.out).new S0.out) HAL1.out HWB.out (HS1.out.new S0.out) (HE1.out.new S0.out) (HO1.out.new S0.out) HMC.out hb1 HB1.out HB2.out HB3.out (fun _ h => h.elim (fun h => by rw [h]; exact Nat.lt_of_lt_of_le b3v S0.out.size) (fun h => h.elim (fun h => by rw [h]; exact HasC.lt A10.out) (fun h => by rw [h]; exact HasC.lt A11.out))) (HE1.out.ap2 AE1.out (fun _ h => h.elim .inl (fun h => h.elim (fun h => .inr (by rw [h]; exact z10)) (fun h => .inr (by rw [h]; exact z11))))) AB.out (HS1.out.ap2 AS1.out (fun _ h => h.elim .inl (fun h => h.elim (fun h => .inr (by rw [h]; exact z10)) (fun h => .inr (by rw [h]; exact z11))))) (HO1.out.ap2 AO1.out (fun _ h => h.elim .inl (fun h => h.elim (fun h => .inr (by rw [h]; exact z10)) (fun h => .inr (by rw [h]; exact z11))))) HON.out).mono ?_
              rintro e wO ⟨ev, so, a', s', rfl, y1, y2, y3, y4, hnN, y5, y6, y7, y8⟩
              have RZ : Hid (Rz wO (fun k => k = g3 ∨ k = g10 ∨ k = g11) ev es2 a' l3 s' z3 so oh2) := Lib.hid ⟨y1, y5, y3, y7, y4, y8, y2, y6⟩
              replace A10 : Hid (HasTr wO g10 nilS 0 0 nilS 0 0) := Lib.hid (HasC.new A10.out hnN)
              replace A11 : Hid (HasRf wO g11 nilS nilS 0 0) := Lib.hid (HasC.new A11.out hnN)
              replace S0 := Lib.hid (S0.out.trans hnN)
              clear y1 y2 y3 y4 y5 y6 y7 y8 hnN HWB AB
              refine ⟨_, rfl, S0.out, ?_⟩
              simp only [List.getElem_toArray, List.getElem_cons_zero, List.getElem_cons_succ, Act.put, List.setIfInBounds_toArray, List.set_cons_zero, List.set_cons_succ]
              refine wpAnyH_take (i := 9) (v := .tuple #[.agg (trC ev how2 val2 so st2 wk2).toArray, .agg (refC a' s' p3 q3).toArray]) rfl (by kernel_rfl) (by kernel_rfl) (by kernel_rfl) (fun _ _ _ h => h) (Or.inl ⟨rfl, fun _ _ => by go_simp⟩) S0.out ?_
              simp only [List.getElem_toArray, List.getElem_cons_zero, List.getElem_cons_succ, Act.put, List.setIfInBounds_toArray, List.set_cons_zero, List.set_cons_succ]
              refine wpAnyH_take (i := 10) (v := .agg (trC ev how2 val2 so st2 wk2).toArray) rfl (by kernel_rfl) (by kernel_rfl) (by kernel_rfl) (fun _ _ _ h => h) (Or.inl ⟨rfl, fun _ _ => by go_simp⟩) S0.out ?_
              simp only [List.getElem_toArray, List.getElem_cons_zero, List.getElem_cons_succ, Act.put, List.setIfInBounds_toArray, List.set_cons_zero, List.set_cons_succ]
              refine wpAnyH_take (i := 11) (v := .agg (refC a' s' p3 q3).toArray) rfl (by kernel_rfl) (by kernel_rfl) (by kernel_rfl) (fun _ _ _ h => h) (Or.inl ⟨rfl, fun _ _ => by go_simp⟩) S0.out ?_
              simp only [List.getElem_toArray, List.getElem_cons_zero, List.getElem_cons_succ, Act.put, List.setIfInBounds_toArray, List.set_cons_zero, List.set_cons_succ]
              refine wpAnyH_forced [14, 15] _ _ _ S0.out (by kernel_rfl) (by simp) ?_
              simp only [List.map_cons, List.map_nil, Array.getD_eq_getD_getElem?, List.getElem?_toArray, List.getElem?_cons_succ, List.getElem?_cons_zero, Option.getD_some]
              refine wpLS_stX rfl rfl _ (.tmp 10) (.tmp 79) rfl g10 rfl _ rfl A10.out (trC ev how2 val2 so st2 wk2) rfl (by simp [trC]) (by simp [trC, Value.oneCell']) infoTr ?_
              intro w8 H8 k8
              have d1 : g10 ≠ g11 := dd
              refine ⟨k8.below _ z10 S0.out, ?_⟩
              refine wpLS_stX rfl rfl _ (.tmp 11) (.tmp 80) rfl g11 rfl _ rfl (HasC.kept A11.out k8 (Ne.symm d1)) (refC a' s' p3 q3) rfl (by simp [refC]) (by simp [refC, Value.oneCell']) infoRf ?_
              intro w9 H9 k9
              refine ⟨k9.below _ z11 (k8.below _ z10 S0.out), ?_⟩
              refine wpLS_nil ?_
              refine NoPanic.normal ?_
              have RW := (RZ.out.keep (fun j _ hG h => (k8.other j (fun x => hG (.inr (.inl x)))).trans h)).keep (fun j _ hG h => (k9.other j (fun x => hG (.inr (.inr x)))).trans h)
              go_wp2_with fail
              go_meet
              exact ⟨g10, g11, ev, so, a', s', rfl, rfl, Lib.hid (HasC.kept H8 k9 d1), Lib.hid H9, Lib.hid (RW.mono (fun _ h => .inl h)), Lib.hid ⟨z10, z11⟩, Lib.hid (k9.below _ z11 (k8.below _ z10 S0.out))⟩
        case rest =>
          obtain ⟨g10, g11, ev, so, a', s', rfl, rfl, A10, A11, RZ, HZG, HNF⟩ := hcut
          have n310 : g10 ≠ g3 := by have := HZG.out; omega
          have n311 : g11 ≠ g3 := by have := HZG.out; omega
          replace HK := Lib.hid (HasC.new HK.out HNF.out)
          replace HN := Lib.hid (HN.out.trans HNF.out)
          have cf := HasK.fuel HK.out
          clear A5 A6 HE1 HO1 HS1 AE1 AO1 AS1
          have Tk1 : Hid True := Lib.hid trivial
          have Tk2 : Hid True := Lib.hid trivial
          have Tk3 : Hid True := Lib.hid trivial
          have Tk4 : Hid True := Lib.hid trivial
          have Tk5 : Hid True := Lib.hid trivial
          have Tk6 : Hid True := Lib.hid trivial
          have Tk7 : Hid True := Lib.hid trivial
          go_wp2_with (first
            | (clear Tk1; go_at_call 8; refine (run_is HL.out HN.out (HF.out.new HN.out) (HH.out.new HN.out) (HA.out.new HN.out) HCK.out HZ.out HAL.out HNB2.out HR2.out).mono ?_; rintro e wx ⟨ev2, so2, s2, rfl, h1, h2, h3, hn, _⟩; have HE2 := Lib.hid h1; have HO2 := Lib.hid h2; have HS2 := Lib.hid h3; clear h1 h2 h3; replace A10 : Hid (HasTr wx g10 ev how2 val2 so st2 wk2) := Lib.hid (HasC.new A10.out hn); replace A11 : Hid (HasRf wx g11 a' s' p3 q3) := Lib.hid (HasC.new A11.out hn); replace RZ := Lib.hid (RZ.out.new hn); replace HK : Hid (HasK wx g3 rs h a (n + mr)) := Lib.hid (HasC.new HK.out hn); replace HN := Lib.hid (HN.out.trans hn); clear hn)
            | (clear Tk2; refine wpList_stKf rfl rfl (.tmp 86) (.tmp 85) rfl g3 rfl (n + mr) rfl HK.out ?_; intro wx H1 k1; replace HK : Hid (HasK wx g3 rs h a (n + mr)) := Lib.hid H1; replace A10 : Hid (HasTr wx g10 ev how2 val2 so st2 wk2) := Lib.hid (HasC.kept A10.out k1 n310); replace A11 : Hid (HasRf wx g11 a' s' p3 q3) := Lib.hid (HasC.kept A11.out k1 n311); replace RZ := Lib.hid (RZ.out.keep (fun j _ hG h => (k1.other j hG).trans h)); replace HN := Lib.hid (k1.below _ hg3 HN.out); clear H1 k1)
            | (clear Tk3; refine wpList_ldK (by rfl) (.tmp 4) rfl g3 rfl HK.out ?_)
            | (clear Tk4; refine wpList_alX rfl 33 rfl _ zeroT_run _ rfl ?_; intro wy g12 hgT hlT H1 hn1; have A12 : Hid (HasTr wy g12 nilS 0 0 nilS 0 0) := Lib.hid H1; clear H1)
            | (clear Tk5; refine wpList_alX rfl 38 rfl _ zeroS_run _ rfl ?_; intro wz g13 hgS hlS H1 hn2; have A13 : Hid (HasS wz g13 noWs nilS 0 0) := Lib.hid H1; have dTS : g12 < g13 := Nat.lt_of_lt_of_le hlT hgS; replace A12 : Hid (HasTr wz g12 nilS 0 0 nilS 0 0) := Lib.hid (HasC.new A12.out hn2); clear H1)
            | (clear Tk6; refine wpList_stTr rfl rfl (.tmp 12) (.tmp 91) rfl g12 rfl ev2 how2 val2 so2 st2 wk2 rfl A12.out ?_; intro wu H1 k1; replace A12 : Hid (HasTr wu g12 ev2 how2 val2 so2 st2 wk2) := Lib.hid H1; replace A13 : Hid (HasS wu g13 noWs nilS 0 0) := Lib.hid (HasC.kept A13.out k1 (Nat.ne_of_gt dTS)); have hn3 : New wx wu := k1.below wx hgT (hn1.trans hn2); clear H1 k1)
            | (clear Tk7; refine wpList_stS rfl rfl (.tmp 13) (.tmp 92) rfl g13 rfl (l := l3) (s := s2) (p := p3) (q := q3) rfl A13.out ?_; intro wq H1 k1; have hn : New wx wq := k1.below wx (Nat.le_trans hn1.size hgS) hn3; replace A13 : Hid (HasS wq g13 l3 s2 p3 q3) := Lib.hid H1; replace A12 : Hid (HasTr wq g12 ev2 how2 val2 so2 st2 wk2) := Lib.hid (HasC.kept A12.out k1 (Nat.ne_of_lt dTS)); replace HE2 := Lib.hid (HE2.out.new hn); replace HO2 := Lib.hid (HO2.out.new hn); replace HS2 := Lib.hid (HS2.out.new hn); replace A10 : Hid (HasTr wq g10 ev how2 val2 so st2 wk2) := Lib.hid (HasC.new A10.out hn); replace A11 : Hid (HasRf wq g11 a' s' p3 q3) := Lib.hid (HasC.new A11.out hn); replace RZ := Lib.hid (RZ.out.new hn); clear H1 k1 hn1 hn2 hn3 hgT hlT hgS hlS dTS; replace HK : Hid (HasK wq g3 rs h a (n + mr)) := Lib.hid (HasC.new HK.out hn); replace HN := Lib.hid (HN.out.trans hn); clear hn))
          have S0 : Hid (New wq wq.drew) := Lib.hid ((New.refl wq).drew)
          have HLV := HL.out.new HN.out
          have HFV := Lib.hid (HF.out.new HN.out)
          have hne := newW_any wq
          have qck : ((chkF f).2 == 0) = true := beq_of HCK.out
          refine wp_region_noPanic ?_
          refine wp_region_held_drew (S := fun w' => New wq w') (by kernel_rfl) S0.out (fun _ => ?_)
          refine wpAnyH_take (i := 0) (v := .int .i64 0) rfl (by kernel_rfl) (by kernel_rfl) (by kernel_rfl) (fun _ _ _ h => h) (Or.inl ⟨rfl, fun _ _ => by go_simp⟩) S0.out ?_
          simp only [List.getElem_toArray, List.getElem_cons_zero, Act.put, List.setIfInBounds_toArray, List.set_cons_zero, List.set_cons_succ]
          refine wpAnyH_take (i := 1) (v := .bool true) rfl (by kernel_rfl) (by kernel_rfl) (by kernel_rfl) (fun _ _ _ h => h) (Or.inl ⟨rfl, fun _ _ => by go_simp⟩) S0.out ?_
          simp only [List.getElem_toArray, List.getElem_cons_zero, List.getElem_cons_succ, Act.put, List.setIfInBounds_toArray, List.set_cons_zero, List.set_cons_succ]
          refine wpAnyH_take (i := 2) (v := .bool true) rfl (by kernel_rfl) (by kernel_rfl) (by kernel_rfl) (fun _ _ _ h => h) (Or.inl ⟨rfl, fun _ _ => by go_simp⟩) S0.out ?_
          simp only [List.getElem_toArray, List.getElem_cons_zero, List.getElem_cons_succ, Act.put, List.setIfInBounds_toArray, List.set_cons_zero, List.set_cons_succ]
          refine wpAnyH_take (i := 3) (v := .agg (trC ev how2 val2 so st2 wk2).toArray) rfl (by kernel_rfl) (by kernel_rfl) (by kernel_rfl) (fun _ _ _ h => h) (ldTr_if rfl (.tmp 10) rfl g10 rfl (fun w' h => HasC.new A10.out h)) S0.out ?_
          simp only [List.getElem_toArray, List.getElem_cons_zero, List.getElem_cons_succ, Act.put, List.setIfInBounds_toArray, List.set_cons_zero, List.set_cons_succ]
          refine wpAnyH_take (i := 4) (v := .agg (trC ev2 how2 val2 so2 st2 wk2).toArray) rfl (by kernel_rfl) (by kernel_rfl) (by kernel_rfl) (fun _ _ _ h => h) (ldTr_if rfl (.tmp 12) rfl g12 rfl (fun w' h => HasC.new A12.out h)) S0.out ?_
          simp only [List.getElem_toArray, List.getElem_cons_zero, List.getElem_cons_succ, Act.put, List.setIfInBounds_toArray, List.set_cons_zero, List.set_cons_succ]
          refine wpAnyH_callG (i := 5) rfl rfl (by kernel_rfl) 11 #[.agg (trC ev how2 val2 so st2 wk2).toArray, .agg (trC ev2 how2 val2 so2 st2 wk2).toArray] (by go_simp) ?_
          refine (rTSame_any (RZ.out.ev.new S0.out) (HE2.out.new S0.out) (RZ.out.ho.new S0.out) (HO2.out.new S0.out) HEB2.out HOB2.out).mono ?_
          rintro e w1 ⟨rfl, hn1⟩
          replace S0 := Lib.hid (S0.out.trans hn1)
          refine ⟨_, rfl, S0.out, ?_⟩
          simp only [List.getElem_toArray, List.getElem_cons_zero, List.getElem_cons_succ, Act.put, List.setIfInBounds_toArray, List.set_cons_zero, List.set_cons_succ]
          refine wpAnyH_take (i := 6) (v := .bool true) rfl (by kernel_rfl) (by kernel_rfl) (by kernel_rfl) (fun _ _ _ h => h) (Or.inl ⟨rfl, fun _ _ => by go_simp⟩) S0.out ?_
          simp only [List.getElem_toArray, List.getElem_cons_zero, List.getElem_cons_succ, Act.put, List.setIfInBounds_toArray, List.set_cons_zero, List.set_cons_succ]
          refine wpAnyH_take (i := 7) (v := .bool true) rfl (by kernel_rfl) (by kernel_rfl) (by kernel_rfl) (fun _ _ _ h => h) (Or.inl ⟨rfl, fun _ _ => by go_simp⟩) S0.out ?_
          simp only [List.getElem_toArray, List.getElem_cons_zero, List.getElem_cons_succ, Act.put, List.setIfInBounds_toArray, List.set_cons_zero, List.set_cons_succ]
          refine wpAnyH_take (i := 8) (v := .agg (refC a' s' p3 q3).toArray) rfl (by kernel_rfl) (by kernel_rfl) (by kernel_rfl) (fun _ _ _ h => h) (ldC4_if rfl (.tmp 11) rfl g11 rfl (fun w' h => HasC.new A11.out h)) S0.out ?_
          simp only [List.getElem_toArray, List.getElem_cons_zero, List.getElem_cons_succ, Act.put, List.setIfInBounds_toArray, List.set_cons_zero, List.set_cons_succ]
          refine wpAnyH_take (i := 9) (v := .agg (cellsS l3 s2 p3 q3).toArray) rfl (by kernel_rfl) (by kernel_rfl) (by kernel_rfl) (fun _ _ _ h => h) (ldS_if rfl (.tmp 13) rfl g13 rfl (fun w' h => HasC.new A13.out h)) S0.out ?_
          simp only [List.getElem_toArray, List.getElem_cons_zero, List.getElem_cons_succ, Act.put, List.setIfInBounds_toArray, List.set_cons_zero, List.set_cons_succ]
          refine wpAnyH_callG (i := 10) rfl rfl (by kernel_rfl) 10 #[.agg (cellsS l3 s2 p3 q3).toArray] (by go_simp) ?_
          refine (as_any l3 s2 p3 q3 _).mono ?_
          rintro e w2 ⟨b1, rfl, ha1, hn2⟩
          have HA1 := Lib.hid ha1
          replace S0 := Lib.hid (S0.out.trans hn2)
          refine ⟨_, rfl, S0.out, ?_⟩
          simp only [List.getElem_toArray, List.getElem_cons_zero, List.getElem_cons_succ, Act.put, List.setIfInBounds_toArray, List.set_cons_zero, List.set_cons_succ]
          refine wpAnyH_callG (i := 11) rfl rfl (by kernel_rfl) 12 #[.agg (refC a' s' p3 q3).toArray, .agg (refC b1 s2 p3 q3).toArray] (by go_simp) ?_
          refine (refSame_any l3 l3 (fun _ _ => rfl) z3 p3 q3 a' s' b1 s2 _ (RZ.out.ws.new S0.out) HA1.out (RZ.out.hp.new S0.out) (HS2.out.new S0.out) HZ3.out).mono ?_
          rintro e w3 ⟨rfl, hn3⟩
          replace S0 := Lib.hid (S0.out.trans hn3)
          refine ⟨_, rfl, S0.out, ?_⟩
          simp only [List.getElem_toArray, List.getElem_cons_zero, List.getElem_cons_succ, Act.put, List.setIfInBounds_toArray, List.set_cons_zero, List.set_cons_succ]
          refine wpAnyH_rest 12 rfl (by kernel_rfl) (by kernel_rfl) S0.out ?_
          simp only [List.drop_succ_cons, List.drop_zero]
          clear hn1 ha1 hn2 hn3 HA1
          repeat (go_big_quiet_step (first | (go_at_call 13; exact quiet_new (rasm_true (Subtype.property _) HFV.out qck)) | (go_at_call 7; exact quiet_new (knows8_from _ HLV (Subtype.property _)))))
          refine wpQuiet_nil ?_
          intro w4 h4
          refine NoPanic.normal ?_
          go_wp2
          go_ret
          exact ⟨rfl, HN.out.trans h4⟩
end Go.Proofs.YtlmnodbhfpgplaaGreatDoor
