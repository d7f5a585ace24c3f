/-
  'EnvChains': tables put together are as one behind the other, in whichever order they are put together; and the first one is nothing: true, for every input.
-/
import Derived.Test.YthdbehalbcoibaaEnvLawB
import Derived.Test.YthdbehalbcoibaaEnvChM
import Derived.Test.YthdbehalbcoibaaEnvEqW
import Derived.Test.YthdbehalbcoibaaEnvG
import Derived.Deep.CutBlock
import Derived.Deep.CutRange
namespace Go.Proofs.Ythdbehalbcoibaa
open Go.RowKit

/-- The law's five variables. -/
structure Ch (w : World) (g0 ga gb gc gd : Nat) (W : Ws) (wr : World) (ta tb tc td : Tb) : Prop where
  o : HasW wr g0 W
  a : HasT wr ga ta
  b : HasT wr gb tb
  c : HasT wr gc tc
  d : HasT wr gd td
  n : New w wr
def OrdG (w : World) (g0 ga gb gc gd : Nat) : Prop := w.heap.size ≤ g0 ∧ g0 < ga ∧ ga < gb ∧ gb < gc ∧ gc < gd
section
variable {w wr wr' : World} {g0 ga gb gc gd : Nat} {W : Ws} {ta tb tc td u : Tb}
theorem Ch.new (h : Ch w g0 ga gb gc gd W wr ta tb tc td) (hn : New wr wr') : Ch w g0 ga gb gc gd W wr' ta tb tc td := ⟨h.o.new hn, h.a.new hn, h.b.new hn, h.c.new hn, h.d.new hn, h.n.trans hn⟩
theorem Ch.setA (hg : OrdG w g0 ga gb gc gd) (h : Ch w g0 ga gb gc gd W wr ta tb tc td) (hk : Kept ga wr wr') (hu : HasT wr' ga u) : Ch w g0 ga gb gc gd W wr' u tb tc td := by
  obtain ⟨q1, q2, q3, q4, q5⟩ := hg
  exact ⟨hk.W h.o (by omega), hu, hk.T h.b (by omega), hk.T h.c (by omega), hk.T h.d (by omega), hk.below _ (by omega) h.n⟩
theorem Ch.setB (hg : OrdG w g0 ga gb gc gd) (h : Ch w g0 ga gb gc gd W wr ta tb tc td) (hk : Kept gb wr wr') (hu : HasT wr' gb u) : Ch w g0 ga gb gc gd W wr' ta u tc td := by
  obtain ⟨q1, q2, q3, q4, q5⟩ := hg
  exact ⟨hk.W h.o (by omega), hk.T h.a (by omega), hu, hk.T h.c (by omega), hk.T h.d (by omega), hk.below _ (by omega) h.n⟩
theorem Ch.setC (hg : OrdG w g0 ga gb gc gd) (h : Ch w g0 ga gb gc gd W wr ta tb tc td) (hk : Kept gc wr wr') (hu : HasT wr' gc u) : Ch w g0 ga gb gc gd W wr' ta tb u td := by
  obtain ⟨q1, q2, q3, q4, q5⟩ := hg
  exact ⟨hk.W h.o (by omega), hk.T h.a (by omega), hk.T h.b (by omega), hu, hk.T h.d (by omega), hk.below _ (by omega) h.n⟩
theorem Ch.setD (hg : OrdG w g0 ga gb gc gd) (h : Ch w g0 ga gb gc gd W wr ta tb tc td) (hk : Kept gd wr wr') (hu : HasT wr' gd u) : Ch w g0 ga gb gc gd W wr' ta tb tc u := by
  obtain ⟨q1, q2, q3, q4, q5⟩ := hg
  exact ⟨hk.W h.o (by omega), hk.T h.a (by omega), hk.T h.b (by omega), hk.T h.c (by omega), hu, hk.below _ (by omega) h.n⟩
theorem Ch.far {g : Nat} (hg : OrdG w g0 ga gb gc gd) (h : Ch w g0 ga gb gc gd W wr ta tb tc td) (hk : Kept g wr wr') (hgd : gd < g) : Ch w g0 ga gb gc gd W wr' ta tb tc td := by
  obtain ⟨q1, q2, q3, q4, q5⟩ := hg
  exact ⟨hk.W h.o (by omega), hk.T h.a (by omega), hk.T h.b (by omega), hk.T h.c (by omega), hk.T h.d (by omega), hk.below _ (by omega) h.n⟩
end
set_option maxHeartbeats 8000000 in
set_option maxRecDepth 100000 in
theorem envChains_in (ao bo co : Option Addr) (n1 n2 n3 c1 c2 c3 : Nat) (f1 f2 f3 : List I) (bs : List Bool) (ns : List Int) (v4 v5 : Value) (w : World)
    (hf1 : FunAt w (.slice ao n1 c1) f1) (hf2 : FunAt w (.slice bo n2 c2) f2) (hf3 : FunAt w (.slice co n3 c3) f3) (h4 : RowAt w v4 (bs.map .bool)) (h5 : RowAt w v5 (ns.map (.int .i64))) :
    Calls Try.prog 4 #[.slice ao n1 c1, .slice bo n2 c2, .slice co n3 c3, v4, v5] w fun e w' => e = .returned (.bool true) ∧ New w w' := by
  have F1 := Lib.hid hf1
  have F2 := Lib.hid hf2
  have F3 := Lib.hid hf3
  have HW0 : Hid (∀ w', New w w' → Calls Try.prog 8 #[v4, v5] w' fun e w'' => e = .returned (.agg (cellsW (wordsT bs ns))) ∧ New w' w'') := Lib.hid (fun w' hn => words_any bs ns v4 v5 w' (h4.new hn) (h5.new hn))
  have L1 := Lib.hid hf1.len
  have L2 := Lib.hid hf2.len
  have L3 := Lib.hid hf3.len
  have HN := Lib.hid (New.refl w)
  generalize wordsT bs ns = W at HW0
  clear hf1 hf2 hf3 h4 h5
  go_enter Try.func4, Try.ntmps4
  go_upto_block 0 with (first
    | (go_at_call 8; refine (HW0.out _ HN.out).mono ?_; rintro e w1 ⟨rfl, hn⟩; replace HN := Lib.hid (HN.out.trans hn); clear hn)
    | (go_at_call 15; refine (envNew_any _).mono ?_; rintro e w2 ⟨rfl, hn⟩; replace HO := Lib.hid (HO.out.new hn); replace HN := Lib.hid (HN.out.trans hn); clear hn)
    | (refine wpList_alW rfl rfl ?_; intro wa g0 q1 q2 hz hn; have HO := Lib.hid hz; have r0 : w.heap.size ≤ g0 := Nat.le_trans HN.out.size q1; replace HN := Lib.hid (HN.out.trans hn); clear hz hn q1 q2)
    | (refine wpList_stWk rfl rfl (.tmp 11) (.tmp 23) rfl g0 rfl W rfl HO.out ?_; intro wb hu hk; replace HO := Lib.hid hu; replace HN := Lib.hid (hk.below _ r0 HN.out); clear hu hk)
    | (refine wpList_alT rfl rfl ?_; first
        | (intro wa gd q1 q2 hz hn; have HOG : Hid (OrdG w g0 ga gb gc gd) := Lib.hid ⟨r0, r1, r2, r3, Nat.lt_of_lt_of_le (heap_lt HC.out) q1⟩; have HS : Hid (Ch w g0 ga gb gc gd W wa noT noT noT noT) := Lib.hid ⟨HO.out.new hn, HA.out.new hn, HB.out.new hn, HC.out.new hn, hz, HN.out.trans hn⟩; clear hz hn q1 q2 HO HA HB HC HN r0 r1 r2 r3)
        | (intro wa gc q1 q2 hz hn; have r3 : gb < gc := Nat.lt_of_lt_of_le (heap_lt HB.out) q1; have HC := Lib.hid hz; replace HB := Lib.hid (HB.out.new hn); replace HA := Lib.hid (HA.out.new hn); replace HO := Lib.hid (HO.out.new hn); replace HN := Lib.hid (HN.out.trans hn); clear hz hn q1 q2)
        | (intro wa gb q1 q2 hz hn; have r2 : ga < gb := Nat.lt_of_lt_of_le (heap_lt HA.out) q1; have HB := Lib.hid hz; replace HA := Lib.hid (HA.out.new hn); replace HO := Lib.hid (HO.out.new hn); replace HN := Lib.hid (HN.out.trans hn); clear hz hn q1 q2)
        | (intro wa ga q1 q2 hz hn; have r1 : g0 < ga := Nat.lt_of_lt_of_le (heap_lt HO.out) q1; have HA := Lib.hid hz; replace HO := Lib.hid (HO.out.new hn); replace HN := Lib.hid (HN.out.trans hn); clear hz hn q1 q2))
    | (refine wpList_stTk rfl rfl (.tmp 12) (.tmp 24) rfl ga rfl newT rfl HS.out.a ?_; intro wb hu hk; replace HS := Lib.hid (HS.out.setA HOG.out hk hu); clear hu hk)
    | (refine wpList_stTk rfl rfl (.tmp 13) (.tmp 25) rfl gb rfl newT rfl HS.out.b ?_; intro wb hu hk; replace HS := Lib.hid (HS.out.setB HOG.out hk hu); clear hu hk)
    | (refine wpList_stTk rfl rfl (.tmp 14) (.tmp 26) rfl gc rfl newT rfl HS.out.c ?_; intro wb hu hk; replace HS := Lib.hid (HS.out.setC HOG.out hk hu); clear hu hk)
    | (refine wpList_stTk rfl rfl (.tmp 15) (.tmp 27) rfl gd rfl newT rfl HS.out.d ?_; intro wb hu hk; replace HS := Lib.hid (HS.out.setD HOG.out hk hu); clear hu hk))
  go_cut [16] from 28 to 49 (fun _ wx => Hid (Ch w g0 ga gb gc gd W wx ((f1.take 20).foldl aft newT) newT newT ((f1.take 20).foldl aft newT)))
  case first =>
    go_wp2_with fail
    go_loopw [16] (fun kv wr => ∃ k : Nat, kv = .int .i64 k ∧ k ≤ 20 ∧ Hid (Ch w g0 ga gb gc gd W wr ((f1.take k).foldl aft newT) (newT) (newT) ((f1.take k).foldl aft newT))) (fun kv _ => 20 - (intOf kv).toNat)
    case atStart => exact ⟨0, rfl, by omega, HS⟩
    case round =>
      obtain ⟨k, rfl, hk, R⟩ := hrel
      clear HS
      by_cases hin : k < n1 ∧ k < 20
      · obtain ⟨hkn, hk20⟩ := hin
        have i1 : (k : Int) < (n1 : Int) := by omega
        have i2 : (k : Int) < 20 := by omega
        obtain ⟨b, o, x, hx, hix, hrg⟩ := F1.out.ix hkn
        have HG := Lib.hid hrg
        have HX := Lib.hid hx
        clear hrg hx
        go_wp2_with fail
        have hne := newW_any wr
        refine wp_region_pref 6 (New.refl wr) (by kernel_rfl) (by kernel_rfl) (by kernel_rfl) (by kernel_rfl) (by kernel_rfl) ?_
        simp only [List.take_succ_cons, List.take_zero, List.drop_succ_cons, List.drop_zero]
        refine wpQuiet_ldTG rfl (.tmp 12) rfl ga rfl (t := (f1.take k).foldl aft newT) (by rintro w' ⟨y, rfl⟩; exact R.out.a.new y.property) ?_
        simp only [Act.put, List.setIfInBounds_toArray, List.set_cons_zero, List.set_cons_succ]
        repeat (go_big_quiet_step (first | fail))
        refine wpQuiet_ldEG rfl (.tmp 41) rfl b o rfl (x := x) (by rintro w' ⟨y, rfl⟩; exact HG.out _ (R.out.n.trans y.property)) ?_
        simp only [Act.put, List.setIfInBounds_toArray, List.set_cons_zero, List.set_cons_succ]
        go_big_quiet_step (first | (go_at_call 16; exact quiet_new (after_from _ x _ (Subtype.property _))))
        refine wpQuiet_nil ?_
        intro w1 hn1
        have R1 := Lib.hid (R.out.new hn1)
        clear hn1 hne
        go_wp2_with (refine wpList_stTk rfl rfl (.tmp 12) (.tmp 43) rfl ga rfl (aft ((f1.take k).foldl aft newT) x) rfl R1.out.a ?_; intro w2 hu hkp; replace R1 := Lib.hid (R1.out.setA HOG.out hkp hu); clear hu hkp)
        have hne := newW_any w2
        refine wp_region_pref 6 (New.refl w2) (by kernel_rfl) (by kernel_rfl) (by kernel_rfl) (by kernel_rfl) (by kernel_rfl) ?_
        simp only [List.take_succ_cons, List.take_zero, List.drop_succ_cons, List.drop_zero]
        refine wpQuiet_ldTG rfl (.tmp 15) rfl gd rfl (t := (f1.take k).foldl aft newT) (by rintro w' ⟨y, rfl⟩; exact R1.out.d.new y.property) ?_
        simp only [Act.put, List.setIfInBounds_toArray, List.set_cons_zero, List.set_cons_succ]
        repeat (go_big_quiet_step (first | fail))
        refine wpQuiet_ldEG rfl (.tmp 47) rfl b o rfl (x := x) (by rintro w' ⟨y, rfl⟩; exact HG.out _ (R1.out.n.trans y.property)) ?_
        simp only [Act.put, List.setIfInBounds_toArray, List.set_cons_zero, List.set_cons_succ]
        go_big_quiet_step (first | (go_at_call 16; exact quiet_new (after_from _ x _ (Subtype.property _))))
        refine wpQuiet_nil ?_
        intro w3 hn3
        have R3 := Lib.hid (R1.out.new hn3)
        clear hn3 hne R1
        go_wp2_with (refine wpList_stTk rfl rfl (.tmp 15) (.tmp 49) rfl gd rfl (aft ((f1.take k).foldl aft newT) x) rfl R3.out.d ?_; intro w4 hu hkp; replace R3 := Lib.hid (R3.out.setD HOG.out hkp hu); clear hu hkp)
        go_roundw
        case rel => exact ⟨k + 1, by go_num, hk20, Lib.hid (by have q := R3.out; simp only [fold_step HX.out] at q; exact q)⟩
        case measure => simp [intOf]; omega
      · have HE := Lib.hid (take_end (f := f1) hk (by rw [← L1.out]; omega))
        have R2 : Hid (Ch w g0 ga gb gc gd W wr ((f1.take 20).foldl aft newT) newT newT ((f1.take 20).foldl aft newT)) := Lib.hid (by have q := R.out; rw [HE.out] at q; exact q)
        have hcase : ¬ k < n1 ∨ (k < n1 ∧ ¬ k < 20) := by omega
        clear hin
        rcases hcase with p1 | ⟨p1, p2⟩
        · have i1 : ¬ (k : Int) < (n1 : Int) := by omega
          go_wp2_with fail
          go_meet
          exact R2
        · have i1 : (k : Int) < (n1 : Int) := by omega
          obtain rfl : k = 20 := by omega
          go_wp2_with fail
          go_meet
          exact R2
  case rest =>
  have HS := hcut
  clear hcut
  have HGA : Hid (goodT ((f1.take 20).foldl aft newT) = true) := Lib.hid (good_fold _ _ good_new)
  generalize hTA : ((f1.take 20).foldl aft newT) = TA at HS HGA
  have HTA := Lib.hid hTA
  clear hTA
  go_upto_block 2 with fail
  go_cut [17] from 50 to 71 (fun _ wx => Hid (Ch w g0 ga gb gc gd W wx TA ((f2.take 20).foldl aft newT) newT ((f2.take 20).foldl aft TA)))
  case first =>
    go_wp2_with fail
    go_loopw [17] (fun kv wr => ∃ k : Nat, kv = .int .i64 k ∧ k ≤ 20 ∧ Hid (Ch w g0 ga gb gc gd W wr (TA) ((f2.take k).foldl aft newT) (newT) ((f2.take k).foldl aft TA))) (fun kv _ => 20 - (intOf kv).toNat)
    case atStart => exact ⟨0, rfl, by omega, HS⟩
    case round =>
      obtain ⟨k, rfl, hk, R⟩ := hrel
      clear HS
      by_cases hin : k < n2 ∧ k < 20
      · obtain ⟨hkn, hk20⟩ := hin
        have i1 : (k : Int) < (n2 : Int) := by omega
        have i2 : (k : Int) < 20 := by omega
        obtain ⟨b, o, x, hx, hix, hrg⟩ := F2.out.ix hkn
        have HG := Lib.hid hrg
        have HX := Lib.hid hx
        clear hrg hx
        go_wp2_with fail
        have hne := newW_any wr
        refine wp_region_pref 6 (New.refl wr) (by kernel_rfl) (by kernel_rfl) (by kernel_rfl) (by kernel_rfl) (by kernel_rfl) ?_
        simp only [List.take_succ_cons, List.take_zero, List.drop_succ_cons, List.drop_zero]
        refine wpQuiet_ldTG rfl (.tmp 13) rfl gb rfl (t := (f2.take k).foldl aft newT) (by rintro w' ⟨y, rfl⟩; exact R.out.b.new y.property) ?_
        simp only [Act.put, List.setIfInBounds_toArray, List.set_cons_zero, List.set_cons_succ]
        repeat (go_big_quiet_step (first | fail))
        refine wpQuiet_ldEG rfl (.tmp 63) rfl b o rfl (x := x) (by rintro w' ⟨y, rfl⟩; exact HG.out _ (R.out.n.trans y.property)) ?_
        simp only [Act.put, List.setIfInBounds_toArray, List.set_cons_zero, List.set_cons_succ]
        go_big_quiet_step (first | (go_at_call 16; exact quiet_new (after_from _ x _ (Subtype.property _))))
        refine wpQuiet_nil ?_
        intro w1 hn1
        have R1 := Lib.hid (R.out.new hn1)
        clear hn1 hne
        go_wp2_with (refine wpList_stTk rfl rfl (.tmp 13) (.tmp 65) rfl gb rfl (aft ((f2.take k).foldl aft newT) x) rfl R1.out.b ?_; intro w2 hu hkp; replace R1 := Lib.hid (R1.out.setB HOG.out hkp hu); clear hu hkp)
        have hne := newW_any w2
        refine wp_region_pref 6 (New.refl w2) (by kernel_rfl) (by kernel_rfl) (by kernel_rfl) (by kernel_rfl) (by kernel_rfl) ?_
        simp only [List.take_succ_cons, List.take_zero, List.drop_succ_cons, List.drop_zero]
        refine wpQuiet_ldTG rfl (.tmp 15) rfl gd rfl (t := (f2.take k).foldl aft TA) (by rintro w' ⟨y, rfl⟩; exact R1.out.d.new y.property) ?_
        simp only [Act.put, List.setIfInBounds_toArray, List.set_cons_zero, List.set_cons_succ]
        repeat (go_big_quiet_step (first | fail))
        refine wpQuiet_ldEG rfl (.tmp 69) rfl b o rfl (x := x) (by rintro w' ⟨y, rfl⟩; exact HG.out _ (R1.out.n.trans y.property)) ?_
        simp only [Act.put, List.setIfInBounds_toArray, List.set_cons_zero, List.set_cons_succ]
        go_big_quiet_step (first | (go_at_call 16; exact quiet_new (after_from _ x _ (Subtype.property _))))
        refine wpQuiet_nil ?_
        intro w3 hn3
        have R3 := Lib.hid (R1.out.new hn3)
        clear hn3 hne R1
        go_wp2_with (refine wpList_stTk rfl rfl (.tmp 15) (.tmp 71) rfl gd rfl (aft ((f2.take k).foldl aft TA) x) rfl R3.out.d ?_; intro w4 hu hkp; replace R3 := Lib.hid (R3.out.setD HOG.out hkp hu); clear hu hkp)
        go_roundw
        case rel => exact ⟨k + 1, by go_num, hk20, Lib.hid (by have q := R3.out; simp only [fold_step HX.out] at q; exact q)⟩
        case measure => simp [intOf]; omega
      · have HE := Lib.hid (take_end (f := f2) hk (by rw [← L2.out]; omega))
        have R2 : Hid (Ch w g0 ga gb gc gd W wr TA ((f2.take 20).foldl aft newT) newT ((f2.take 20).foldl aft TA)) := Lib.hid (by have q := R.out; rw [HE.out] at q; exact q)
        have hcase : ¬ k < n2 ∨ (k < n2 ∧ ¬ k < 20) := by omega
        clear hin
        rcases hcase with p1 | ⟨p1, p2⟩
        · have i1 : ¬ (k : Int) < (n2 : Int) := by omega
          go_wp2_with fail
          go_meet
          exact R2
        · have i1 : (k : Int) < (n2 : Int) := by omega
          obtain rfl : k = 20 := by omega
          go_wp2_with fail
          go_meet
          exact R2
  case rest =>
  have HS := hcut
  clear hcut
  have HGB : Hid (goodT ((f2.take 20).foldl aft newT) = true) := Lib.hid (good_fold _ _ good_new)
  have HED : Hid ((f2.take 20).foldl aft TA = thn TA ((f2.take 20).foldl aft newT)) := Lib.hid (fold_from HGA.out _)
  generalize hTD : (f2.take 20).foldl aft TA = TD at HS HED
  generalize hTB : ((f2.take 20).foldl aft newT) = TB at HS HGB HED
  clear hTD hTB
  go_upto_block 4 with fail
  go_cut [18] from 72 to 93 (fun _ wx => Hid (Ch w g0 ga gb gc gd W wx TA TB ((f3.take 20).foldl aft newT) ((f3.take 20).foldl aft TD)))
  case first =>
    go_wp2_with fail
    go_loopw [18] (fun kv wr => ∃ k : Nat, kv = .int .i64 k ∧ k ≤ 20 ∧ Hid (Ch w g0 ga gb gc gd W wr (TA) (TB) ((f3.take k).foldl aft newT) ((f3.take k).foldl aft TD))) (fun kv _ => 20 - (intOf kv).toNat)
    case atStart => exact ⟨0, rfl, by omega, HS⟩
    case round =>
      obtain ⟨k, rfl, hk, R⟩ := hrel
      clear HS
      by_cases hin : k < n3 ∧ k < 20
      · obtain ⟨hkn, hk20⟩ := hin
        have i1 : (k : Int) < (n3 : Int) := by omega
        have i2 : (k : Int) < 20 := by omega
        obtain ⟨b, o, x, hx, hix, hrg⟩ := F3.out.ix hkn
        have HG := Lib.hid hrg
        have HX := Lib.hid hx
        clear hrg hx
        go_wp2_with fail
        have hne := newW_any wr
        refine wp_region_pref 6 (New.refl wr) (by kernel_rfl) (by kernel_rfl) (by kernel_rfl) (by kernel_rfl) (by kernel_rfl) ?_
        simp only [List.take_succ_cons, List.take_zero, List.drop_succ_cons, List.drop_zero]
        refine wpQuiet_ldTG rfl (.tmp 14) rfl gc rfl (t := (f3.take k).foldl aft newT) (by rintro w' ⟨y, rfl⟩; exact R.out.c.new y.property) ?_
        simp only [Act.put, List.setIfInBounds_toArray, List.set_cons_zero, List.set_cons_succ]
        repeat (go_big_quiet_step (first | fail))
        refine wpQuiet_ldEG rfl (.tmp 85) rfl b o rfl (x := x) (by rintro w' ⟨y, rfl⟩; exact HG.out _ (R.out.n.trans y.property)) ?_
        simp only [Act.put, List.setIfInBounds_toArray, List.set_cons_zero, List.set_cons_succ]
        go_big_quiet_step (first | (go_at_call 16; exact quiet_new (after_from _ x _ (Subtype.property _))))
        refine wpQuiet_nil ?_
        intro w1 hn1
        have R1 := Lib.hid (R.out.new hn1)
        clear hn1 hne
        go_wp2_with (refine wpList_stTk rfl rfl (.tmp 14) (.tmp 87) rfl gc rfl (aft ((f3.take k).foldl aft newT) x) rfl R1.out.c ?_; intro w2 hu hkp; replace R1 := Lib.hid (R1.out.setC HOG.out hkp hu); clear hu hkp)
        have hne := newW_any w2
        refine wp_region_pref 6 (New.refl w2) (by kernel_rfl) (by kernel_rfl) (by kernel_rfl) (by kernel_rfl) (by kernel_rfl) ?_
        simp only [List.take_succ_cons, List.take_zero, List.drop_succ_cons, List.drop_zero]
        refine wpQuiet_ldTG rfl (.tmp 15) rfl gd rfl (t := (f3.take k).foldl aft TD) (by rintro w' ⟨y, rfl⟩; exact R1.out.d.new y.property) ?_
        simp only [Act.put, List.setIfInBounds_toArray, List.set_cons_zero, List.set_cons_succ]
        repeat (go_big_quiet_step (first | fail))
        refine wpQuiet_ldEG rfl (.tmp 91) rfl b o rfl (x := x) (by rintro w' ⟨y, rfl⟩; exact HG.out _ (R1.out.n.trans y.property)) ?_
        simp only [Act.put, List.setIfInBounds_toArray, List.set_cons_zero, List.set_cons_succ]
        go_big_quiet_step (first | (go_at_call 16; exact quiet_new (after_from _ x _ (Subtype.property _))))
        refine wpQuiet_nil ?_
        intro w3 hn3
        have R3 := Lib.hid (R1.out.new hn3)
        clear hn3 hne R1
        go_wp2_with (refine wpList_stTk rfl rfl (.tmp 15) (.tmp 93) rfl gd rfl (aft ((f3.take k).foldl aft TD) x) rfl R3.out.d ?_; intro w4 hu hkp; replace R3 := Lib.hid (R3.out.setD HOG.out hkp hu); clear hu hkp)
        go_roundw
        case rel => exact ⟨k + 1, by go_num, hk20, Lib.hid (by have q := R3.out; simp only [fold_step HX.out] at q; exact q)⟩
        case measure => simp [intOf]; omega
      · have HE := Lib.hid (take_end (f := f3) hk (by rw [← L3.out]; omega))
        have R2 : Hid (Ch w g0 ga gb gc gd W wr TA TB ((f3.take 20).foldl aft newT) ((f3.take 20).foldl aft TD)) := Lib.hid (by have q := R.out; rw [HE.out] at q; exact q)
        have hcase : ¬ k < n3 ∨ (k < n3 ∧ ¬ k < 20) := by omega
        clear hin
        rcases hcase with p1 | ⟨p1, p2⟩
        · have i1 : ¬ (k : Int) < (n3 : Int) := by omega
          go_wp2_with fail
          go_meet
          exact R2
        · have i1 : (k : Int) < (n3 : Int) := by omega
          obtain rfl : k = 20 := by omega
          go_wp2_with fail
          go_meet
          exact R2
  case rest =>
  have HS := hcut
  clear hcut
  have HGC : Hid (goodT ((f3.take 20).foldl aft newT) = true) := Lib.hid (good_fold _ _ good_new)
  have HEE : Hid ((f3.take 20).foldl aft TD = thn (thn TA TB) ((f3.take 20).foldl aft newT)) := Lib.hid (by rw [HED.out]; exact fold_from (good_thn _ _) _)
  generalize hTE : (f3.take 20).foldl aft TD = TE at HS HEE
  generalize hTC : ((f3.take 20).foldl aft newT) = TC at HS HGC HEE
  clear hTE hTC HED HTA F1 F2 F3 L1 L2 L3 HW0
  have HSX : Hid (Ch w g0 ga gb gc gd W wc TA TB TC (thn (thn TA TB) TC)) := Lib.hid (by have q := HS.out; rw [HEE.out] at q; exact q)
  clear HS HEE
  go_wp2_with fail
  refine wp_region_new1 (W0 := wc) 5 (oT noT) rfl rfl (fun a w => exec_alT rfl a.eval w) (New.refl wc) (by kernel_rfl) (by kernel_rfl) (by kernel_rfl) (by kernel_rfl) (by kernel_rfl) (by kernel_rfl) ?_
  simp only [List.take_succ_cons, List.take_zero, List.drop_succ_cons, List.drop_zero]
  refine wpQN_ldT rfl (.tmp 12) rfl ga rfl HSX.out.a ?_
  simp only [Act.put, List.setIfInBounds_toArray, List.set_cons_zero, List.set_cons_succ]
  refine wpQN_ldT rfl (.tmp 13) rfl gb rfl HSX.out.b ?_
  simp only [Act.put, List.setIfInBounds_toArray, List.set_cons_zero, List.set_cons_succ]
  refine wpQN_call rfl 17 #[.agg (cellsT TA), .agg (cellsT TB)] (fun w => by go_simp) (fun w _ => then_any TA TB w) ?_
  simp only [Act.put, List.setIfInBounds_toArray, List.set_cons_zero, List.set_cons_succ]
  refine wpQN_ldT rfl (.tmp 14) rfl gc rfl HSX.out.c ?_
  simp only [Act.put, List.setIfInBounds_toArray, List.set_cons_zero, List.set_cons_succ]
  refine wpQN_call rfl 17 #[.agg (cellsT (thn TA TB)), .agg (cellsT TC)] (fun w => by go_simp) (fun w _ => then_any (thn TA TB) TC w) ?_
  simp only [Act.put, List.setIfInBounds_toArray, List.set_cons_zero, List.set_cons_succ]
  refine wpQN_nil ?_
  intro gx w1 hgx hx hn1
  have s1 : gd < gx := Nat.lt_of_lt_of_le (heap_lt HSX.out.d) hgx
  have R1 := Lib.hid (HSX.out.new hn1)
  have HX : Hid (HasT w1 gx noT) := Lib.hid hx
  clear HSX hgx hx hn1
  simp only [List.setIfInBounds_toArray, List.set_cons_zero, List.set_cons_succ]
  go_wp2_with (refine wpList_stTk rfl rfl (.tmp 19) (.tmp 98) rfl gx rfl (thn (thn TA TB) TC) rfl HX.out ?_; intro w2 hu hkp; replace R1 := Lib.hid (R1.out.far HOG.out hkp s1); replace HX := Lib.hid hu; clear hu hkp)
  refine wp_region_new1 (W0 := w2) 5 (oT noT) rfl rfl (fun a w => exec_alT rfl a.eval w) (New.refl w2) (by kernel_rfl) (by kernel_rfl) (by kernel_rfl) (by kernel_rfl) (by kernel_rfl) (by kernel_rfl) ?_
  simp only [List.take_succ_cons, List.take_zero, List.drop_succ_cons, List.drop_zero]
  refine wpQN_ldT rfl (.tmp 12) rfl ga rfl R1.out.a ?_
  simp only [Act.put, List.setIfInBounds_toArray, List.set_cons_zero, List.set_cons_succ]
  refine wpQN_ldT rfl (.tmp 13) rfl gb rfl R1.out.b ?_
  simp only [Act.put, List.setIfInBounds_toArray, List.set_cons_zero, List.set_cons_succ]
  refine wpQN_ldT rfl (.tmp 14) rfl gc rfl R1.out.c ?_
  simp only [Act.put, List.setIfInBounds_toArray, List.set_cons_zero, List.set_cons_succ]
  refine wpQN_call rfl 17 #[.agg (cellsT TB), .agg (cellsT TC)] (fun w => by go_simp) (fun w _ => then_any TB TC w) ?_
  simp only [Act.put, List.setIfInBounds_toArray, List.set_cons_zero, List.set_cons_succ]
  refine wpQN_call rfl 17 #[.agg (cellsT TA), .agg (cellsT (thn TB TC))] (fun w => by go_simp) (fun w _ => then_any TA (thn TB TC) w) ?_
  simp only [Act.put, List.setIfInBounds_toArray, List.set_cons_zero, List.set_cons_succ]
  refine wpQN_nil ?_
  intro gy w3 hgy hy hn3
  have s2 : gx < gy := Nat.lt_of_lt_of_le (heap_lt HX.out) hgy
  replace HX := Lib.hid (HX.out.new hn3)
  have R3 := Lib.hid (R1.out.new hn3)
  have HY : Hid (HasT w3 gy noT) := Lib.hid hy
  clear R1 hgy hy hn3
  simp only [List.setIfInBounds_toArray, List.set_cons_zero, List.set_cons_succ]
  go_wp2_with (refine wpList_stTk rfl rfl (.tmp 20) (.tmp 103) rfl gy rfl (thn TA (thn TB TC)) rfl HY.out ?_; intro w4 hu hkp; replace R3 := Lib.hid (R3.out.far HOG.out hkp (by omega)); replace HX := Lib.hid (hkp.T HX.out (by omega)); replace HY := Lib.hid hu; clear hu hkp)
  have hne := newW_any w4
  have e1 : ∀ w, (binOp .neq 28 (.agg (cellsT (thn (thn TA TB) TC))) (.agg (cellsT (thn TA (thn TB TC))))).run Try.prog w = .ok (.bool false) w := fun w => by rw [neq_T (good_thn _ _) (good_thn _ _), eqT_iff.mpr (fun i _ => thn_assoc HGA.out HGB.out HGC.out i)]; rfl
  have e2 : ∀ w, (binOp .neq 28 (.agg (cellsT (thn (thn TA TB) TC))) (.agg (cellsT (thn (thn TA TB) TC)))).run Try.prog w = .ok (.bool false) w := fun w => by rw [neq_T (good_thn _ _) (good_thn _ _), eqT_iff.mpr (fun i _ => rfl)]; rfl
  have e3 : ∀ w, (binOp .neq 28 (.agg (cellsT (thn newT TA))) (.agg (cellsT TA))).run Try.prog w = .ok (.bool false) w := fun w => by rw [neq_T (good_thn _ _) HGA.out, eqT_iff.mpr (thn_new_left HGA.out)]; rfl
  have e4 : ∀ w, (binOp .neq 28 (.agg (cellsT (thn TA newT))) (.agg (cellsT TA))).run Try.prog w = .ok (.bool false) w := fun w => by rw [neq_T (good_thn _ _) HGA.out, eqT_iff.mpr (fun i _ => by rw [thn_new_right HGA.out])]; rfl
  have f1 : ∀ x y w, (eqGuard .neq 28 x y (.agg (cellsT (thn (thn TA TB) TC))) (.agg (cellsT (thn TA (thn TB TC))))).run Try.prog w = .ok () w := fun x y w => guard_T (good_thn _ _) (good_thn _ _) _ x y w
  have f2 : ∀ x y w, (eqGuard .neq 28 x y (.agg (cellsT (thn (thn TA TB) TC))) (.agg (cellsT (thn (thn TA TB) TC)))).run Try.prog w = .ok () w := fun x y w => guard_T (good_thn _ _) (good_thn _ _) _ x y w
  have f3 : ∀ x y w, (eqGuard .neq 28 x y (.agg (cellsT (thn newT TA))) (.agg (cellsT TA))).run Try.prog w = .ok () w := fun x y w => guard_T (good_thn _ _) HGA.out _ x y w
  have f4 : ∀ x y w, (eqGuard .neq 28 x y (.agg (cellsT (thn TA newT))) (.agg (cellsT TA))).run Try.prog w = .ok () w := fun x y w => guard_T (good_thn _ _) HGA.out _ x y w
  refine wp_region_new (New.refl w4) (by kernel_rfl) (by kernel_rfl) ?_
  repeat (first
    | (refine wpQuiet_ldTG rfl (.tmp 12) rfl ga rfl (t := TA) (by rintro w' ⟨y, rfl⟩; exact R3.out.a.new y.property) ?_; simp only [Act.put, List.setIfInBounds_toArray, List.set_cons_zero, List.set_cons_succ])
    | (refine wpQuiet_ldTG rfl (.tmp 15) rfl gd rfl (t := thn (thn TA TB) TC) (by rintro w' ⟨y, rfl⟩; exact R3.out.d.new y.property) ?_; simp only [Act.put, List.setIfInBounds_toArray, List.set_cons_zero, List.set_cons_succ])
    | (refine wpQuiet_ldTG rfl (.tmp 19) rfl gx rfl (t := thn (thn TA TB) TC) (by rintro w' ⟨y, rfl⟩; exact HX.out.new y.property) ?_; simp only [Act.put, List.setIfInBounds_toArray, List.set_cons_zero, List.set_cons_succ])
    | (refine wpQuiet_ldTG rfl (.tmp 20) rfl gy rfl (t := thn TA (thn TB TC)) (by rintro w' ⟨y, rfl⟩; exact HY.out.new y.property) ?_; simp only [Act.put, List.setIfInBounds_toArray, List.set_cons_zero, List.set_cons_succ])
    | go_big_quiet_step (first | (go_at_call 15; exact quiet_new (envNew_from _ (Subtype.property _))) | (go_at_call 17; exact quiet_new (then_from _ _ _ (Subtype.property _)))))
  refine wpQuiet_nil ?_
  intro w5 hn5
  have R5 := Lib.hid (R3.out.new hn5)
  clear R3 hn5 hne e1 e2 e3 e4 f1 f2 f3 f4 HX HY
  go_wp2_with fail
  have hne := newW_any w5
  have e5 : ∀ w, (binOp .eql 32 (.agg (cellsW (fil (thn TA TB) W))) (.agg (cellsW (fil TB (fil TA W))))).run Try.prog w = .ok (.bool true) w := fun w => by rw [eql_W, eqW_iff.mpr (fun i _ => fil_thn HGA.out HGB.out W i)]
  have f5 : ∀ x y w, (eqGuard .eql 32 x y (.agg (cellsW (fil (thn TA TB) W))) (.agg (cellsW (fil TB (fil TA W))))).run Try.prog w = .ok () w := fun x y w => guard_W _ _ _ x y w
  refine wp_region_new (New.refl w5) (by kernel_rfl) (by kernel_rfl) ?_
  repeat (first
    | (refine wpQuiet_ldTG rfl (.tmp 12) rfl ga rfl (t := TA) (by rintro w' ⟨y, rfl⟩; exact R5.out.a.new y.property) ?_; simp only [Act.put, List.setIfInBounds_toArray, List.set_cons_zero, List.set_cons_succ])
    | (refine wpQuiet_ldTG rfl (.tmp 13) rfl gb rfl (t := TB) (by rintro w' ⟨y, rfl⟩; exact R5.out.b.new y.property) ?_; simp only [Act.put, List.setIfInBounds_toArray, List.set_cons_zero, List.set_cons_succ])
    | (refine wpQuiet_ldWG rfl (.tmp 11) rfl g0 rfl (t := W) (by rintro w' ⟨y, rfl⟩; exact R5.out.o.new y.property) ?_; simp only [Act.put, List.setIfInBounds_toArray, List.set_cons_zero, List.set_cons_succ])
    | go_big_quiet_step (first | (go_at_call 11; exact quiet_new (fill_from _ _ _ (Subtype.property _))) | (go_at_call 17; exact quiet_new (then_from _ _ _ (Subtype.property _))) | (go_at_call 14; exact quiet_new (knows_from _ (Subtype.property _)))))
  refine wpQuiet_nil ?_
  intro w6 hn6
  go_wp2
  go_ret
  exact ⟨rfl, R5.out.n.trans hn6⟩
theorem envChains_law (v1 : Value) (f1 : List I) (v2 : Value) (f2 : List I) (v3 : Value) (f3 : List I) (v4 : Value) (bs : List Bool) (v5 : Value) (ns : List Int) (w : World) (h1 : FunAt w v1 f1) (_hi1 : ∀ y ∈ f1, In64I y) (_hl1 : f1.length ≤ maxLen) (h2 : FunAt w v2 f2) (_hi2 : ∀ y ∈ f2, In64I y) (_hl2 : f2.length ≤ maxLen) (h3 : FunAt w v3 f3) (_hi3 : ∀ y ∈ f3, In64I y) (_hl3 : f3.length ≤ maxLen) (h4 : RowAt w v4 (bs.map .bool)) (h5 : RowAt w v5 (ns.map (.int .i64))) :
    Calls Try.prog 4 #[v1, v2, v3, v4, v5] w fun e w' => e = .returned (.bool true) ∧ New w w' := by
  obtain ⟨ao, c1, rfl⟩ := h1.form
  obtain ⟨bo, c2, rfl⟩ := h2.form
  obtain ⟨co, c3, rfl⟩ := h3.form
  exact envChains_in ao bo co _ _ _ c1 c2 c3 f1 f2 f3 bs ns v4 v5 w h1 h2 h3 h4 h5
end Go.Proofs.Ythdbehalbcoibaa
