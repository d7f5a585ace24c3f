/-
  Layer 12: the contracts of refine.there, seen, numbered, colored; of slices.Equal of rows of numbers.
-/
import Derived.Test.YtomclhbekmcaeaaRefMap
namespace Go.Proofs.Ytomclhbekmcaeaa
open Go.RowKit

theorem there_any (n th : Int) (w : World) : Calls Try.prog 20 #[.int .i64 n, .int .i64 th] w fun e w' => e = .returned (.bool (decide (0 ≤ n ∧ n < th))) ∧ New w w' := by
  by_cases h1 : 0 ≤ n
  · have d1 : decide (0 ≤ n) = true := decide_eq_true h1
    by_cases h2 : n < th
    · have d2 : decide (n < th) = true := decide_eq_true h2
      rw [decide_eq_true ⟨h1, h2⟩]
      clear h1 h2
      go_enter Try.func20, Try.ntmps20
      go_wp2_with fail
      go_ret
      exact ⟨rfl, New.refl _⟩
    · have d2 : decide (n < th) = false := decide_eq_false h2
      rw [decide_eq_false (fun e => h2 e.2)]
      clear h1 h2
      go_enter Try.func20, Try.ntmps20
      go_wp2_with fail
      go_ret
      exact ⟨rfl, New.refl _⟩
  · have d1 : decide (0 ≤ n) = false := decide_eq_false h1
    rw [decide_eq_false (fun e => h1 e.1)]
    clear h1
    go_enter Try.func20, Try.ntmps20
    go_wp2_with fail
    go_ret
    exact ⟨rfl, New.refl _⟩
theorem infoRf12 : (Try.prog.info? 40).map (·.size) = some 2 := by kernel_rfl
theorem refK_one (r : Rf) : ∀ v ∈ refK r, v.oneCell' = true := by simp [refK, Value.oneCell']
theorem zeroRf_run (w : World) : (zeroValue 40).run Try.prog w = .ok (.agg (refK (0, 0)).toArray) w := Try.zeroValue40 w
theorem build_Rf (a b : Int) (w : World) : (Instr.build 40 #[(0, .int .i64 a), (1, .int .i64 b)]).run Try.prog w = .ok (.agg (refK (a, b)).toArray) w := run_build w _ _ _ (by kernel_rfl)
theorem resRf (fn : Func) {p : Tmp} (h : fn.results = #[.cell p 40]) (tmps : Array Value) (w : World) (g : Nat) (r : Rf) (hp : tmps.getD p undef = .pointer (some ⟨g, 0, none⟩)) (hg : HasC w g 40 (refK r)) :
    (results fn tmps).run Try.prog w = .ok (.agg (refK r).toArray) w :=
  results_cell_row h tmps w g _ _ _ _ hp hg Try.underlying40 rfl infoRf12
set_option maxHeartbeats 4000000 in
set_option maxRecDepth 100000 in
theorem seen_any (r : Rf) (ca : Option Addr) (n cc : Nat) (cs : List Int) (w : World) (hc : RowAt w (.slice ca n cc) (cs.map (.int .i64))) :
    Calls Try.prog 23 #[.agg #[.int .i64 r.1, .int .i64 r.2], .slice ca n cc] w fun e w' => e = .returned (.agg (refK (seenA cs r)).toArray) ∧ New w w' := by
  have hn : cs.length = n := by have := hc.len; simpa using this.symm
  have HS := Lib.hid (Sep.start w)
  unfold seenA thB
  rw [hn]
  by_cases h0 : r.1 = 0
  · have q0 : (r.1 == 0) = true := beq_of h0
    have hd : decide (r.1 = 0 ∧ 0 ≤ r.2 ∧ r.2 < (n : Int)) = decide (0 ≤ r.2 ∧ r.2 < (n : Int)) := by simp [h0]
    rw [hd]
    by_cases ht : 0 ≤ r.2 ∧ r.2 < (n : Int)
    · have HTH := Lib.hid (decide_eq_true ht)
      rw [if_pos HTH.out]
      obtain ⟨k, hk⟩ : ∃ k : Nat, r.2 = (k : Int) := ⟨r.2.toNat, by omega⟩
      obtain ⟨ad, hix, hcell⟩ := int_ix hc (i := k) (by omega)
      rw [← hk] at hix
      rw [show k = r.2.toNat by omega] at hcell
      have HC := Lib.hid hcell
      have HK := Lib.hid hk
      clear hc hn h0 hd ht hcell hk
      have T1 : Hid True := Lib.hid trivial
      have T2 : Hid True := Lib.hid trivial
      have T3 : Hid True := Lib.hid trivial
      have T4 : Hid True := Lib.hid trivial
      have T5 : Hid True := Lib.hid trivial
      go_enter Try.func23, Try.ntmps23
      go_wp2_with (first
        | (clear T1; refine wpList_boxB rfl 40 (.tmp 0) rfl (refK r) rfl HS.out ?_; intro wa g2 hs; replace HS := Lib.hid hs; have c0 := HS.out.cell 0 rfl (k := 0) rfl; have c1 := HS.out.cell 0 rfl (k := 1) rfl; clear hs)
        | (clear T2; refine wpList_alB rfl 40 rfl _ zeroRf_run _ rfl HS.out ?_; intro wb g4 hs; replace HS := Lib.hid hs; clear c0 c1; have c0 := HS.out.cell 1 rfl (k := 0) rfl; have c1 := HS.out.cell 1 rfl (k := 1) rfl; clear hs)
        | (clear T3; go_at_call 20; refine (there_any _ _ _).mono ?_; rw [HTH.out]; rintro e w1 ⟨rfl, hn⟩; replace HS := Lib.hid (HS.out.go hn); clear hn c0 c1; have c0 := HS.out.cell 1 rfl (k := 0) rfl; have c1 := HS.out.cell 1 rfl (k := 1) rfl; have y := HC.out _ HS.out.nw)
        | (clear T4; refine wpList_bd2 (a := (.int .i64 0)) (b := (.int .i64 (cs.getD r.2.toNat 0))) rfl 40 0 1 (.const (.int .i64 0)) (.tmp 19) rfl rfl rfl (build_Rf 0 _) ?_)
        | (clear T5; refine wpList_stSW 0 rfl rfl 40 (.tmp 4) (.tmp 20) rfl g4 rfl _ rfl HS.out rfl (refK (0, cs.getD r.2.toNat 0)) rfl rfl (refK_one _) infoRf12 ?_; intro wc hs; replace HS := Lib.hid hs; clear hs))
      exact bodyPost_ret (resRf _ rfl _ _ g4 _ rfl (HS.out.has 0 rfl)) rfl ⟨rfl, HS.out.nw⟩
    · have HTH := Lib.hid (decide_eq_false ht)
      rw [if_neg (by rw [HTH.out]; decide)]
      clear hc hn h0 hd ht
      have T1 : Hid True := Lib.hid trivial
      have T2 : Hid True := Lib.hid trivial
      have T3 : Hid True := Lib.hid trivial
      have T4 : Hid True := Lib.hid trivial
      have T5 : Hid True := Lib.hid trivial
      go_enter Try.func23, Try.ntmps23
      go_wp2_with (first
        | (clear T1; refine wpList_boxB rfl 40 (.tmp 0) rfl (refK r) rfl HS.out ?_; intro wa g2 hs; replace HS := Lib.hid hs; have c0 := HS.out.cell 0 rfl (k := 0) rfl; have c1 := HS.out.cell 0 rfl (k := 1) rfl; clear hs)
        | (clear T2; refine wpList_alB rfl 40 rfl _ zeroRf_run _ rfl HS.out ?_; intro wb g4 hs; replace HS := Lib.hid hs; clear c0 c1; have c0 := HS.out.cell 1 rfl (k := 0) rfl; have c1 := HS.out.cell 1 rfl (k := 1) rfl; clear hs)
        | (clear T3; go_at_call 20; refine (there_any _ _ _).mono ?_; rw [HTH.out]; rintro e w1 ⟨rfl, hn⟩; replace HS := Lib.hid (HS.out.go hn); clear hn c0 c1; have c0 := HS.out.cell 1 rfl (k := 0) rfl; have c1 := HS.out.cell 1 rfl (k := 1) rfl)
        | (clear T4; refine wpList_load_mid rfl 40 (.tmp 2) rfl g2 0 rfl (refK r) _ (HasC.all (HS.out.has 1 rfl)) Try.underlying40 rfl infoRf12 ?_)
        | (clear T5; refine wpList_stSW 0 rfl rfl 40 (.tmp 4) (.tmp 21) rfl g4 rfl _ rfl HS.out rfl (refK r) rfl rfl (refK_one _) infoRf12 ?_; intro wc hs; replace HS := Lib.hid hs; clear hs))
      exact bodyPost_ret (resRf _ rfl _ _ g4 _ rfl (HS.out.has 0 rfl)) rfl ⟨rfl, HS.out.nw⟩
  · have q0 : (r.1 == 0) = false := bneq_of h0
    rw [if_neg (by rw [decide_eq_true_iff]; exact fun e => h0 e.1)]
    clear hc hn h0
    have T1 : Hid True := Lib.hid trivial
    have T2 : Hid True := Lib.hid trivial
    have T3 : Hid True := Lib.hid trivial
    have T4 : Hid True := Lib.hid trivial
    go_enter Try.func23, Try.ntmps23
    go_wp2_with (first
      | (clear T1; refine wpList_boxB rfl 40 (.tmp 0) rfl (refK r) rfl HS.out ?_; intro wa g2 hs; replace HS := Lib.hid hs; have c0 := HS.out.cell 0 rfl (k := 0) rfl; have c1 := HS.out.cell 0 rfl (k := 1) rfl; clear hs)
      | (clear T2; refine wpList_alB rfl 40 rfl _ zeroRf_run _ rfl HS.out ?_; intro wb g4 hs; replace HS := Lib.hid hs; clear c0 c1; have c0 := HS.out.cell 1 rfl (k := 0) rfl; have c1 := HS.out.cell 1 rfl (k := 1) rfl; clear hs)
      | (clear T3; refine wpList_load_mid rfl 40 (.tmp 2) rfl g2 0 rfl (refK r) _ (HasC.all (HS.out.has 1 rfl)) Try.underlying40 rfl infoRf12 ?_)
      | (clear T4; refine wpList_stSW 0 rfl rfl 40 (.tmp 4) (.tmp 21) rfl g4 rfl _ rfl HS.out rfl (refK r) rfl rfl (refK_one _) infoRf12 ?_; intro wc hs; replace HS := Lib.hid hs; clear hs))
    exact bodyPost_ret (resRf _ rfl _ _ g4 _ rfl (HS.out.has 0 rfl)) rfl ⟨rfl, HS.out.nw⟩
theorem infoRw : (Try.prog.info? 38).map (·.size) = some 2 := by kernel_rfl
theorem rwK_one (x : Rw) {u : Value} (hu : u.oneCell' = true) : ∀ v ∈ rwK x u, v.oneCell' = true := by
  intro v hv
  simp only [rwK, List.mem_cons, List.not_mem_nil, or_false] at hv
  rcases hv with rfl | rfl
  · rfl
  · exact hu
theorem zeroRw_run (w : World) : (zeroValue 38).run Try.prog w = .ok (.agg (rwK noRw (.slice none 0 0)).toArray) w := Try.zeroValue38 w
theorem sizeRw : ∀ w, (sizeOf 38).run Try.prog w = .ok 2 w := Try.sizeOf38
theorem sizeRf : ∀ w, (sizeOf 40).run Try.prog w = .ok 2 w := Try.sizeOf40
set_option maxHeartbeats 8000000 in
set_option maxRecDepth 100000 in
theorem numbered_any (xa : Option Addr) (n xc : Nat) (xs : List Int) (w : World) (hx : RowAt w (.slice xa n xc) (xs.map (.int .i64))) (hn : n ≤ 100000) :
    Calls Try.prog 22 #[.slice xa n xc] w fun e w' => ∃ v, e = .returned v ∧ Sep w w' [intO v (numL xs)] := by
  have hl := int_len hx
  have HX := Lib.hid hx
  have HN := Lib.hid hl
  have HNL : Hid ((numL xs).length = n) := Lib.hid (by unfold numL; rw [clsI_len, hl])
  have HS := Lib.hid (Sep.start w)
  have HE0 : Hid (List.replicate n (0 : Int) = fillT (numL xs) 0 0) := Lib.hid (by rw [fill_zero, HNL.out])
  clear hx hl
  have T1 : Hid True := Lib.hid trivial
  have T2 : Hid True := Lib.hid trivial
  go_enter Try.func22, Try.ntmps22
  go_wp2_with (first
    | (clear T1; refine wpList_mkG (K := intV) (B := 0) rfl 56 rfl HS.out ?_; intro wm mo hs; replace HS := Lib.hid hs; clear hs)
    | (clear T2; at_make; refine wpList_mk1 rfl (.tmp 11) (.tmp 11) 25 3 rfl Try.underlying25 infoInt3 rfl (by decide) n rfl rfl (by omega) HS.out (E := leafE fun a => [.int .i64 a]) (x0 := 0) ints_0 ?_; intro wb gv hs; rw [HE0.out] at hs; replace HS := Lib.hid hs; clear hs))
  go_loopw [15] (fun kv wr => ∃ (k : Nat) (ks : List Int), kv = .int .i64 (k : Int) ∧ k ≤ n ∧ Hid (NumR xs k ks) ∧ Hid (Sep w wr [intO (.slice (some ⟨gv, 0, none⟩) n n) (fillT (numL xs) 0 k), objA mo (mapG intV 0 ks)])) (fun kv _ => n - (intOf kv).toNat)
  case atStart => exact ⟨0, [], rfl, by omega, Lib.hid (numR_0 xs), HS⟩
  case round =>
    obtain ⟨k, ks, rfl, hk, HR, HT⟩ := hrel
    clear HS
    by_cases hkn : k < n
    · obtain ⟨ad, hix, hcell⟩ := int_ix HX.out hkn
      have y := hcell _ HT.out.nw
      have hix2 := ixInt gv k n n hkn
      have LK := run_lookG (P := Try.prog) (t := 56) (kt := 3) (et := 3) (K := intV) (B := 0) (xs.getD k 0) (by kernel_rfl) Try.zeroValue3 (HT.out.obj 1 rfl) (int_chk Try.underlying3 _) (int_key Try.underlying3 _ ks)
      have LM := lenG (w := wr) 56 3 (by kernel_rfl) (HT.out.obj 1 rfl)
      have HCL0 : Hid ((numL xs)[k]? = some ((clsA (eqG xs) k : Nat) : Int)) := Lib.hid (by unfold numL; rw [HN.out]; exact clsI_at _ hkn)
      obtain ⟨cl, HLC⟩ : ∃ cl : Int, Hid (((clsA (eqG xs) k : Nat) : Int) = cl) := ⟨_, Lib.hid rfl⟩
      have HCL : Hid ((numL xs)[k]? = some cl) := Lib.hid (by rw [← HLC.out]; exact HCL0.out)
      obtain ⟨x, HXX⟩ : ∃ x, Hid (xs.getD k 0 = x) := ⟨_, Lib.hid rfl⟩
      rw [HXX.out] at y LK
      by_cases hm : x ∈ ks
      · have hmet := numR_met HR.out (by rw [HXX.out]; exact hm)
        rw [HXX.out] at hmet
        have HR2 := Lib.hid hmet.2
        rw [if_pos hm, Nat.zero_add, hmet.1, HLC.out] at LK
        clear hcell LM hm hmet HCL0
        have V1 : Hid True := Lib.hid trivial
        go_wp2_with (clear V1; refine wpList_stL 0 rfl rfl 3 (.tmp 36) (.tmp 35) rfl gv n n k (by rw [fill_len, HNL.out]; exact hkn) rfl (y := cl) rfl HT.out rfl rfl rfl infoInt1 ?_; intro ws hs; have hs2 : Sep w ws [intO (.slice (some ⟨gv, 0, none⟩) n n) ((fillT (numL xs) 0 k).set k cl), objA mo (mapG intV 0 ks)] := hs; rw [fill_set HCL.out] at hs2; replace HT := Lib.hid hs2; clear hs hs2)
        go_roundw
        case rel => exact ⟨k + 1, ks, by go_num, by omega, HR2, HT⟩
        case measure => simp [intOf]; omega
      · have hnew := numR_new HR.out (by rw [HXX.out]; exact hm)
        rw [HXX.out] at hnew
        have HR2 := Lib.hid hnew.2
        rw [if_neg hm] at LK
        rw [hnew.1, HLC.out] at LM
        have HLK : Hid (((ks.length : Nat) : Int) = cl) := Lib.hid (by rw [hnew.1, HLC.out])
        have HM := Lib.hid hm
        clear hcell hm hnew HCL0
        have U1 : Hid True := Lib.hid trivial
        have U2 : Hid True := Lib.hid trivial
        go_wp2_with (first
          | (clear U1; refine wpList_numG (K := intV) (B := 0) 1 rfl rfl 56 3 3 (.tmp 30) (.tmp 31) (.tmp 32) rfl mo rfl x rfl _ rfl (by kernel_rfl) HT.out rfl (by rw [Nat.zero_add, HLK.out]) HM.out (fun e w => int_chk Try.underlying3 x e) (fun w => int_key Try.underlying3 x ks) ?_; intro wu hs; have hs2 : Sep w wu [intO (.slice (some ⟨gv, 0, none⟩) n n) (fillT (numL xs) 0 k), objA mo (mapG intV 0 (ks ++ [x]))] := hs; replace HT := Lib.hid hs2; clear hs hs2 LK LM)
          | (clear U2; refine wpList_stL 0 rfl rfl 3 (.tmp 36) (.tmp 35) rfl gv n n k (by rw [fill_len, HNL.out]; exact hkn) rfl (y := cl) rfl HT.out rfl rfl rfl infoInt1 ?_; intro ws hs; have hs2 : Sep w ws [intO (.slice (some ⟨gv, 0, none⟩) n n) ((fillT (numL xs) 0 k).set k cl), objA mo (mapG intV 0 (ks ++ [x]))] := hs; rw [fill_set HCL.out] at hs2; replace HT := Lib.hid hs2; clear hs hs2))
        go_roundw
        case rel => exact ⟨k + 1, ks ++ [x], by go_num, by omega, HR2, HT⟩
        case measure => simp [intOf]; omega
    · obtain rfl : k = n := by omega
      have HF : Hid (fillT (numL xs) 0 k = numL xs) := Lib.hid (fill_done (by rw [HNL.out]; exact Nat.le_refl _))
      rw [HF.out] at HT
      go_wp2_with fail
      go_ret
      exact ⟨_, rfl, HT.out.dropAt 1 (by simp)⟩
set_option maxHeartbeats 8000000 in
set_option maxRecDepth 100000 in
theorem colored_any (la : Option Addr) (n lc : Nat) (l : List Rw) (w : World) (hr : RowsAt w (.slice la n lc) l) (hn : n ≤ 100000) :
    Calls Try.prog 17 #[.slice la n lc] w fun e w' => ∃ v, e = .returned v ∧ Sep w w' [intO v (numL (l.map Rw.c))] := by
  have hl := Els.len hr
  have HX := Lib.hid hr
  have HN := Lib.hid hl
  have HCN : Hid ((l.map Rw.c).length = n) := Lib.hid (by rw [List.length_map, hl])
  have HS := Lib.hid (Sep.start w)
  have HE0 : Hid (List.replicate n (0 : Int) = fillT (l.map Rw.c) 0 0) := Lib.hid (by rw [fill_zero, HCN.out])
  clear hr hl
  have T1 : Hid True := Lib.hid trivial
  go_enter Try.func17, Try.ntmps17
  go_wp2_with (clear T1; at_make; refine wpList_mk1 rfl (.tmp 7) (.tmp 7) 25 3 rfl Try.underlying25 infoInt3 rfl (by decide) n rfl rfl (by omega) HS.out (E := leafE fun a => [.int .i64 a]) (x0 := 0) ints_0 ?_; intro wb gv hs; rw [HE0.out] at hs; replace HS := Lib.hid hs; clear hs)
  go_loopw [11] (fun kv wr => ∃ k : Nat, kv = .int .i64 (k : Int) ∧ k ≤ n ∧ Hid (Sep w wr [intO (.slice (some ⟨gv, 0, none⟩) n n) (fillT (l.map Rw.c) 0 k)])) (fun kv _ => n - (intOf kv).toNat)
  case atStart => exact ⟨0, rfl, by omega, HS⟩
  case round =>
    obtain ⟨k, rfl, hk, HT⟩ := hrel
    clear HS
    by_cases hkn : k < n
    · obtain ⟨x, hx⟩ : ∃ x, l[k]? = some x := ⟨_, List.getElem?_eq_getElem (by rw [HN.out]; exact hkn)⟩
      obtain ⟨b, o, ra, rc, hix, hrg, _⟩ := RowsAt.ix (P := Try.prog) HX.out 22 Try.underlying22 sizeRw hx
      have HG := Lib.hid hrg
      have hix2 := ixInt gv k n n hkn
      have HCL : Hid ((l.map Rw.c)[k]? = some x.c) := Lib.hid (by rw [List.getElem?_map, hx]; rfl)
      clear hx hrg
      have V1 : Hid True := Lib.hid trivial
      have V2 : Hid True := Lib.hid trivial
      have V3 : Hid True := Lib.hid trivial
      have V4 : Hid True := Lib.hid trivial
      go_wp2_with (first
        | (clear V1; refine wpList_load_mid rfl 38 (.tmp 14) rfl b o rfl (rwK x (.slice ra x.to.length rc)) _ (HG.out _ HT.out.nw) Try.underlying38 rfl infoRw ?_)
        | (clear V2; refine wpList_alB rfl 38 rfl _ zeroRw_run _ rfl HT.out ?_; intro wa g hs; replace HT := Lib.hid hs; clear hs)
        | (clear V3; refine wpList_stSW 0 rfl rfl 38 (.tmp 5) (.tmp 15) rfl g rfl _ rfl HT.out rfl (rwK x (.slice ra x.to.length rc)) rfl rfl (rwK_one x rfl) infoRw ?_; intro we hs; replace HT := Lib.hid hs; have y := HT.out.cell 0 rfl (k := 0) rfl; clear hs)
        | (clear V4; refine wpList_stL 1 rfl rfl 3 (.tmp 20) (.tmp 19) rfl gv n n k (by rw [fill_len, HCN.out]; exact hkn) rfl (y := x.c) rfl HT.out rfl rfl rfl infoInt1 ?_; intro ws hs; have hs2 : Sep w ws [blk g 38 (rwK x (.slice ra x.to.length rc)), intO (.slice (some ⟨gv, 0, none⟩) n n) ((fillT (l.map Rw.c) 0 k).set k x.c)] := hs; rw [fill_set HCL.out] at hs2; replace HT := Lib.hid hs2; clear hs hs2 y))
      go_roundw
      case rel => exact ⟨k + 1, by go_num, by omega, Lib.hid HT.out.drop⟩
      case measure => simp [intOf]; omega
    · obtain rfl : k = n := by omega
      have HF : Hid (fillT (l.map Rw.c) 0 k = l.map Rw.c) := Lib.hid (fill_done (by rw [HCN.out]; exact Nat.le_refl _))
      rw [HF.out] at HT
      have U1 : Hid True := Lib.hid trivial
      go_wp2_with (clear U1; go_at_call 22; refine (numbered_any _ _ _ (l.map Rw.c) _ (int_rd (HT.out.rd 0 rfl)) (by omega)).mono ?_; rintro e w9 ⟨v, rfl, hs⟩; replace HT := Lib.hid (HT.out.call hs); clear hs)
      go_ret
      exact ⟨_, rfl, HT.out.dropAt 1 (by simp)⟩
end Go.Proofs.Ytomclhbekmcaeaa
