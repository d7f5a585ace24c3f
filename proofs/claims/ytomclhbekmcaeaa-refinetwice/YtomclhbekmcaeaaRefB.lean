/-
  Layer 12: the contracts of slices.Equal of rows of numbers, and of refine.split.
-/
import Derived.Test.YtomclhbekmcaeaaRefA
namespace Go.Proofs.Ytomclhbekmcaeaa
open Go.RowKit

set_option maxHeartbeats 4000000 in
set_option maxRecDepth 100000 in
theorem equal_any (xa : Option Addr) (n xc : Nat) (xs : List Int) (ya : Option Addr) (m yc : Nat) (ys : List Int) (w : World) (hx : RowAt w (.slice xa n xc) (xs.map (.int .i64))) (hy : RowAt w (.slice ya m yc) (ys.map (.int .i64))) (hn : n ≤ 100000) :
    Calls Try.prog 19 #[.slice xa n xc, .slice ya m yc] w fun e w' => ∃ b, e = .returned (.bool b) ∧ (b = true ↔ xs = ys) ∧ New w w' := by
  have hlx := int_len hx
  have hly := int_len hy
  by_cases hnm : n = m
  · subst hnm
    have HX := Lib.hid hx
    have HY := Lib.hid hy
    have HLX := Lib.hid hlx
    have HLY := Lib.hid hly
    clear hx hy hlx hly
    go_enter Try.func19, Try.ntmps19
    go_wp2_with fail
    go_loopw [13] (fun kv wr => ∃ k : Nat, kv = .int .i64 (k : Int) ∧ k ≤ n ∧ Hid (∀ j < k, xs.getD j 0 = ys.getD j 0) ∧ Hid (New w wr)) (fun kv _ => n - (intOf kv).toNat)
    case atStart => exact ⟨0, rfl, by omega, Lib.hid (fun _ h => absurd h (Nat.not_lt_zero _)), Lib.hid (New.refl w)⟩
    case round =>
      obtain ⟨k, rfl, hk, HE, HW⟩ := hrel
      by_cases hkn : k < n
      · obtain ⟨a1, i1, c1⟩ := int_ix HX.out hkn
        obtain ⟨a2, i2, c2⟩ := int_ix HY.out hkn
        obtain ⟨x, HXX⟩ : ∃ x, Hid (xs.getD k 0 = x) := ⟨_, Lib.hid rfl⟩
        obtain ⟨y, HYY⟩ : ∃ y, Hid (ys.getD k 0 = y) := ⟨_, Lib.hid rfl⟩
        rw [HXX.out] at c1
        rw [HYY.out] at c2
        have V1 : ∀ z : NewW wr, z.val.cell? a1 = some (.int .i64 x) := fun z => c1 _ (HW.out.trans z.property)
        have V2 : ∀ z : NewW wr, z.val.cell? a2 = some (.int .i64 y) := fun z => c2 _ (HW.out.trans z.property)
        clear c1 c2
        by_cases hxy : x = y
        · have q1 : (x != y) = false := by simp [hxy]
          have HE2 : Hid (∀ j < k + 1, xs.getD j 0 = ys.getD j 0) := Lib.hid fun j hj => by
            by_cases e : j < k
            · exact HE.out j e
            · obtain rfl : j = k := by omega
              rw [HXX.out, HYY.out, hxy]
          clear hxy
          go_wp2_with fail
          have hne := newW_any wr
          refine wp_region_new (New.refl wr) (by kernel_rfl) (by kernel_rfl) ?_
          repeat (go_big_quiet_step (fail))
          refine wpQuiet_nil ?_
          intro w6 hn6
          go_wp2_with fail
          go_roundw
          case rel => exact ⟨k + 1, by go_num, by omega, HE2, Lib.hid (HW.out.trans hn6)⟩
          case measure => simp [intOf]; omega
        · have q1 : (x != y) = true := by simp [hxy]
          have HD : Hid (xs ≠ ys) := Lib.hid fun e => hxy (by rw [← HXX.out, ← HYY.out, e])
          clear hxy
          go_wp2_with fail
          have hne := newW_any wr
          refine wp_region_new (New.refl wr) (by kernel_rfl) (by kernel_rfl) ?_
          repeat (go_big_quiet_step (fail))
          refine wpQuiet_nil ?_
          intro w6 hn6
          go_wp2_with fail
          go_ret
          exact ⟨false, rfl, ⟨fun h => (by cases h), fun h => absurd h HD.out⟩, HW.out.trans hn6⟩
      · have HA : Hid (xs = ys) := Lib.hid (by
          apply List.ext_getElem (by rw [HLX.out, HLY.out])
          intro j h1 h2
          have := HE.out j (by rw [HLX.out] at h1; omega)
          rw [List.getD_eq_getElem?_getD, List.getD_eq_getElem?_getD, List.getElem?_eq_getElem h1, List.getElem?_eq_getElem h2] at this
          exact this)
        go_wp2_with fail
        go_ret
        exact ⟨true, rfl, ⟨fun _ => HA.out, fun _ => rfl⟩, HW.out⟩
  · have q1 : ((n : Int) != (m : Int)) = true := by simp; omega
    have HD : Hid (xs ≠ ys) := Lib.hid fun e => hnm (by rw [← hlx, ← hly, e])
    clear hx hy hlx hly hnm
    go_enter Try.func19, Try.ntmps19
    go_wp2_with fail
    go_ret
    exact ⟨false, rfl, ⟨fun h => (by cases h), fun h => absurd h HD.out⟩, New.refl w⟩
theorem rwA_at {l : List Rw} {k : Nat} {x : Rw} (h : l[k]? = some x) : rwA l k = x := by
  unfold rwA
  rw [List.getD_eq_getElem?_getD, h]
  rfl
theorem infoLk : (Try.prog.info? 53).map (·.size) = some 3 := by kernel_rfl
theorem lnkK_one (x : Lk) : ∀ v ∈ lnkK x, v.oneCell' = true := by simp [lnkK, Value.oneCell']
theorem zeroLk_run (w : World) : (zeroValue 53).run Try.prog w = .ok (.agg (lnkK (0, (0, 0))).toArray) w := Try.zeroValue53 w
theorem build_Lk (a : Int) (r : Rf) (w : World) : (Instr.build 53 #[(0, .int .i64 a), (1, .agg (refK r).toArray)]).run Try.prog w = .ok (.agg (lnkK (a, r)).toArray) w := run_build w _ _ _ (by kernel_rfl)
set_option maxHeartbeats 16000000 in
set_option maxRecDepth 100000 in
theorem split_any (la : Option Addr) (n lc : Nat) (l : List Rw) (ca : Option Addr) (cc : Nat) (cs : List Int) (w : World) (hr : RowsAt w (.slice la n lc) l) (hc : RowAt w (.slice ca n cc) (cs.map (.int .i64))) (hn : n ≤ 10000) (hto : ∀ x ∈ l, x.to.length ≤ 10000) (hcs : ∀ i < n, 0 ≤ cs.getD i 0 ∧ cs.getD i 0 < (n : Int)) :
    Calls Try.prog 18 #[.slice la n lc, .slice ca n cc] w fun e w' => ∃ v, e = .returned v ∧ Sep w w' [intO v (clsI n (nxtG l cs))] := by
  have hl := Els.len hr
  have HX := Lib.hid hr
  have HCS := Lib.hid hc
  have HN := Lib.hid hl
  have HTO := Lib.hid hto
  have HCB := Lib.hid hcs
  have HS := Lib.hid (Sep.start w)
  have HE0 : Hid (EndsR l cs 0 [] (List.replicate n 0)) := Lib.hid (by rw [← hl]; exact ends_0 l cs)
  clear hr hc hl hto hcs
  have T1 : Hid True := Lib.hid trivial
  have T2 : Hid True := Lib.hid trivial
  go_enter Try.func18, Try.ntmps18
  go_wp2_with (first
    | (clear T1; refine wpList_mkG (K := lnkV) (B := n) rfl 50 rfl HS.out ?_; intro wm mo hs; replace HS := Lib.hid hs; clear hs)
    | (clear T2; at_make; refine wpList_mk1 rfl (.tmp 17) (.tmp 17) 25 3 rfl Try.underlying25 infoInt3 rfl (by decide) n rfl rfl (by omega) HS.out (E := leafE fun a => [.int .i64 a]) (x0 := 0) ints_0 ?_; intro wb gv hs; replace HS := Lib.hid hs; clear hs))
  go_loopw [21] (fun kv wr => ∃ (k : Nat) (ks : List Lk) (es : List Int), kv = .int .i64 (k : Int) ∧ k ≤ n ∧ Hid (EndsR l cs k ks es) ∧ Hid (Sep w wr [intO (.slice (some ⟨gv, 0, none⟩) n n) es, objA mo (mapG lnkV n ks)]))  (fun kv _ => n - (intOf kv).toNat)
  case atStart => exact ⟨0, [], _, rfl, by omega, HE0, HS⟩
  case round =>
    obtain ⟨k, ks, es, rfl, hk, HER, HT⟩ := hrel
    clear HS HE0
    by_cases hkn : k < n
    · obtain ⟨x, hx⟩ : ∃ x, l[k]? = some x := ⟨_, List.getElem?_eq_getElem (by rw [HN.out]; exact hkn)⟩
      obtain ⟨b, o, ra, rc, hix, hrg, hrf⟩ := RowsAt.ix (P := Try.prog) HX.out 22 Try.underlying22 sizeRw hx
      obtain ⟨ad, hixc, hcell⟩ := int_ix HCS.out hkn
      have HXK := Lib.hid (rwA_at hx)
      have hM := HTO.out x (List.mem_of_getElem? hx)
      obtain ⟨M, HM0⟩ : ∃ M, Hid (x.to.length = M) := ⟨_, Lib.hid rfl⟩
      rw [HM0.out] at hrg hrf hM
      obtain ⟨c0, HC0⟩ : ∃ c0, Hid (cs.getD k 0 = c0) := ⟨_, Lib.hid rfl⟩
      rw [HC0.out] at hcell
      have HEE := Lib.hid (end_0 HER.out (HCB.out k hkn).1 (by rw [HN.out]; exact (HCB.out k hkn).2))
      rw [HC0.out] at HEE
      have HEL : Hid (es.length = n) := Lib.hid (by rw [HER.out.2.1, HN.out])
      have HG := Lib.hid hrg
      have HRF := Lib.hid hrf
      have HC := Lib.hid hcell
      have hix2 := ixInt gv k n n hkn
      clear hx hrg hrf hcell
      have V1 : Hid True := Lib.hid trivial
      have V2 : Hid True := Lib.hid trivial
      have V3 : Hid True := Lib.hid trivial
      go_wp2_with (first
        | (clear V1; refine wpList_load_mid rfl 38 (.tmp 24) rfl b o rfl (rwK x (.slice ra M rc)) _ (HG.out _ HT.out.nw) Try.underlying38 rfl infoRw ?_)
        | (clear V2; refine wpList_alB rfl 38 rfl _ zeroRw_run _ rfl HT.out ?_; intro wa g hs; replace HT := Lib.hid hs; clear hs)
        | (clear V3; refine wpList_stSW 0 rfl rfl 38 (.tmp 8) (.tmp 25) rfl g rfl _ rfl HT.out rfl (rwK x (.slice ra M rc)) rfl rfl (rwK_one x rfl) infoRw ?_; intro we hs; replace HT := Lib.hid hs; have y1 := HT.out.cell 0 rfl (k := 1) rfl; have y2 := HC.out _ HT.out.nw; clear hs))
      go_loopw [9, 33] (fun ev mv wq => ∃ (m : Nat) (e : Int) (ks2 : List Lk), ev = .int .i64 e ∧ mv = .int .i64 (m : Int) ∧ m ≤ M ∧ Hid (EndR l cs k m ks2 es e) ∧ Hid (Sep w wq [blk g 38 (rwK x (.slice ra M rc)), intO (.slice (some ⟨gv, 0, none⟩) n n) es, objA mo (mapG lnkV n ks2)])) (fun _ mv _ => M - (intOf mv).toNat)
      case atStart => exact ⟨0, c0, ks, rfl, rfl, by omega, HEE, HT⟩
      case round =>
        obtain ⟨m, e, ks2, rfl, rfl, hm, HED, HU⟩ := hrel
        clear HT y1 y2 HEE
        by_cases hmM : m < M
        · obtain ⟨r, hr⟩ : ∃ r, x.to[m]? = some r := ⟨_, List.getElem?_eq_getElem (by rw [HM0.out]; exact hmM)⟩
          obtain ⟨b3, o3, hix3, hrg3⟩ := RefsAt.ix (P := Try.prog) HRF.out 36 Try.underlying36 sizeRf hr
          have HG3 := Lib.hid hrg3
          have HR3 : Hid ((rwA l k).to[m]? = some r) := Lib.hid (by rw [HXK.out]; exact hr)
          obtain ⟨sr, HSR⟩ : ∃ sr, Hid (seenA cs r = sr) := ⟨_, Lib.hid rfl⟩
          obtain ⟨L, HLN⟩ : ∃ L, Hid (ks2.length = L) := ⟨_, Lib.hid rfl⟩
          have hL : L ≤ 100010000 := by have := HED.out.1; rw [HLN.out] at this; omega
          clear hr hrg3
          by_cases hmem : (e, sr) ∈ ks2
          · have HM := Lib.hid hmem
            have HED2 := Lib.hid (end_met HED.out HR3.out (by rw [HSR.out]; exact idx_mem hmem))
            rw [HN.out] at HED2
            obtain ⟨v, HV⟩ : ∃ v : Int, Hid (((n + @List.idxOf Lk instBEqOfDecidableEq (e, sr) ks2 : Nat) : Int) = v) := ⟨_, Lib.hid rfl⟩
            rw [HV.out] at HED2
            clear hmem
            have A1 : Hid True := Lib.hid trivial
            have A2 : Hid True := Lib.hid trivial
            have A3 : Hid True := Lib.hid trivial
            have A4 : Hid True := Lib.hid trivial
            have A5 : Hid True := Lib.hid trivial
            have A6 : Hid True := Lib.hid trivial
            have A7 : Hid True := Lib.hid trivial
            have A8 : Hid True := Lib.hid trivial
            have A9 : Hid True := Lib.hid trivial
            go_wp2_with (first
              | (clear A1; refine wpList_load_mid rfl 40 (.tmp 35) rfl b3 o3 rfl (refK r) _ (HG3.out _ HU.out.nw) Try.underlying40 rfl infoRf12 ?_)
              | (clear A2; refine wpList_alB rfl 40 rfl _ zeroRf_run _ rfl HU.out ?_; intro wf gr hs; replace HU := Lib.hid hs; clear hs)
              | (clear A3; refine wpList_stSW 0 rfl rfl 40 (.tmp 11) (.tmp 36) rfl gr rfl _ rfl HU.out rfl (refK r) rfl rfl (refK_one _) infoRf12 ?_; intro wg hs; replace HU := Lib.hid hs; clear hs)
              | (clear A4; refine wpList_load_mid rfl 40 (.tmp 11) rfl gr 0 rfl (refK r) _ (HasC.all (HU.out.has 0 rfl)) Try.underlying40 rfl infoRf12 ?_)
              | (clear A5; go_at_call 23; refine (seen_any r ca n cc cs _ (HCS.out.new HU.out.nw)).mono ?_; rw [HSR.out]; rintro e2 wh ⟨rfl, hn⟩; replace HU := Lib.hid (HU.out.go hn); clear hn)
              | (clear A6; refine wpList_bd2 (a := (.int .i64 e)) (b := (.agg (refK sr).toArray)) rfl 53 0 1 (.tmp 37) (.tmp 40) rfl rfl rfl (build_Lk e sr) ?_)
              | (clear A7; refine wpList_alB rfl 53 rfl _ zeroLk_run _ rfl HU.out ?_; intro wi gl hs; replace HU := Lib.hid hs; clear hs)
              | (clear A8; refine wpList_stSW 0 rfl rfl 53 (.tmp 12) (.tmp 41) rfl gl rfl _ rfl HU.out rfl (lnkK (e, sr)) rfl rfl (lnkK_one _) infoLk ?_; intro wj hs; replace HU := Lib.hid hs; have LK := run_lookG (P := Try.prog) (t := 50) (kt := 53) (et := 3) (K := lnkV) (B := n) (e, sr) (by kernel_rfl) Try.zeroValue3 (HU.out.obj 4 rfl) (fun em => chk_lk em (e, sr) _) (lk_key (e, sr) ks2 _); rw [if_pos HM.out, HV.out] at LK; clear hs)
              | (clear A9; refine wpList_load_mid rfl 53 (.tmp 12) rfl gl 0 rfl (lnkK (e, sr)) _ (HasC.all (HU.out.has 0 rfl)) Try.underlying53 rfl infoLk ?_))
            go_roundw
            case rel => exact ⟨m + 1, v, ks2, rfl, by go_num, by omega, HED2, Lib.hid HU.out.drop.drop⟩
            case measure => simp [intOf]; omega
          · have HM := Lib.hid hmem
            have HED2 := Lib.hid (end_new HED.out HR3.out (by rw [HSR.out]; exact hmem))
            rw [HSR.out, HN.out, HLN.out] at HED2
            have HVL : Hid ((n : Int) + (L : Int) = ((n + ks2.length : Nat) : Int)) := Lib.hid (by rw [HLN.out]; omega)
            have HVN : Hid (((n + L : Nat) : Int) = (n : Int) + (L : Int)) := Lib.hid (by omega)
            rw [HVN.out] at HED2
            clear hmem
            have B1 : Hid True := Lib.hid trivial
            have B2 : Hid True := Lib.hid trivial
            have B3 : Hid True := Lib.hid trivial
            have B4 : Hid True := Lib.hid trivial
            have B5 : Hid True := Lib.hid trivial
            have B6 : Hid True := Lib.hid trivial
            have B7 : Hid True := Lib.hid trivial
            have B8 : Hid True := Lib.hid trivial
            have B9 : Hid True := Lib.hid trivial
            have B10 : Hid True := Lib.hid trivial
            have B11 : Hid True := Lib.hid trivial
            go_wp2_with (first
              | (clear B1; refine wpList_load_mid rfl 40 (.tmp 35) rfl b3 o3 rfl (refK r) _ (HG3.out _ HU.out.nw) Try.underlying40 rfl infoRf12 ?_)
              | (clear B2; refine wpList_alB rfl 40 rfl _ zeroRf_run _ rfl HU.out ?_; intro wf gr hs; replace HU := Lib.hid hs; clear hs)
              | (clear B3; refine wpList_stSW 0 rfl rfl 40 (.tmp 11) (.tmp 36) rfl gr rfl _ rfl HU.out rfl (refK r) rfl rfl (refK_one _) infoRf12 ?_; intro wg hs; replace HU := Lib.hid hs; clear hs)
              | (clear B4; refine wpList_load_mid rfl 40 (.tmp 11) rfl gr 0 rfl (refK r) _ (HasC.all (HU.out.has 0 rfl)) Try.underlying40 rfl infoRf12 ?_)
              | (clear B5; go_at_call 23; refine (seen_any r ca n cc cs _ (HCS.out.new HU.out.nw)).mono ?_; rw [HSR.out]; rintro e2 wh ⟨rfl, hn⟩; replace HU := Lib.hid (HU.out.go hn); clear hn)
              | (clear B6; refine wpList_bd2 (a := (.int .i64 e)) (b := (.agg (refK sr).toArray)) rfl 53 0 1 (.tmp 37) (.tmp 40) rfl rfl rfl (build_Lk e sr) ?_)
              | (clear B7; refine wpList_alB rfl 53 rfl _ zeroLk_run _ rfl HU.out ?_; intro wi gl hs; replace HU := Lib.hid hs; clear hs)
              | (clear B8; refine wpList_stSW 0 rfl rfl 53 (.tmp 12) (.tmp 41) rfl gl rfl _ rfl HU.out rfl (lnkK (e, sr)) rfl rfl (lnkK_one _) infoLk ?_; intro wj hs; replace HU := Lib.hid hs; have LK := run_lookG (P := Try.prog) (t := 50) (kt := 53) (et := 3) (K := lnkV) (B := n) (e, sr) (by kernel_rfl) Try.zeroValue3 (HU.out.obj 4 rfl) (fun em => chk_lk em (e, sr) _) (lk_key (e, sr) ks2 _); rw [if_neg HM.out] at LK; have LM := lenG (w := wj) 50 3 (by kernel_rfl) (HU.out.obj 4 rfl); rw [HLN.out] at LM; clear hs)
              | (clear B9; refine wpList_load_mid rfl 53 (.tmp 12) rfl gl 0 rfl (lnkK (e, sr)) _ (HasC.all (HU.out.has 0 rfl)) Try.underlying53 rfl infoLk ?_)
              | (clear B10; refine wpList_load_mid rfl 53 (.tmp 12) rfl gl 0 rfl (lnkK (e, sr)) _ (HasC.all (HU.out.has 0 rfl)) Try.underlying53 rfl infoLk ?_)
              | (clear B11; refine wpList_numG (K := lnkV) (B := n) 4 rfl rfl 50 53 3 (.tmp 55) (.tmp 56) (.tmp 57) rfl mo rfl (e, sr) rfl _ rfl (by kernel_rfl) HU.out rfl HVL.out HM.out (fun em w => chk_lk em (e, sr) w) (fun w => lk_key (e, sr) ks2 w) ?_; intro wk hs; have hs2 : Sep w wk [blk gl 53 (lnkK (e, sr)), blk gr 40 (refK r), blk g 38 (rwK x (.slice ra M rc)), intO (.slice (some ⟨gv, 0, none⟩) n n) es, objA mo (mapG lnkV n (ks2 ++ [(e, sr)]))] := hs; replace HU := Lib.hid hs2; clear hs hs2 LK LM))
            go_roundw
            case rel => exact ⟨m + 1, _, ks2 ++ [(e, sr)], rfl, by go_num, by omega, HED2, Lib.hid HU.out.drop.drop⟩
            case measure => simp [intOf]; omega
        · have HED2 := Lib.hid (by
            have h1 := HED.out
            rw [show m = (rwA l k).to.length by rw [HXK.out, HM0.out]; omega] at h1
            exact end_all h1 (by rw [HN.out]; exact hkn) (by rw [HXK.out, HM0.out]; exact hM))
          have C1 : Hid True := Lib.hid trivial
          go_wp2_with (clear C1; refine wpList_stL 1 rfl rfl 3 (.tmp 63) (.tmp 62) rfl gv n n k (by rw [HEL.out]; exact hkn) rfl (y := e) rfl HU.out rfl rfl rfl infoInt1 ?_; intro ws hs; have hs2 : Sep w ws [blk g 38 (rwK x (.slice ra M rc)), intO (.slice (some ⟨gv, 0, none⟩) n n) (es.set k e), objA mo (mapG lnkV n ks2)] := hs; replace HU := Lib.hid hs2; clear hs hs2)
          go_roundw
          case rel => exact ⟨k + 1, ks2, _, by go_num, by omega, HED2, Lib.hid HU.out.drop⟩
          case measure => simp [intOf]; omega
    · obtain rfl : k = n := by omega
      have HEND : Hid (numL es = clsI k (nxtG l cs)) := Lib.hid (by
        have h1 := HER.out
        rw [← HN.out] at h1 ⊢
        exact ends_num h1)
      have HEL : Hid (es.length = k) := Lib.hid (by rw [HER.out.2.1, HN.out])
      have D1 : Hid True := Lib.hid trivial
      go_wp2_with (clear D1; go_at_call 22; refine (numbered_any _ _ _ es _ (int_rd (HT.out.rd 0 rfl)) (by omega)).mono ?_; rw [HEND.out]; rintro e9 w9 ⟨v, rfl, hs⟩; replace HT := Lib.hid (HT.out.call hs); clear hs)
      go_ret
      exact ⟨_, rfl, (HT.out.dropAt 1 (by simp)).dropAt 1 (by simp)⟩
end Go.Proofs.Ytomclhbekmcaeaa
