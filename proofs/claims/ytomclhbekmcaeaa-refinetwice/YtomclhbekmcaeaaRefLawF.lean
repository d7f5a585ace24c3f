/-
  'RefineTwice': of things that are there twice each can't be told from its first one: true, for every input.
-/
import Derived.Test.YtomclhbekmcaeaaRefGr
import Derived.Test.YtomclhbekmcaeaaRefKn
import Derived.Deep.CutRange
namespace Go.Proofs.Ytomclhbekmcaeaa
open Go.RowKit

def shT (n t : Nat) (r : Rf) : Rf := if r.1 = 0 then (r.1, r.2 + ((t * n : Nat) : Int)) else r
def shW (n t : Nat) (x : Rw) : Rw := ⟨x.c, x.to.map (shT n t)⟩
/-- What has been laid: t copies, and i things of the next one. -/
def allP (l : List Rw) (t i : Nat) : List Rw := ((List.range t).flatMap fun s => l.map (shW l.length s)) ++ (l.take i).map (shW l.length t)
theorem allP_len (l : List Rw) (t i : Nat) : (allP l t i).length ≤ t * l.length + l.length := by
  unfold allP
  rw [List.length_append, List.length_map, List.length_take]
  have : ((List.range t).flatMap fun s => l.map (shW l.length s)).length = t * l.length := by
    induction t with
    | zero => simp
    | succ t ih => rw [List.range_succ, List.flatMap_append, List.length_append, ih]; simp [Nat.succ_mul]
  omega
theorem allP_0 (l : List Rw) : allP l 0 0 = [] := rfl
theorem allP_more (l : List Rw) (t : Nat) {i : Nat} {x : Rw} (h : l[i]? = some x) : allP l t i ++ [shW l.length t x] = allP l t (i + 1) := by
  unfold allP
  rw [List.take_add_one, h, List.append_assoc, List.map_append]
  rfl
theorem allP_next (l : List Rw) (t : Nat) : allP l t l.length = allP l (t + 1) 0 := by
  unfold allP
  rw [List.take_length, List.take_zero, List.map_nil, List.append_nil, List.range_succ, List.flatMap_append]
  simp
theorem shT_0 (n : Nat) (r : Rf) : shT n 0 r = r := by
  unfold shT
  split
  · rw [Nat.zero_mul]
    exact Prod.ext rfl (by show r.2 + ((0 : Nat) : Int) = r.2; omega)
  · rfl
theorem shW_0 (n : Nat) (x : Rw) : shW n 0 x = x := by
  unfold shW
  rw [show x.to.map (shT n 0) = x.to from by rw [show shT n 0 = id from funext (shT_0 n), List.map_id]]
theorem shW_1 (n : Nat) (x : Rw) : shW n 1 x = shR n x := by
  unfold shW shR
  congr 1
  refine List.map_congr_left fun r _ => ?_
  unfold shT
  rw [Nat.one_mul]
theorem allP_2 (l : List Rw) : allP l 2 0 = dblL l := by
  unfold allP dblL
  rw [List.take_zero, List.map_nil, List.append_nil]
  show l.map (shW l.length 0) ++ (l.map (shW l.length 1) ++ []) = _
  rw [List.append_nil, show shW l.length 0 = id from funext (shW_0 _), List.map_id, show shW l.length 1 = shR l.length from funext (shW_1 _)]
def OkR (n : Nat) (r : Rf) : Prop := r.1 = 0 → 0 ≤ r.2 ∧ r.2 < n
def OkP (l : List Rw) (t i : Nat) : Prop := (0 < t → ∀ x ∈ l, ∀ r ∈ x.to, OkR l.length r) ∧ ∀ x ∈ l.take i, ∀ r ∈ x.to, OkR l.length r
theorem okP_0 (l : List Rw) : OkP l 0 0 := ⟨fun h => absurd h (Nat.lt_irrefl _), fun x h => by simp at h⟩
theorem okP_more {l : List Rw} {t i : Nat} {x : Rw} (h : OkP l t i) (hx : l[i]? = some x) (ho : ∀ r ∈ x.to, OkR l.length r) : OkP l t (i + 1) := by
  refine ⟨h.1, fun y hy => ?_⟩
  rw [List.take_add_one, hx] at hy
  rcases List.mem_append.mp hy with h1 | h1
  · exact h.2 y h1
  · have : y = x := by simpa using h1
    rw [this]
    exact ho
theorem okP_next {l : List Rw} {t : Nat} (h : OkP l t l.length) : OkP l (t + 1) 0 := by
  refine ⟨fun _ => ?_, fun x hx => by simp at hx⟩
  have h1 := h.2
  rwa [List.take_length] at h1
theorem dbl_get {l : List Rw} (h : ∀ x ∈ l, ∀ r ∈ x.to, OkR l.length r) {i : Nat} (hi : i < l.length) : (clsL (dblL l)).getD i 0 = (clsL l).getD i 0 ∧ (clsL (dblL l)).getD (i + l.length) 0 = (clsL l).getD i 0 := by
  have hm : ∀ a < l.length, rwA l a ∈ l := fun a ha => by
    rw [rwA_at (List.getElem?_eq_getElem ha)]
    exact List.getElem_mem ha
  obtain ⟨e1, e2⟩ := dbl_cls (fun a ha r hr => h _ (hm a ha) r hr) (smB_tbl l) (smB_tbl (dblL l)) hi
  have hl := dbl_len l
  unfold clsL
  rw [clsI_get _ (show i < (dblL l).length by omega), clsI_get _ (show i + l.length < (dblL l).length by omega), clsI_get _ hi, e1, Nat.add_comm i, e2]
  exact ⟨rfl, rfl⟩
theorem infoN64 : (Try.prog.info? 2).map (·.size) = some 1 := by kernel_rfl
theorem infoRfs : (Try.prog.info? 36).map (·.size) = some 1 := by kernel_rfl
set_option maxHeartbeats 16000000 in
set_option maxRecDepth 100000 in
theorem refineTwice_walk (la : Option Addr) (n lc : Nat) (l : List Rw) (w : World) (hr : RowsAt w (.slice la n lc) l) (hm : n ≤ maxLen) :
    Calls Try.prog 8 #[.slice la n lc] w fun e w' => e = .returned (.bool true) ∧ New w w' := by
  have hl := Els.len hr
  have HX := Lib.hid hr
  have HN := Lib.hid hl
  have HS := Lib.hid (Sep.start w)
  clear hr hl
  by_cases hgr : n ≤ 60 ∧ ∀ x ∈ l, x.to.length ≤ 20
  case neg =>
    have HG := Lib.hid hgr
    clear hgr
    have T1 : Hid True := Lib.hid trivial
    have T2 : Hid True := Lib.hid trivial
    go_enter Try.func8, Try.ntmps8
    go_wp2_with (first
      | (clear T1; go_at_call 9; refine (great12_any la n lc l _ (HX.out.nw HS.out.nw) hm).mono ?_; rintro e w1 ⟨bb, rfl, hb, hn1⟩; obtain rfl : bb = true := (by cases bb with | true => rfl | false => exact absurd (hb.mp rfl) HG.out); replace HS := Lib.hid (HS.out.go hn1); clear hb hn1)
      | (clear T2; go_at_call 10; refine (knows_from12 _ HS.out.nw).mono ?_; rintro e wk ⟨rfl, hnk⟩))
    go_ret
    exact ⟨rfl, hnk⟩
  have HTO : Hid (∀ x ∈ l, x.to.length ≤ 10000) := Lib.hid fun x hx => Nat.le_trans (hgr.2 x hx) (by decide)
  have hn2 : n ≤ 10000 := by omega
  have HG := Lib.hid hgr
  clear hgr
  by_cases h30 : n ≤ 30
  case neg =>
    have d1 : decide ((30 : Int) < (n : Int)) = true := decide_eq_true (by omega)
    clear h30
    have N1 : Hid True := Lib.hid trivial
    have N2 : Hid True := Lib.hid trivial
    go_enter Try.func8, Try.ntmps8
    go_wp2_with (first
      | (clear N1; go_at_call 9; refine (great12_any la n lc l _ (HX.out.nw HS.out.nw) hm).mono ?_; rintro e w1 ⟨bb, rfl, hb, hn1⟩; obtain rfl : bb = false := hb.mpr HG.out; replace HS := Lib.hid (HS.out.go hn1); clear hb hn1)
      | (clear N2; go_at_call 10; refine (knows_from12 _ HS.out.nw).mono ?_; rintro e wk ⟨rfl, hnk⟩))
    go_ret
    exact ⟨rfl, hnk⟩
  have d1 : decide ((30 : Int) < (n : Int)) = false := decide_eq_false (by omega)
  have G1 : Hid True := Lib.hid trivial
  go_enter Try.func8, Try.ntmps8
  go_wp2_with (clear G1; go_at_call 9; refine (great12_any la n lc l _ (HX.out.nw HS.out.nw) hm).mono ?_; rintro e w1 ⟨bb, rfl, hb, hn1⟩; obtain rfl : bb = false := hb.mpr HG.out; replace HS := Lib.hid (HS.out.go hn1); clear hb hn1)
  have HS2 := Lib.hid (HS.out.row0 38 2 (rwE12 40))
  clear HS
  go_loopw [4, 5] (fun ov tv wr => ∃ (t : Nat) (vo : Value), vo = ov ∧ tv = .int .i64 (t : Int) ∧ t ≤ 2 ∧ Hid (OkP l t 0) ∧ Hid (Sep w wr [rowsO 38 40 vo (allP l t 0)])) (fun _ tv _ => 2 - (intOf tv).toNat)
  case atStart => exact ⟨0, _, rfl, rfl, by omega, Lib.hid (okP_0 l), HS2⟩
  case round =>
    clear HS2
    obtain ⟨t, vo, rfl, htv, ht, HOK, HT⟩ := hrel
    match t, ht with
    | 0, _ =>
      rw [show ((0 : Nat) : Int) = 0 from rfl] at htv
      subst htv
      go_wp2_with fail
      go_loopw [4, 6] (fun ov iv wq => ∃ (i : Nat) (vo : Value), vo = ov ∧ iv = .int .i64 (i : Int) ∧ i ≤ n ∧ Hid (OkP l 0 i) ∧ Hid (Sep w wq [rowsO 38 40 vo (allP l 0 i)])) (fun _ iv _ => n - (intOf iv).toNat)
      case atStart => exact ⟨0, _, rfl, rfl, by omega, HOK, HT⟩
      case round =>
        clear HT HOK
        obtain ⟨i, vo, rfl, rfl, hi, HOK, HT⟩ := hrel
        by_cases hin : i < n
        · obtain ⟨x, hx⟩ : ∃ x, l[i]? = some x := ⟨_, List.getElem?_eq_getElem (by rw [HN.out]; exact hin)⟩
          obtain ⟨b, o, ra, rc, hix, hrg, hrf⟩ := RowsAt.ix (P := Try.prog) HX.out 22 Try.underlying22 sizeRw hx
          have hM := HTO.out x (List.mem_of_getElem? hx)
          have HXS : Hid (allP l 0 i ++ [shW n 0 x] = allP l 0 (i + 1)) := Lib.hid (by rw [← HN.out]; exact allP_more l 0 hx)
          have HLK : Hid ((allP l 0 i).length ≤ 100000) := Lib.hid (by have := allP_len l 0 i; rw [HN.out] at this; omega)
          have HOKM : Hid ((∀ r ∈ x.to, OkR n r) → OkP l 0 (i + 1)) := Lib.hid fun e => okP_more HOK.out hx (by rw [HN.out]; exact e)
          obtain ⟨M, HM0⟩ : ∃ M, Hid (x.to.length = M) := ⟨_, Lib.hid rfl⟩
          rw [HM0.out] at hrg hrf hM
          have HG := Lib.hid hrg
          have HRF := Lib.hid hrf
          have c0 := hrg _ HT.out.nw 0 _ rfl
          rw [Nat.add_zero] at c0
          clear hx hrg hrf
          have A1 : Hid True := Lib.hid trivial
          have A2 : Hid True := Lib.hid trivial
          have A3 : Hid True := Lib.hid trivial
          go_wp2_with (first
            | (clear A1; refine wpList_bd1 (a := .int .i64 x.c) rfl 38 0 (.tmp 37) rfl rfl (build_Rw1 x) ?_)
            | (clear A2; refine wpList_alB rfl 38 rfl _ zeroRw_run _ rfl HT.out ?_; intro w1 g7 hs; replace HT := Lib.hid hs; clear hs c0)
            | (clear A3; refine wpList_stSW 0 rfl rfl 38 (.tmp 7) (.tmp 38) rfl g7 rfl _ rfl HT.out rfl (rwK x (.slice none 0 0)) rfl rfl (rwK_one x rfl) infoRw ?_; intro w2 hs; replace HT := Lib.hid hs; clear hs))
          go_loopw [8] (fun kv wz => ∃ (k : Nat) (u : Value), kv = .int .i64 (k : Int) ∧ k ≤ M ∧ Hid (∀ r ∈ x.to.take k, OkR n r) ∧ Hid (Sep w wz [blk g7 38 (rwK x u), refsO 40 u ((x.to.take k).map (shT n 0)), rowsO 38 40 vo (allP l 0 i)])) (fun kv _ => M - (intOf kv).toNat)
          case atStart => exact ⟨0, .slice none 0 0, rfl, by omega, Lib.hid (fun r h => by simp at h), Lib.hid ((HT.out.row0 40 2 (leafE refK)).pull 1 rfl)⟩
          case round =>
            clear HT
            obtain ⟨k, u, rfl, hk, HRO, HU⟩ := hrel
            have c1 := HG.out _ HU.out.nw 1 _ rfl
            by_cases hkM : k < M
            · obtain ⟨r, hr⟩ : ∃ r, x.to[k]? = some r := ⟨_, List.getElem?_eq_getElem (by rw [HM0.out]; exact hkM)⟩
              obtain ⟨b3, o3, hix3, hrg3⟩ := RefsAt.ix (P := Try.prog) HRF.out 36 Try.underlying36 sizeRf hr
              have HG3 := Lib.hid hrg3
              have HTK : Hid (x.to.take (k + 1) = x.to.take k ++ [r]) := Lib.hid (by rw [List.take_add_one, hr]; rfl)
              have HLO : Hid (((x.to.take k).map (shT n 0)).length ≤ 100000) := Lib.hid (by rw [List.length_map, List.length_take]; omega)
              obtain ⟨ua, uc, hvo⟩ := rowA_form (HU.out.rd 1 rfl)
              obtain ⟨Q, HQ⟩ : ∃ Q, Hid (((x.to.take k).map (shT n 0)).length = Q) := ⟨_, Lib.hid rfl⟩
              rw [HQ.out] at hvo
              subst hvo
              obtain ⟨Q2, HQ2⟩ : ∃ Q2, Hid (((x.to.take (k + 1)).map (shT n 0)).length = Q2) := ⟨_, Lib.hid rfl⟩
              have HOKR : Hid (OkR n r → Hid (∀ r ∈ x.to.take (k + 1), OkR n r)) := Lib.hid fun e => Lib.hid fun q hq => by
                rw [HTK.out] at hq
                rcases List.mem_append.mp hq with h1 | h1
                · exact HRO.out q h1
                · have : q = r := by simpa using h1
                  rw [this]
                  exact e
              clear hr hrg3
              by_cases h0 : r.1 = 0
              · have q0 : (r.1 == 0) = true := beq_of h0
                by_cases h1 : r.2 < 0
                · have d1 : decide (r.2 < 0) = true := decide_eq_true h1
                  clear h0 h1
                  have B1 : Hid True := Lib.hid trivial
                  have B2 : Hid True := Lib.hid trivial
                  have B3 : Hid True := Lib.hid trivial
                  have B4 : Hid True := Lib.hid trivial
                  go_wp2_with (first
                    | (clear B1; refine wpList_load_mid rfl 40 (.tmp 55) rfl b3 o3 rfl (refK r) _ (HG3.out _ HU.out.nw) Try.underlying40 rfl infoRf12 ?_)
                    | (clear B2; refine wpList_alB rfl 40 rfl _ zeroRf_run _ rfl HU.out ?_; intro wa g9 hs; replace HU := Lib.hid hs; clear hs)
                    | (clear B3; refine wpList_stSW 0 rfl rfl 40 (.tmp 9) (.tmp 56) rfl g9 rfl _ rfl HU.out rfl (refK r) rfl rfl (refK_one _) infoRf12 ?_; intro wb hs; replace HU := Lib.hid hs; have z0 := HU.out.cell 0 rfl (k := 0) rfl; have z1 := HU.out.cell 0 rfl (k := 1) rfl; have z2 := HU.out.cell 1 rfl (k := 1) rfl; clear hs)
                    | (clear B4; go_at_call 10; refine (knows_from12 _ HU.out.nw).mono ?_; rintro e wk ⟨rfl, hnk⟩))
                  go_ret
                  exact ⟨rfl, hnk⟩
                · have d1 : decide (r.2 < 0) = false := decide_eq_false h1
                  by_cases h2 : (n : Int) ≤ r.2
                  · have d2 : decide ((n : Int) ≤ r.2) = true := decide_eq_true h2
                    clear h0 h1 h2
                    have B1 : Hid True := Lib.hid trivial
                    have B2 : Hid True := Lib.hid trivial
                    have B3 : Hid True := Lib.hid trivial
                    have B4 : Hid True := Lib.hid trivial
                    go_wp2_with (first
                      | (clear B1; refine wpList_load_mid rfl 40 (.tmp 55) rfl b3 o3 rfl (refK r) _ (HG3.out _ HU.out.nw) Try.underlying40 rfl infoRf12 ?_)
                      | (clear B2; refine wpList_alB rfl 40 rfl _ zeroRf_run _ rfl HU.out ?_; intro wa g9 hs; replace HU := Lib.hid hs; clear hs)
                      | (clear B3; refine wpList_stSW 0 rfl rfl 40 (.tmp 9) (.tmp 56) rfl g9 rfl _ rfl HU.out rfl (refK r) rfl rfl (refK_one _) infoRf12 ?_; intro wb hs; replace HU := Lib.hid hs; have z0 := HU.out.cell 0 rfl (k := 0) rfl; have z1 := HU.out.cell 0 rfl (k := 1) rfl; have z2 := HU.out.cell 1 rfl (k := 1) rfl; clear hs)
                      | (clear B4; go_at_call 10; refine (knows_from12 _ HU.out.nw).mono ?_; rintro e wk ⟨rfl, hnk⟩))
                    go_ret
                    exact ⟨rfl, hnk⟩
                  · have d2 : decide ((n : Int) ≤ r.2) = false := decide_eq_false h2
                    have HOK2 := HOKR.out fun _ => ⟨by omega, by omega⟩
                    have HO : Hid ((x.to.take k).map (shT n 0) ++ [(r.1, r.2)] = (x.to.take (k + 1)).map (shT n 0)) := Lib.hid (by
                      rw [HTK.out, List.map_append]
                      congr 1
                      show [(r.1, r.2)] = [shT n 0 r]
                      unfold shT
                      rw [if_pos h0]
                      simp)
                    have hlo : 0 ≤ r.2 := by omega
                    have hhi : r.2 < (n : Int) := by omega
                    clear h0 h1 h2
                    have D1 : Hid True := Lib.hid trivial
                    have D2 : Hid True := Lib.hid trivial
                    have D3 : Hid True := Lib.hid trivial
                    have D4 : Hid True := Lib.hid trivial
                    have D5 : Hid True := Lib.hid trivial
                    have D6 : Hid True := Lib.hid trivial
                    have D7 : Hid True := Lib.hid trivial
                    have D8 : Hid True := Lib.hid trivial
                    go_wp2_with (first
                      | (clear D1; refine wpList_load_mid rfl 40 (.tmp 55) rfl b3 o3 rfl (refK r) _ (HG3.out _ HU.out.nw) Try.underlying40 rfl infoRf12 ?_)
                      | (clear D2; refine wpList_alB rfl 40 rfl _ zeroRf_run _ rfl HU.out ?_; intro wa g9 hs; replace HU := Lib.hid hs; clear hs)
                      | (clear D3; refine wpList_stSW 0 rfl rfl 40 (.tmp 9) (.tmp 56) rfl g9 rfl _ rfl HU.out rfl (refK r) rfl rfl (refK_one _) infoRf12 ?_; intro wb hs; replace HU := Lib.hid hs; have z0 := HU.out.cell 0 rfl (k := 0) rfl; have z1 := HU.out.cell 0 rfl (k := 1) rfl; have z2 := HU.out.cell 1 rfl (k := 1) rfl; clear hs)
                      | (clear D4; refine wpList_stC1 0 (by rfl) (by rfl) 2 (.tmp 81) (.tmp 80) (by rfl) g9 1 (by rfl) (.int .i64 r.2) (by rfl) HU.out rfl rfl (by simp [refK]) rfl infoN64 ?_; intro wc hs; have hs2 : Sep w wc [blk g9 40 (refK (r.1, r.2)), blk g7 38 (rwK x (.slice ua Q uc)), refsO 40 (.slice ua Q uc) ((x.to.take k).map (shT n 0)), rowsO 38 40 vo (allP l 0 i)] := hs; replace HU := Lib.hid hs2; clear hs hs2 z0 z1; have z2 := HU.out.cell 1 rfl (k := 1) rfl)
                      | (clear D5; refine wpList_load_mid rfl 40 (.tmp 9) rfl g9 0 rfl (refK (r.1, r.2)) _ (HasC.all (HU.out.has 0 rfl)) Try.underlying40 rfl infoRf12 ?_)
                      | (clear D6; refine wpList_bsB (by rfl) 36 40 (.tmp 84) (by rfl) Try.underlying36 infoRf3 (by decide) (by decide) (refK (r.1, r.2)) (.agg (refK (r.1, r.2)).toArray) (by rfl) (by rfl) (by rfl) HU.out ?_; intro wd b5 hs; replace HU := Lib.hid hs; clear hs)
                      | (at_builtin; clear D7; refine wpList_appL 3 rfl (.tmp 83) (.tmp 85) 36 40 rfl Try.underlying36 infoRf3 rfl (by decide) (by decide) (mk := refK) (y := (r.1, r.2)) HU.out rfl HLO.out rfl rfl (HU.out.has 0 rfl) rfl (refK_one _) ?_; intro v2 we hs; have hs2 : Sep w we [blk b5 40 (refK (r.1, r.2)), blk g9 40 (refK (r.1, r.2)), blk g7 38 (rwK x (.slice ua Q uc)), refsO 40 v2 ((x.to.take k).map (shT n 0) ++ [(r.1, r.2)]), rowsO 38 40 vo (allP l 0 i)] := hs; rw [HO.out] at hs2; obtain ⟨ua2, uc2, hv2⟩ := rowA_form (hs2.rd 3 rfl); rw [HQ2.out] at hv2; subst hv2; replace HU := Lib.hid hs2; clear hs hs2)
                      | (clear D8; refine wpList_stC1 2 rfl rfl 36 (.tmp 87) (.tmp 86) rfl g7 1 rfl (.slice ua2 Q2 uc2) rfl HU.out rfl rfl (by simp [rwK]) rfl infoRfs ?_; intro wf hs; replace HU := Lib.hid hs; clear hs))
                    go_roundw
                    case rel => exact ⟨k + 1, _, by go_num, by omega, HOK2, Lib.hid ((HU.out.drop.drop))⟩
                    case measure => simp [intOf]; omega
              · have q0 : (r.1 == 0) = false := bneq_of h0
                have HOK2 := HOKR.out fun e => absurd e h0
                have HO : Hid ((x.to.take k).map (shT n 0) ++ [r] = (x.to.take (k + 1)).map (shT n 0)) := Lib.hid (by
                  rw [HTK.out, List.map_append]
                  congr 1
                  show [r] = [shT n 0 r]
                  unfold shT
                  rw [if_neg h0])
                clear h0
                have C1 : Hid True := Lib.hid trivial
                have C2 : Hid True := Lib.hid trivial
                have C3 : Hid True := Lib.hid trivial
                go_upto_region 20 with (first
                  | (clear C1; refine wpList_load_mid rfl 40 (.tmp 55) rfl b3 o3 rfl (refK r) _ (HG3.out _ HU.out.nw) Try.underlying40 rfl infoRf12 ?_)
                  | (clear C2; refine wpList_alB rfl 40 rfl _ zeroRf_run _ rfl HU.out ?_; intro wa g9 hs; replace HU := Lib.hid hs; clear hs)
                  | (clear C3; refine wpList_stSW 0 rfl rfl 40 (.tmp 9) (.tmp 56) rfl g9 rfl _ rfl HU.out rfl (refK r) rfl rfl (refK_one _) infoRf12 ?_; intro wb hs; replace HU := Lib.hid hs; have z0 := HU.out.cell 0 rfl (k := 0) rfl; have z1 := HU.out.cell 0 rfl (k := 1) rfl; have z2 := HU.out.cell 1 rfl (k := 1) rfl; clear hs))
                have I1 : Hid True := Lib.hid trivial
                have I2 : Hid True := Lib.hid trivial
                have I3 : Hid True := Lib.hid trivial
                have I4 : Hid True := Lib.hid trivial
                go_wp2_with (first
                  | (clear I1; refine wpList_load_mid rfl 40 (.tmp 9) rfl g9 0 rfl (refK r) _ (HasC.all (HU.out.has 0 rfl)) Try.underlying40 rfl infoRf12 ?_)
                  | (clear I2; refine wpList_bsB (by rfl) 36 40 (.tmp 84) (by rfl) Try.underlying36 infoRf3 (by decide) (by decide) (refK r) (.agg (refK r).toArray) (by rfl) (by rfl) (by rfl) HU.out ?_; intro wd b5 hs; replace HU := Lib.hid hs; clear hs)
                  | (at_builtin; clear I3; refine wpList_appL 3 rfl (.tmp 83) (.tmp 85) 36 40 rfl Try.underlying36 infoRf3 rfl (by decide) (by decide) (mk := refK) (y := r) HU.out rfl HLO.out rfl rfl (HU.out.has 0 rfl) rfl (refK_one _) ?_; intro v2 we hs; have hs2 : Sep w we [blk b5 40 (refK r), blk g9 40 (refK r), blk g7 38 (rwK x (.slice ua Q uc)), refsO 40 v2 ((x.to.take k).map (shT n 0) ++ [r]), rowsO 38 40 vo (allP l 0 i)] := hs; rw [HO.out] at hs2; obtain ⟨ua2, uc2, hv2⟩ := rowA_form (hs2.rd 3 rfl); rw [HQ2.out] at hv2; subst hv2; replace HU := Lib.hid hs2; clear hs hs2)
                  | (clear I4; refine wpList_stC1 2 rfl rfl 36 (.tmp 87) (.tmp 86) rfl g7 1 rfl (.slice ua2 Q2 uc2) rfl HU.out rfl rfl (by simp [rwK]) rfl infoRfs ?_; intro wf hs; replace HU := Lib.hid hs; clear hs))
                go_roundw
                case rel => exact ⟨k + 1, _, by go_num, by omega, HOK2, Lib.hid ((HU.out.drop.drop))⟩
                case measure => simp [intOf]; omega
            · have HFR : Hid ((x.to.take k).map (shT n 0) = (shW n 0 x).to) := Lib.hid (by rw [List.take_of_length_le (by rw [HM0.out]; omega)]; rfl)
              have HOK2 := Lib.hid (HOKM.out (by have h9 := HRO.out; rwa [List.take_of_length_le (by rw [HM0.out]; omega)] at h9))
              rw [HFR.out] at HU
              have HV : Hid (Sep w wr [blk g7 38 (rwK x u), refsO 40 u (shW n 0 x).to, rowsO 38 40 vo (allP l 0 i)]) := HU
              obtain ⟨ua, uc, hvo⟩ := rowA_form (HV.out.rd 1 rfl)
              rw [show (shW n 0 x).to.length = M by rw [← HM0.out]; unfold shW; rw [List.length_map]] at hvo
              subst hvo
              clear HU
              have E1 : Hid True := Lib.hid trivial
              have E2 : Hid True := Lib.hid trivial
              have E3 : Hid True := Lib.hid trivial
              go_wp2_with (first
                | (clear E1; refine wpList_load_mid rfl 38 (.tmp 7) rfl g7 0 rfl (rwK x (.slice ua M uc)) _ (HasC.all (HV.out.has 0 rfl)) Try.underlying38 rfl infoRw ?_)
                | (clear E2; refine wpList_bsB (by rfl) 22 38 (.tmp 89) (by rfl) Try.underlying22 infoRw3 (by decide) (by decide) (rwK x (.slice ua M uc)) (.agg (rwK x (.slice ua M uc)).toArray) (by rfl) (by rfl) (by rfl) HV.out ?_; intro w5 b5 hs; have HBB := Lib.hid (hs.has 0 rfl); replace HV := Lib.hid (hs.pull 2 rfl).rowOf; clear hs)
                | (at_builtin; clear E3; refine wpList_appI 2 rfl (.tmp 88) (.tmp 90) 22 38 rfl Try.underlying22 infoRw3 rfl (by decide) (by decide) (E := rwE12 40) (y := shW n 0 x) (cs := rwK x (.slice ua M uc)) HV.out rfl HLK.out rfl rfl HBB.out rfl (rwK_one x rfl) ?_; intro v2 w6 hs; rw [HXS.out] at hs; replace HV := Lib.hid hs; clear hs))
              go_roundw
              case rel => exact ⟨i + 1, _, rfl, by go_num, by omega, HOK2, Lib.hid HV.out.drop.drop⟩
              case measure => simp [intOf]; omega
        · obtain rfl : i = n := by omega
          have HOK2 := Lib.hid (by have h9 := HOK.out; rw [← HN.out] at h9; exact okP_next h9)
          have HNX : Hid (allP l 0 i = allP l 1 0) := Lib.hid (by rw [← HN.out]; exact allP_next l 0)
          rw [HNX.out] at HT
          go_wp2_with fail
          go_roundw
          case rel => exact ⟨1, _, rfl, rfl, by omega, HOK2, HT⟩
          case measure => simp [intOf]
    | 1, _ =>
      rw [show ((1 : Nat) : Int) = 1 from rfl] at htv
      subst htv
      go_wp2_with fail
      go_loopw [4, 6] (fun ov iv wq => ∃ (i : Nat) (vo : Value), vo = ov ∧ iv = .int .i64 (i : Int) ∧ i ≤ n ∧ Hid (OkP l 1 i) ∧ Hid (Sep w wq [rowsO 38 40 vo (allP l 1 i)])) (fun _ iv _ => n - (intOf iv).toNat)
      case atStart => exact ⟨0, _, rfl, rfl, by omega, HOK, HT⟩
      case round =>
        clear HT HOK
        obtain ⟨i, vo, rfl, rfl, hi, HOK, HT⟩ := hrel
        by_cases hin : i < n
        · obtain ⟨x, hx⟩ : ∃ x, l[i]? = some x := ⟨_, List.getElem?_eq_getElem (by rw [HN.out]; exact hin)⟩
          obtain ⟨b, o, ra, rc, hix, hrg, hrf⟩ := RowsAt.ix (P := Try.prog) HX.out 22 Try.underlying22 sizeRw hx
          have hM := HTO.out x (List.mem_of_getElem? hx)
          have HXS : Hid (allP l 1 i ++ [shW n 1 x] = allP l 1 (i + 1)) := Lib.hid (by rw [← HN.out]; exact allP_more l 1 hx)
          have HLK : Hid ((allP l 1 i).length ≤ 100000) := Lib.hid (by have := allP_len l 1 i; rw [HN.out] at this; omega)
          have HOKM : Hid ((∀ r ∈ x.to, OkR n r) → OkP l 1 (i + 1)) := Lib.hid fun e => okP_more HOK.out hx (by rw [HN.out]; exact e)
          obtain ⟨M, HM0⟩ : ∃ M, Hid (x.to.length = M) := ⟨_, Lib.hid rfl⟩
          rw [HM0.out] at hrg hrf hM
          have HG := Lib.hid hrg
          have HRF := Lib.hid hrf
          have c0 := hrg _ HT.out.nw 0 _ rfl
          rw [Nat.add_zero] at c0
          clear hx hrg hrf
          have A1 : Hid True := Lib.hid trivial
          have A2 : Hid True := Lib.hid trivial
          have A3 : Hid True := Lib.hid trivial
          go_wp2_with (first
            | (clear A1; refine wpList_bd1 (a := .int .i64 x.c) rfl 38 0 (.tmp 37) rfl rfl (build_Rw1 x) ?_)
            | (clear A2; refine wpList_alB rfl 38 rfl _ zeroRw_run _ rfl HT.out ?_; intro w1 g7 hs; replace HT := Lib.hid hs; clear hs c0)
            | (clear A3; refine wpList_stSW 0 rfl rfl 38 (.tmp 7) (.tmp 38) rfl g7 rfl _ rfl HT.out rfl (rwK x (.slice none 0 0)) rfl rfl (rwK_one x rfl) infoRw ?_; intro w2 hs; replace HT := Lib.hid hs; clear hs))
          go_loopw [8] (fun kv wz => ∃ (k : Nat) (u : Value), kv = .int .i64 (k : Int) ∧ k ≤ M ∧ Hid (∀ r ∈ x.to.take k, OkR n r) ∧ Hid (Sep w wz [blk g7 38 (rwK x u), refsO 40 u ((x.to.take k).map (shT n 1)), rowsO 38 40 vo (allP l 1 i)])) (fun kv _ => M - (intOf kv).toNat)
          case atStart => exact ⟨0, .slice none 0 0, rfl, by omega, Lib.hid (fun r h => by simp at h), Lib.hid ((HT.out.row0 40 2 (leafE refK)).pull 1 rfl)⟩
          case round =>
            clear HT
            obtain ⟨k, u, rfl, hk, HRO, HU⟩ := hrel
            have c1 := HG.out _ HU.out.nw 1 _ rfl
            by_cases hkM : k < M
            · obtain ⟨r, hr⟩ : ∃ r, x.to[k]? = some r := ⟨_, List.getElem?_eq_getElem (by rw [HM0.out]; exact hkM)⟩
              obtain ⟨b3, o3, hix3, hrg3⟩ := RefsAt.ix (P := Try.prog) HRF.out 36 Try.underlying36 sizeRf hr
              have HG3 := Lib.hid hrg3
              have HTK : Hid (x.to.take (k + 1) = x.to.take k ++ [r]) := Lib.hid (by rw [List.take_add_one, hr]; rfl)
              have HLO : Hid (((x.to.take k).map (shT n 1)).length ≤ 100000) := Lib.hid (by rw [List.length_map, List.length_take]; omega)
              obtain ⟨ua, uc, hvo⟩ := rowA_form (HU.out.rd 1 rfl)
              obtain ⟨Q, HQ⟩ : ∃ Q, Hid (((x.to.take k).map (shT n 1)).length = Q) := ⟨_, Lib.hid rfl⟩
              rw [HQ.out] at hvo
              subst hvo
              obtain ⟨Q2, HQ2⟩ : ∃ Q2, Hid (((x.to.take (k + 1)).map (shT n 1)).length = Q2) := ⟨_, Lib.hid rfl⟩
              have HOKR : Hid (OkR n r → Hid (∀ r ∈ x.to.take (k + 1), OkR n r)) := Lib.hid fun e => Lib.hid fun q hq => by
                rw [HTK.out] at hq
                rcases List.mem_append.mp hq with h1 | h1
                · exact HRO.out q h1
                · have : q = r := by simpa using h1
                  rw [this]
                  exact e
              clear hr hrg3
              by_cases h0 : r.1 = 0
              · have q0 : (r.1 == 0) = true := beq_of h0
                by_cases h1 : r.2 < 0
                · have d1 : decide (r.2 < 0) = true := decide_eq_true h1
                  clear h0 h1
                  have B1 : Hid True := Lib.hid trivial
                  have B2 : Hid True := Lib.hid trivial
                  have B3 : Hid True := Lib.hid trivial
                  have B4 : Hid True := Lib.hid trivial
                  go_wp2_with (first
                    | (clear B1; refine wpList_load_mid rfl 40 (.tmp 55) rfl b3 o3 rfl (refK r) _ (HG3.out _ HU.out.nw) Try.underlying40 rfl infoRf12 ?_)
                    | (clear B2; refine wpList_alB rfl 40 rfl _ zeroRf_run _ rfl HU.out ?_; intro wa g9 hs; replace HU := Lib.hid hs; clear hs)
                    | (clear B3; refine wpList_stSW 0 rfl rfl 40 (.tmp 9) (.tmp 56) rfl g9 rfl _ rfl HU.out rfl (refK r) rfl rfl (refK_one _) infoRf12 ?_; intro wb hs; replace HU := Lib.hid hs; have z0 := HU.out.cell 0 rfl (k := 0) rfl; have z1 := HU.out.cell 0 rfl (k := 1) rfl; have z2 := HU.out.cell 1 rfl (k := 1) rfl; clear hs)
                    | (clear B4; go_at_call 10; refine (knows_from12 _ HU.out.nw).mono ?_; rintro e wk ⟨rfl, hnk⟩))
                  go_ret
                  exact ⟨rfl, hnk⟩
                · have d1 : decide (r.2 < 0) = false := decide_eq_false h1
                  by_cases h2 : (n : Int) ≤ r.2
                  · have d2 : decide ((n : Int) ≤ r.2) = true := decide_eq_true h2
                    clear h0 h1 h2
                    have B1 : Hid True := Lib.hid trivial
                    have B2 : Hid True := Lib.hid trivial
                    have B3 : Hid True := Lib.hid trivial
                    have B4 : Hid True := Lib.hid trivial
                    go_wp2_with (first
                      | (clear B1; refine wpList_load_mid rfl 40 (.tmp 55) rfl b3 o3 rfl (refK r) _ (HG3.out _ HU.out.nw) Try.underlying40 rfl infoRf12 ?_)
                      | (clear B2; refine wpList_alB rfl 40 rfl _ zeroRf_run _ rfl HU.out ?_; intro wa g9 hs; replace HU := Lib.hid hs; clear hs)
                      | (clear B3; refine wpList_stSW 0 rfl rfl 40 (.tmp 9) (.tmp 56) rfl g9 rfl _ rfl HU.out rfl (refK r) rfl rfl (refK_one _) infoRf12 ?_; intro wb hs; replace HU := Lib.hid hs; have z0 := HU.out.cell 0 rfl (k := 0) rfl; have z1 := HU.out.cell 0 rfl (k := 1) rfl; have z2 := HU.out.cell 1 rfl (k := 1) rfl; clear hs)
                      | (clear B4; go_at_call 10; refine (knows_from12 _ HU.out.nw).mono ?_; rintro e wk ⟨rfl, hnk⟩))
                    go_ret
                    exact ⟨rfl, hnk⟩
                  · have d2 : decide ((n : Int) ≤ r.2) = false := decide_eq_false h2
                    have HOK2 := HOKR.out fun _ => ⟨by omega, by omega⟩
                    have HO : Hid ((x.to.take k).map (shT n 1) ++ [(r.1, r.2 + (n : Int))] = (x.to.take (k + 1)).map (shT n 1)) := Lib.hid (by
                      rw [HTK.out, List.map_append]
                      congr 1
                      show [(r.1, r.2 + (n : Int))] = [shT n 1 r]
                      unfold shT
                      rw [if_pos h0]
                      simp)
                    have hlo : 0 ≤ r.2 := by omega
                    have hhi : r.2 < (n : Int) := by omega
                    clear h0 h1 h2
                    have D1 : Hid True := Lib.hid trivial
                    have D2 : Hid True := Lib.hid trivial
                    have D3 : Hid True := Lib.hid trivial
                    have D4 : Hid True := Lib.hid trivial
                    have D5 : Hid True := Lib.hid trivial
                    have D6 : Hid True := Lib.hid trivial
                    have D7 : Hid True := Lib.hid trivial
                    have D8 : Hid True := Lib.hid trivial
                    go_wp2_with (first
                      | (clear D1; refine wpList_load_mid rfl 40 (.tmp 55) rfl b3 o3 rfl (refK r) _ (HG3.out _ HU.out.nw) Try.underlying40 rfl infoRf12 ?_)
                      | (clear D2; refine wpList_alB rfl 40 rfl _ zeroRf_run _ rfl HU.out ?_; intro wa g9 hs; replace HU := Lib.hid hs; clear hs)
                      | (clear D3; refine wpList_stSW 0 rfl rfl 40 (.tmp 9) (.tmp 56) rfl g9 rfl _ rfl HU.out rfl (refK r) rfl rfl (refK_one _) infoRf12 ?_; intro wb hs; replace HU := Lib.hid hs; have z0 := HU.out.cell 0 rfl (k := 0) rfl; have z1 := HU.out.cell 0 rfl (k := 1) rfl; have z2 := HU.out.cell 1 rfl (k := 1) rfl; clear hs)
                      | (clear D4; refine wpList_stC1 0 (by rfl) (by rfl) 2 (.tmp 81) (.tmp 80) (by rfl) g9 1 (by rfl) (.int .i64 (r.2 + (n : Int))) (by rfl) HU.out rfl rfl (by simp [refK]) rfl infoN64 ?_; intro wc hs; have hs2 : Sep w wc [blk g9 40 (refK (r.1, r.2 + (n : Int))), blk g7 38 (rwK x (.slice ua Q uc)), refsO 40 (.slice ua Q uc) ((x.to.take k).map (shT n 1)), rowsO 38 40 vo (allP l 1 i)] := hs; replace HU := Lib.hid hs2; clear hs hs2 z0 z1; have z2 := HU.out.cell 1 rfl (k := 1) rfl)
                      | (clear D5; refine wpList_load_mid rfl 40 (.tmp 9) rfl g9 0 rfl (refK (r.1, r.2 + (n : Int))) _ (HasC.all (HU.out.has 0 rfl)) Try.underlying40 rfl infoRf12 ?_)
                      | (clear D6; refine wpList_bsB (by rfl) 36 40 (.tmp 84) (by rfl) Try.underlying36 infoRf3 (by decide) (by decide) (refK (r.1, r.2 + (n : Int))) (.agg (refK (r.1, r.2 + (n : Int))).toArray) (by rfl) (by rfl) (by rfl) HU.out ?_; intro wd b5 hs; replace HU := Lib.hid hs; clear hs)
                      | (at_builtin; clear D7; refine wpList_appL 3 rfl (.tmp 83) (.tmp 85) 36 40 rfl Try.underlying36 infoRf3 rfl (by decide) (by decide) (mk := refK) (y := (r.1, r.2 + (n : Int))) HU.out rfl HLO.out rfl rfl (HU.out.has 0 rfl) rfl (refK_one _) ?_; intro v2 we hs; have hs2 : Sep w we [blk b5 40 (refK (r.1, r.2 + (n : Int))), blk g9 40 (refK (r.1, r.2 + (n : Int))), blk g7 38 (rwK x (.slice ua Q uc)), refsO 40 v2 ((x.to.take k).map (shT n 1) ++ [(r.1, r.2 + (n : Int))]), rowsO 38 40 vo (allP l 1 i)] := hs; rw [HO.out] at hs2; obtain ⟨ua2, uc2, hv2⟩ := rowA_form (hs2.rd 3 rfl); rw [HQ2.out] at hv2; subst hv2; replace HU := Lib.hid hs2; clear hs hs2)
                      | (clear D8; refine wpList_stC1 2 rfl rfl 36 (.tmp 87) (.tmp 86) rfl g7 1 rfl (.slice ua2 Q2 uc2) rfl HU.out rfl rfl (by simp [rwK]) rfl infoRfs ?_; intro wf hs; replace HU := Lib.hid hs; clear hs))
                    go_roundw
                    case rel => exact ⟨k + 1, _, by go_num, by omega, HOK2, Lib.hid ((HU.out.drop.drop))⟩
                    case measure => simp [intOf]; omega
              · have q0 : (r.1 == 0) = false := bneq_of h0
                have HOK2 := HOKR.out fun e => absurd e h0
                have HO : Hid ((x.to.take k).map (shT n 1) ++ [r] = (x.to.take (k + 1)).map (shT n 1)) := Lib.hid (by
                  rw [HTK.out, List.map_append]
                  congr 1
                  show [r] = [shT n 1 r]
                  unfold shT
                  rw [if_neg h0])
                clear h0
                have C1 : Hid True := Lib.hid trivial
                have C2 : Hid True := Lib.hid trivial
                have C3 : Hid True := Lib.hid trivial
                go_upto_region 20 with (first
                  | (clear C1; refine wpList_load_mid rfl 40 (.tmp 55) rfl b3 o3 rfl (refK r) _ (HG3.out _ HU.out.nw) Try.underlying40 rfl infoRf12 ?_)
                  | (clear C2; refine wpList_alB rfl 40 rfl _ zeroRf_run _ rfl HU.out ?_; intro wa g9 hs; replace HU := Lib.hid hs; clear hs)
                  | (clear C3; refine wpList_stSW 0 rfl rfl 40 (.tmp 9) (.tmp 56) rfl g9 rfl _ rfl HU.out rfl (refK r) rfl rfl (refK_one _) infoRf12 ?_; intro wb hs; replace HU := Lib.hid hs; have z0 := HU.out.cell 0 rfl (k := 0) rfl; have z1 := HU.out.cell 0 rfl (k := 1) rfl; have z2 := HU.out.cell 1 rfl (k := 1) rfl; clear hs))
                have I1 : Hid True := Lib.hid trivial
                have I2 : Hid True := Lib.hid trivial
                have I3 : Hid True := Lib.hid trivial
                have I4 : Hid True := Lib.hid trivial
                go_wp2_with (first
                  | (clear I1; refine wpList_load_mid rfl 40 (.tmp 9) rfl g9 0 rfl (refK r) _ (HasC.all (HU.out.has 0 rfl)) Try.underlying40 rfl infoRf12 ?_)
                  | (clear I2; refine wpList_bsB (by rfl) 36 40 (.tmp 84) (by rfl) Try.underlying36 infoRf3 (by decide) (by decide) (refK r) (.agg (refK r).toArray) (by rfl) (by rfl) (by rfl) HU.out ?_; intro wd b5 hs; replace HU := Lib.hid hs; clear hs)
                  | (at_builtin; clear I3; refine wpList_appL 3 rfl (.tmp 83) (.tmp 85) 36 40 rfl Try.underlying36 infoRf3 rfl (by decide) (by decide) (mk := refK) (y := r) HU.out rfl HLO.out rfl rfl (HU.out.has 0 rfl) rfl (refK_one _) ?_; intro v2 we hs; have hs2 : Sep w we [blk b5 40 (refK r), blk g9 40 (refK r), blk g7 38 (rwK x (.slice ua Q uc)), refsO 40 v2 ((x.to.take k).map (shT n 1) ++ [r]), rowsO 38 40 vo (allP l 1 i)] := hs; rw [HO.out] at hs2; obtain ⟨ua2, uc2, hv2⟩ := rowA_form (hs2.rd 3 rfl); rw [HQ2.out] at hv2; subst hv2; replace HU := Lib.hid hs2; clear hs hs2)
                  | (clear I4; refine wpList_stC1 2 rfl rfl 36 (.tmp 87) (.tmp 86) rfl g7 1 rfl (.slice ua2 Q2 uc2) rfl HU.out rfl rfl (by simp [rwK]) rfl infoRfs ?_; intro wf hs; replace HU := Lib.hid hs; clear hs))
                go_roundw
                case rel => exact ⟨k + 1, _, by go_num, by omega, HOK2, Lib.hid ((HU.out.drop.drop))⟩
                case measure => simp [intOf]; omega
            · have HFR : Hid ((x.to.take k).map (shT n 1) = (shW n 1 x).to) := Lib.hid (by rw [List.take_of_length_le (by rw [HM0.out]; omega)]; rfl)
              have HOK2 := Lib.hid (HOKM.out (by have h9 := HRO.out; rwa [List.take_of_length_le (by rw [HM0.out]; omega)] at h9))
              rw [HFR.out] at HU
              have HV : Hid (Sep w wr [blk g7 38 (rwK x u), refsO 40 u (shW n 1 x).to, rowsO 38 40 vo (allP l 1 i)]) := HU
              obtain ⟨ua, uc, hvo⟩ := rowA_form (HV.out.rd 1 rfl)
              rw [show (shW n 1 x).to.length = M by rw [← HM0.out]; unfold shW; rw [List.length_map]] at hvo
              subst hvo
              clear HU
              have E1 : Hid True := Lib.hid trivial
              have E2 : Hid True := Lib.hid trivial
              have E3 : Hid True := Lib.hid trivial
              go_wp2_with (first
                | (clear E1; refine wpList_load_mid rfl 38 (.tmp 7) rfl g7 0 rfl (rwK x (.slice ua M uc)) _ (HasC.all (HV.out.has 0 rfl)) Try.underlying38 rfl infoRw ?_)
                | (clear E2; refine wpList_bsB (by rfl) 22 38 (.tmp 89) (by rfl) Try.underlying22 infoRw3 (by decide) (by decide) (rwK x (.slice ua M uc)) (.agg (rwK x (.slice ua M uc)).toArray) (by rfl) (by rfl) (by rfl) HV.out ?_; intro w5 b5 hs; have HBB := Lib.hid (hs.has 0 rfl); replace HV := Lib.hid (hs.pull 2 rfl).rowOf; clear hs)
                | (at_builtin; clear E3; refine wpList_appI 2 rfl (.tmp 88) (.tmp 90) 22 38 rfl Try.underlying22 infoRw3 rfl (by decide) (by decide) (E := rwE12 40) (y := shW n 1 x) (cs := rwK x (.slice ua M uc)) HV.out rfl HLK.out rfl rfl HBB.out rfl (rwK_one x rfl) ?_; intro v2 w6 hs; rw [HXS.out] at hs; replace HV := Lib.hid hs; clear hs))
              go_roundw
              case rel => exact ⟨i + 1, _, rfl, by go_num, by omega, HOK2, Lib.hid HV.out.drop.drop⟩
              case measure => simp [intOf]; omega
        · obtain rfl : i = n := by omega
          have HOK2 := Lib.hid (by have h9 := HOK.out; rw [← HN.out] at h9; exact okP_next h9)
          have HNX : Hid (allP l 1 i = allP l 2 0) := Lib.hid (by rw [← HN.out]; exact allP_next l 1)
          rw [HNX.out] at HT
          go_wp2_with fail
          go_roundw
          case rel => exact ⟨2, _, rfl, rfl, by omega, HOK2, HT⟩
          case measure => simp [intOf]
    | 2, _ =>
      rw [show ((2 : Nat) : Int) = 2 from rfl] at htv
      subst htv
      rw [allP_2] at HT
      have HOKA := Lib.hid (HOK.out.1 (by decide))
      obtain ⟨va, vc, hv⟩ := rowA_form (HT.out.rd 0 rfl)
      obtain ⟨N2, HDL⟩ : ∃ N2, Hid ((dblL l).length = N2) := ⟨_, Lib.hid rfl⟩
      have HND : Hid (N2 = n + n) := Lib.hid (by rw [← HDL.out, dbl_len, HN.out])
      have hN2 : N2 ≤ 10000 := by have := HND.out; omega
      rw [HDL.out] at hv
      subst hv
      have HTD : Hid (∀ x ∈ dblL l, x.to.length ≤ 10000) := Lib.hid (by
        intro x hx
        unfold dblL at hx
        rcases List.mem_append.mp hx with h1 | h1
        · exact HTO.out x h1
        · obtain ⟨y, hy, rfl⟩ := List.mem_map.mp h1
          show ((shR l.length y).to).length ≤ 10000
          unfold shR
          rw [List.length_map]
          exact HTO.out y hy)
      have q0 : ((n : Int) != (n : Int)) = false := by simp
      have q1 : ((N2 : Int) != (N2 : Int)) = false := by simp
      have F1 : Hid True := Lib.hid trivial
      have F2 : Hid True := Lib.hid trivial
      go_wp2_with (first
        | (clear F1; go_at_call 11; refine (classes_any la n lc l _ (HX.out.nw HT.out.nw) hn2 HTO.out).mono ?_; rintro e w3 ⟨v, rfl, hs⟩; obtain ⟨ca, cc, hv⟩ := rowA_form hs.hd; rw [clsL_len, HN.out] at hv; subst hv; replace HT := Lib.hid (HT.out.call hs); clear hs)
        | (clear F2; go_at_call 11; refine (classes_any va N2 vc (dblL l) _ (rows_rd (HT.out.rd 1 rfl)) hN2 HTD.out).mono ?_; rintro e w4 ⟨v, rfl, hs⟩; obtain ⟨da, dc, hv⟩ := rowA_form hs.hd; rw [clsL_len, HDL.out] at hv; subst hv; replace HT := Lib.hid (HT.out.call hs); clear hs))
      have HA := Lib.hid (int_rd (HT.out.rd 1 rfl))
      have HB := Lib.hid (int_rd (HT.out.rd 0 rfl))
      have N5 := Lib.hid HT.out.nw
      clear HT
      go_loopw [12] (fun iv wr => ∃ i : Nat, iv = .int .i64 (i : Int) ∧ i ≤ n ∧ Hid (New w4 wr)) (fun iv _ => n - (intOf iv).toNat)
      case atStart => exact ⟨0, rfl, by omega, Lib.hid (New.refl _)⟩
      case round =>
        obtain ⟨i, rfl, hi, HW⟩ := hrel
        by_cases hin : i < n
        · obtain ⟨a1, i1, c1⟩ := int_ix HA.out hin
          obtain ⟨a2, i2, c2⟩ := int_ix HB.out (show i < N2 by have := HND.out; omega)
          obtain ⟨a3, i3, c3⟩ := int_ix HB.out (show i + n < N2 by have := HND.out; omega)
          have hg := dbl_get (l := l) HOKA.out (i := i) (by rw [HN.out]; exact hin)
          rw [HN.out] at hg
          rw [hg.1] at c2
          rw [hg.2] at c3
          obtain ⟨x, HXX⟩ : ∃ x, Hid ((clsL l).getD i 0 = x) := ⟨_, Lib.hid rfl⟩
          rw [HXX.out] at c1 c2 c3
          replace i3 : ∀ w', (Instr.indexAt 25 _ (.int .i64 ((i : Int) + (n : Int)))).run Try.prog w' = .ok _ w' := i3
          have V1 : ∀ z : NewW wr, z.val.cell? a1 = some (.int .i64 x) := fun z => c1 _ (HW.out.trans z.property)
          have V2 : ∀ z : NewW wr, z.val.cell? a2 = some (.int .i64 x) := fun z => c2 _ (HW.out.trans z.property)
          have V3 : ∀ z : NewW wr, z.val.cell? a3 = some (.int .i64 x) := fun z => c3 _ (HW.out.trans z.property)
          have q2 : (x != x) = false := by simp
          clear c1 c2 c3 hg
          go_wp2_with fail
          have hne := newW_any wr
          refine wp_region_new (New.refl wr) (by kernel_rfl) (by kernel_rfl) ?_
          repeat (go_big_quiet_step (fail))
          refine wpQuiet_nil ?_
          intro w6 hn6
          go_wp2_with fail
          go_roundw
          case rel => exact ⟨i + 1, by go_num, by omega, Lib.hid (HW.out.trans hn6)⟩
          case measure => simp [intOf]; omega
        · have HZ := Lib.hid (N5.out.trans HW.out)
          go_wp2_with (go_at_call 10; refine (knows_from12 _ HZ.out).mono ?_; rintro e wk ⟨rfl, hnk⟩)
          go_ret
          exact ⟨rfl, hnk⟩
theorem refineTwice_law (v0 : Value) (l : List Rw) (w : World) (hr : RowsAt w v0 l) (hm : l.length ≤ maxLen) : Calls Try.prog 8 #[v0] w fun e w' => e = .returned (.bool true) ∧ New w w' := by
  obtain ⟨la, lc, rfl⟩ := Els.form hr
  exact refineTwice_walk la _ lc l w hr hm
end Go.Proofs.Ytomclhbekmcaeaa
