/-
  Layer 11: the contracts of the reference's holds and Said: what is said is taken back till nothing is.
-/
import Derived.Test.YtphopkjgfkaihaaGreatDoorValueL
import Derived.Test.YtphopkjgfkaihaaGreatDoorValueFact
namespace Go.Proofs.YtphopkjgfkaihaaGreatDoor
open Go.RowKit

def rowB (X : Bt) (n : Nat) : List Bool := (List.range 24).map (X n)
def tabB (N : Nat) (X : Bt) : List (List Bool) := (List.range N).map (rowB X)
theorem tabB_len (N : Nat) (X : Bt) : (tabB N X).length = N := by simp [tabB]
theorem tabB_at {N : Nat} (X : Bt) {n : Nat} (h : n < N) : (tabB N X)[n]? = some (rowB X n) := by simp [tabB, h]
theorem rowB_len (X : Bt) (n : Nat) : (rowB X n).length = 24 := by simp [rowB]
theorem rowB_at (X : Bt) (n : Nat) {l : Nat} (h : l < 24) : (rowB X n)[l]? = some (X n l) := by simp [rowB, h]
theorem updB_at (X : Bt) (n l : Nat) (c : Bool) : updB X n l c n l = c := if_pos ⟨rfl, rfl⟩
theorem updB_ne {X : Bt} {n l : Nat} {c : Bool} {a b : Nat} (h : ¬ (a = n ∧ b = l)) : updB X n l c a b = X a b := if_neg h
theorem tabB_upd {N : Nat} (X : Bt) {n l : Nat} (hl : l < 24) (c : Bool) : (tabB N X).set n ((rowB X n).set l c) = tabB N (updB X n l c) := by
  apply List.ext_getElem?
  intro i
  rw [List.getElem?_set, tabB_len]
  by_cases hi : i < N
  · rw [tabB_at _ hi, tabB_at _ hi]
    by_cases e : n = i
    · subst e
      rw [if_pos rfl, if_pos hi]
      congr 1
      apply List.ext_getElem?
      intro j
      rw [List.getElem?_set, rowB_len]
      by_cases hj : j < 24
      · rw [rowB_at _ _ hj, rowB_at _ _ hj]
        by_cases e2 : l = j
        · subst e2
          rw [if_pos rfl, if_pos hl, updB_at]
        · rw [if_neg e2, updB_ne fun h => e2 h.2.symm]
      · rw [List.getElem?_eq_none (l := rowB (updB X n l c) n) (by rw [rowB_len]; omega)]
        by_cases e2 : l = j
        · omega
        · rw [if_neg e2]
          exact List.getElem?_eq_none (by rw [rowB_len]; omega)
    · rw [if_neg e]
      congr 1
      apply List.ext_getElem?
      intro j
      by_cases hj : j < 24
      · rw [rowB_at _ _ hj, rowB_at _ _ hj, updB_ne fun h => e h.1.symm]
      · rw [List.getElem?_eq_none (by rw [rowB_len]; omega), List.getElem?_eq_none (by rw [rowB_len]; omega)]
  · rw [List.getElem?_eq_none (l := tabB N (updB X n l c)) (by rw [tabB_len]; omega)]
    by_cases e : n = i
    · rw [if_pos e, if_neg (by omega)]
    · rw [if_neg e]
      exact List.getElem?_eq_none (by rw [tabB_len]; omega)
abbrev saidO (v : Value) (M : List (List Bool)) : Asn := rowA 23 1 (nest boolsO) v M
theorem infoBs3 : (Tryz.prog.info? 23).map (fun i => (i.zero, i.size, i.bytes)) = some (some (.slice none 0 0), 1, 24) := by kernel_rfl
theorem infoBs1 : (Tryz.prog.info? 23).map (·.size) = some 1 := by kernel_rfl
theorem sizeBs : ∀ w, (sizeOf 23).run Tryz.prog w = .ok 1 w := Tryz.sizeOf23
set_option maxHeartbeats 16000000 in
set_option maxRecDepth 100000 in
theorem holds_any {fo : Option Addr} {n fc : Nat} {f : List I} {s : Skl} {kt ct : Nat} {na : Option Addr} {nc N : Nat} (c : Sc) (X : Bt) (sa : Option Addr) (sc m l : Nat) {w : World} (h : RefS w s kt ct na nc N) (hf : FunAt w (.slice fo n fc) f) (hi : InS f s) (hl : l < 24) (_hm : m < N) (hx : (saidO (.slice sa N sc) (tabB N X)).rd w) :
    Calls Tryz.prog 77 #[.slice fo n fc, rsV s kt ct na nc N, .agg #[.int .i64 c.1, .int .i64 c.2], .slice sa N sc, .int .i64 (m : Int), .int .i64 (l : Int)] w fun r w' => r = .returned (.bool (hldB f s c X m l)) ∧ New w w' := by
  have H := Lib.hid h
  have hN2 := h.l2
  have HF := Lib.hid hf
  have HI := Lib.hid hi
  have HX := Lib.hid hx
  have HS := Lib.hid (Sep.start w)
  obtain ⟨B, HB⟩ : ∃ B, Hid (hldB f s c X m l = B) := ⟨_, Lib.hid rfl⟩
  have hlen : (edgesA s (m : Int)).length ≤ 100000 := by
    have h1 := ed_len (s := s) (m := N) (k := 0) (n := (m : Int)) h.g.b
    rw [ed_done (by rw [h.l]; exact Nat.le_refl _), h.l] at h1
    omega
  obtain ⟨es, HES⟩ : ∃ es, Hid (edgesA s (m : Int) = es) := ⟨_, Lib.hid rfl⟩
  obtain ⟨M, HM⟩ : ∃ M, Hid (es.length = M) := ⟨_, Lib.hid rfl⟩
  rw [HES.out, HM.out] at hlen
  rw [HB.out]
  clear h hf hi hx
  have T1 : Hid True := Lib.hid trivial
  have T2 : Hid True := Lib.hid trivial
  have T3 : Hid True := Lib.hid trivial
  have T4 : Hid True := Lib.hid trivial
  go_enter Tryz.func77, Tryz.ntmps77
  go_wp2_with (first
    | (clear T1; refine wpList_boxB rfl 48 (.tmp 1) rfl (rsC s.entry.1 (.slice (some ⟨kt, 0, none⟩) 24 ct) (.slice na N nc)) rfl HS.out ?_; intro wa gb hs; replace HS := Lib.hid hs; clear hs)
    | (clear T2; refine wpList_boxB rfl 39 (.tmp 2) rfl (srcK c) rfl HS.out ?_; intro wb gc hs; replace HS := Lib.hid hs; clear hs)
    | (clear T3; refine wpList_load_mid rfl 48 (.tmp 7) rfl gb 0 rfl (rsC s.entry.1 (.slice (some ⟨kt, 0, none⟩) 24 ct) (.slice na N nc)) _ (HasC.all (HS.out.has 1 rfl)) Tryz.underlying48 rfl infoRs ?_)
    | (clear T4; go_at_call 18; refine (refTo_any s (some ⟨kt, 0, none⟩) 24 ct na nc N (m : Int) _ H.out.l (H.out.n.new HS.out.nw) (by omega) H.out.g.b).mono ?_; rw [HES.out]; rintro r w2 ⟨ve, rfl, hs⟩; obtain ⟨ea, ec, hv⟩ := rowA_form hs.hd; rw [HM.out] at hv; subst hv; have HE := Lib.hid (hs.rd 0 rfl); have N2 := Lib.hid (HS.out.call hs).nw; have B7 := Lib.hid (HasC.new (HS.out.has 1 rfl) hs.nw); have B8 := Lib.hid (HasC.new (HS.out.has 0 rfl) hs.nw); clear hs))
  clear HS
  go_loopw [14] (fun iv wr => ∃ i : Nat, iv = .int .i64 (i : Int) ∧ i ≤ M ∧ Hid (New w2 wr) ∧ Hid (∀ e ∈ es.take i, hldE f s c X l e = true)) (fun iv _ => M - (intOf iv).toNat)
  case atStart => exact ⟨0, rfl, by omega, Lib.hid (New.refl _), Lib.hid (fun _ h => by simp at h)⟩
  case round =>
    obtain ⟨i, rfl, hi, HNW, HT⟩ := hrel
    by_cases hiM : i < M
    · obtain ⟨e, he⟩ : ∃ e, es[i]? = some e := ⟨_, List.getElem?_eq_getElem (by rw [HM.out]; exact hiM)⟩
      have HTK : Hid (es.take (i + 1) = es.take i ++ [e]) := Lib.hid (by rw [List.take_add_one, he]; rfl)
      have HEM : Hid (e ∈ edgesA s (m : Int)) := Lib.hid (by rw [HES.out]; exact List.mem_of_getElem? he)
      have HEE : Hid (e ∈ es) := Lib.hid (List.mem_of_getElem? he)
      obtain ⟨b1, o1, i1, r1⟩ := leaf_ix (P := Tryz.prog) HE.out 55 Tryz.underlying55 sizeEd he
      have HR1 := Lib.hid r1
      obtain ⟨Y, HY⟩ : ∃ Y, Hid (byA f s e l = Y) := ⟨_, Lib.hid rfl⟩
      have HV4 := Lib.hid fun h4 => by_val (f := f) H.out.g HEM.out hl h4
      rw [HY.out] at HV4
      have HHE : Hid (hldE f s c X l e = if Y.1 = 4 then X e.1.toNat Y.2.toNat else decide (Y = c)) := Lib.hid (by unfold hldE; rw [HY.out])
      clear he r1
      go_wp2_with fail
      go_cut [15] from 25 to 32 (fun cx wF => ∃ gx : Nat, cx = .pointer (some ⟨gx, 0, none⟩) ∧ Hid (HasC wF gx 39 (srcK Y)) ∧ Hid (New wr wF))
      case first =>
        have S0 : Hid (New wr wr.drew) := Lib.hid ((New.refl wr).drew)
        have HZ := Lib.hid ((Sep.start wr).go S0.out)
        refine wp_region_noPanic ?_
        refine wp_region_held_drew (S := fun w' => New wr w') (by kernel_rfl) S0.out (fun _ => ?_)
        refine wpAnyH_take (i := 0) (v := .slice fo n fc) rfl (by kernel_rfl) (by kernel_rfl) (by kernel_rfl) (fun _ _ _ h => h) (Or.inl ⟨rfl, fun _ _ => by go_simp⟩) S0.out ?_
        simp only [List.getElem_toArray, List.getElem_cons_zero, Act.put, List.setIfInBounds_toArray, List.set_cons_zero, List.set_cons_succ]
        refine wpAnyH_take (i := 1) (v := rsV s kt ct na nc N) rfl (by kernel_rfl) (by kernel_rfl) (by kernel_rfl) (fun _ _ _ h => h) (yieldsIf_load_mid (by rfl) _ _ rfl gb 0 rfl (rsC s.entry.1 (.slice (some ⟨kt, 0, none⟩) 24 ct) (.slice na N nc)) _ (fun w' h => HasC.all (HasC.new B7.out (HNW.out.trans h))) Tryz.underlying48 rfl infoRs) S0.out ?_
        simp only [List.getElem_toArray, List.getElem_cons_zero, List.getElem_cons_succ, Act.put, List.setIfInBounds_toArray, List.set_cons_zero, List.set_cons_succ]
        refine wpAnyH_take (i := 2) (v := .slice ea M ec) rfl (by kernel_rfl) (by kernel_rfl) (by kernel_rfl) (fun _ _ _ h => h) (Or.inl ⟨rfl, fun _ _ => by go_simp⟩) S0.out ?_
        simp only [List.getElem_toArray, List.getElem_cons_zero, List.getElem_cons_succ, Act.put, List.setIfInBounds_toArray, List.set_cons_zero, List.set_cons_succ]
        refine wpAnyH_take (i := 3) (v := .int .i64 (i : Int)) rfl (by kernel_rfl) (by kernel_rfl) (by kernel_rfl) (fun _ _ _ h => h) (Or.inl ⟨rfl, fun _ _ => by go_simp⟩) S0.out ?_
        simp only [List.getElem_toArray, List.getElem_cons_zero, List.getElem_cons_succ, Act.put, List.setIfInBounds_toArray, List.set_cons_zero, List.set_cons_succ]
        refine wpAnyH_take (i := 4) (v := .pointer (some ⟨b1, o1, none⟩)) rfl (by kernel_rfl) (by kernel_rfl) (by kernel_rfl) (fun _ _ _ h => h) (ixV_if rfl 55 (.tmp 27) (.tmp 28) rfl _ _ _ rfl rfl i1) S0.out ?_
        simp only [List.getElem_toArray, List.getElem_cons_zero, List.getElem_cons_succ, Act.put, List.setIfInBounds_toArray, List.set_cons_zero, List.set_cons_succ]
        refine wpAnyH_take (i := 5) (v := .agg #[.int .i64 e.1, .int .i64 e.2]) rfl (by kernel_rfl) (by kernel_rfl) (by kernel_rfl) (fun _ _ _ h => h) (yieldsIf_load_mid (by rfl) _ _ rfl b1 o1 rfl (edK e) _ (fun w' h => HR1.out _ (HNW.out.trans h)) Tryz.underlying42 rfl infoEd2) S0.out ?_
        simp only [List.getElem_toArray, List.getElem_cons_zero, List.getElem_cons_succ, Act.put, List.setIfInBounds_toArray, List.set_cons_zero, List.set_cons_succ]
        refine wpAnyH_take (i := 6) (v := .int .i64 (l : Int)) rfl (by kernel_rfl) (by kernel_rfl) (by kernel_rfl) (fun _ _ _ h => h) (Or.inl ⟨rfl, fun _ _ => by go_simp⟩) S0.out ?_
        simp only [List.getElem_toArray, List.getElem_cons_zero, List.getElem_cons_succ, Act.put, List.setIfInBounds_toArray, List.set_cons_zero, List.set_cons_succ]
        refine wpAnyH_all (rs := [7, 8]) (by kernel_rfl) (by simp) ?_
        simp only [List.mem_cons, List.not_mem_nil, or_false]
        rintro t (rfl | rfl)
        · refine wpOp_call (i := 7) rfl rfl 16 #[.slice fo n fc, rsV s kt ct na nc N, .agg #[.int .i64 e.1, .int .i64 e.2], .int .i64 (l : Int)] (by go_simp) ?_
          refine (rby_any (H.out.new ((N2.out.trans HNW.out).trans HZ.out.nw)) (HF.out.new ((N2.out.trans HNW.out).trans HZ.out.nw)) HI.out hl (edge_has HEM.out)).mono ?_
          rw [HY.out]
          rintro r wA ⟨rfl, hn⟩
          replace HZ := Lib.hid (HZ.out.go hn)
          clear hn
          refine ⟨_, rfl, HZ.out.nw, ?_⟩
          simp only [List.getElem_toArray, List.getElem_cons_zero, List.getElem_cons_succ, Act.put, List.setIfInBounds_toArray, List.set_cons_zero, List.set_cons_succ]
          refine wpAnyH_all (rs := [8]) (by kernel_rfl) (by simp) ?_
          simp only [List.mem_cons, List.not_mem_nil, or_false]
          rintro t rfl
          refine wpOp_alX (i := 8) rfl rfl 39 rfl _ zeroSr_run (srcK (0, 0)) rfl ?_
          intro wC gx hg1 _ hg2 hg3
          replace HZ := Lib.hid (HZ.out.new hg3 hg1 hg2)
          clear hg1 hg2 hg3
          refine ⟨HZ.out.nw, ?_⟩
          simp only [List.getElem_toArray, List.getElem_cons_zero, List.getElem_cons_succ, Act.put, List.setIfInBounds_toArray, List.set_cons_zero, List.set_cons_succ]
          refine wpAnyH_forced [9] _ _ _ HZ.out.nw (by kernel_rfl) (by simp) ?_
          simp only [List.map_cons, List.map_nil, Array.getD_eq_getD_getElem?, List.getElem?_toArray, List.getElem?_cons_succ, List.getElem?_cons_zero, Option.getD_some]
          have hq := HasC.store (HZ.out.has 0 rfl) 0 (srcK Y) 39 (.agg (srcK Y).toArray) rfl (by simp [srcK]) (srcK_one _) infoSr
          have h1 := HZ.out.setAt 0 rfl (Kept.put _ gx _) (HasC.put (HZ.out.has 0 rfl) (srcK Y))
          refine wpLS_skip rfl (run_stO 39 (.tmp 15) (.tmp 32) rfl rfl rfl hq) rfl h1.nw ?_
          refine wpLS_nil ?_
          refine NoPanic.normal ?_
          have HV := Lib.hid (h1.has 0 rfl)
          have NV := Lib.hid h1.nw
          clear hq h1
          go_wp2_with fail
          go_meet
          exact ⟨gx, rfl, HV, NV⟩
        · refine wpOp_alX (i := 8) rfl rfl 39 rfl _ zeroSr_run (srcK (0, 0)) rfl ?_
          intro wC gx hg1 _ hg2 hg3
          replace HZ := Lib.hid (HZ.out.new hg3 hg1 hg2)
          clear hg1 hg2 hg3
          refine ⟨HZ.out.nw, ?_⟩
          simp only [List.getElem_toArray, List.getElem_cons_zero, List.getElem_cons_succ, Act.put, List.setIfInBounds_toArray, List.set_cons_zero, List.set_cons_succ]
          refine wpAnyH_all (rs := [7]) (by kernel_rfl) (by simp) ?_
          simp only [List.mem_cons, List.not_mem_nil, or_false]
          rintro t rfl
          refine wpOp_call (i := 7) rfl rfl 16 #[.slice fo n fc, rsV s kt ct na nc N, .agg #[.int .i64 e.1, .int .i64 e.2], .int .i64 (l : Int)] (by go_simp) ?_
          refine (rby_any (H.out.new ((N2.out.trans HNW.out).trans HZ.out.nw)) (HF.out.new ((N2.out.trans HNW.out).trans HZ.out.nw)) HI.out hl (edge_has HEM.out)).mono ?_
          rw [HY.out]
          rintro r wA ⟨rfl, hn⟩
          replace HZ := Lib.hid (HZ.out.go hn)
          clear hn
          refine ⟨_, rfl, HZ.out.nw, ?_⟩
          simp only [List.getElem_toArray, List.getElem_cons_zero, List.getElem_cons_succ, Act.put, List.setIfInBounds_toArray, List.set_cons_zero, List.set_cons_succ]
          refine wpAnyH_forced [9] _ _ _ HZ.out.nw (by kernel_rfl) (by simp) ?_
          simp only [List.map_cons, List.map_nil, Array.getD_eq_getD_getElem?, List.getElem?_toArray, List.getElem?_cons_succ, List.getElem?_cons_zero, Option.getD_some]
          have hq := HasC.store (HZ.out.has 0 rfl) 0 (srcK Y) 39 (.agg (srcK Y).toArray) rfl (by simp [srcK]) (srcK_one _) infoSr
          have h1 := HZ.out.setAt 0 rfl (Kept.put _ gx _) (HasC.put (HZ.out.has 0 rfl) (srcK Y))
          refine wpLS_skip rfl (run_stO 39 (.tmp 15) (.tmp 32) rfl rfl rfl hq) rfl h1.nw ?_
          refine wpLS_nil ?_
          refine NoPanic.normal ?_
          have HV := Lib.hid (h1.has 0 rfl)
          have NV := Lib.hid h1.nw
          clear hq h1
          go_wp2_with fail
          go_meet
          exact ⟨gx, rfl, HV, NV⟩
      case rest =>
        obtain ⟨gx, rfl, HGX, NX⟩ := hcut
        have x0 := HGX.out.cell (k := 0) rfl
        by_cases h4 : Y.1 = 4
        · obtain ⟨p1, p2, p3, p4⟩ := HV4.out h4
          obtain ⟨q, hq⟩ : ∃ q : Nat, e.1 = (q : Int) := ⟨e.1.toNat, by omega⟩
          obtain ⟨r, hr⟩ : ∃ r : Nat, Y.2 = (r : Int) := ⟨Y.2.toNat, by omega⟩
          have q4 : (Y.1 == 4) = true := beq_of h4
          have HH2 : Hid (hldE f s c X l e = X q r) := Lib.hid (by rw [HHE.out, if_pos h4, hq, hr, Int.toNat_natCast, Int.toNat_natCast])
          rw [hq, Int.toNat_natCast, H.out.l] at p2
          rw [hr, Int.toNat_natCast] at p4
          have x1 := HGX.out.cell (k := 1) rfl
          rw [hr] at x1
          obtain ⟨b2, o2, u2, i2, r2, d2⟩ := nest_ix (P := Tryz.prog) HX.out 116 Tryz.underlying116 sizeBs (tabB_at X p2)
          obtain ⟨a2, c2, hu2⟩ := rowA_form d2
          rw [rowB_len] at hu2
          subst hu2
          obtain ⟨b3, o3, i3, r3⟩ := leaf_ix (P := Tryz.prog) d2 23 Tryz.underlying23 sizeBo (rowB_at X q p4)
          have NW : New w wc := (N2.out.trans HNW.out).trans NX.out
          have V1 : ∀ z : NewW wc, z.val.cell? ⟨b1, o1, none⟩ = some (.int .i64 (q : Int)) := fun z => by
            have := HR1.out _ ((HNW.out.trans NX.out).trans z.property) 0 _ rfl
            rw [Nat.add_zero, hq] at this
            exact this
          have V2 : ∀ z : NewW wc, z.val.cell? ⟨b2, o2, none⟩ = some (.slice a2 24 c2) := fun z => r2 _ (NW.trans z.property)
          have V3 : ∀ z : NewW wc, z.val.cell? ⟨gx, 1, none⟩ = some (.int .i64 (r : Int)) := fun z => z.property.cell' x1
          have V4 : ∀ z : NewW wc, z.val.cell? ⟨b3, o3, none⟩ = some (.bool (X q r)) := fun z => by
            have := r3 _ (NW.trans z.property) 0 _ rfl
            rw [Nat.add_zero] at this
            exact this
          clear p1 p2 p3 p4 hq hr x1 r2 d2 r3 h4
          cases hb : X q r with
          | true =>
            rw [hb] at V4
            have HT2 : Hid (∀ e ∈ es.take (i + 1), hldE f s c X l e = true) := Lib.hid (by
              intro z hz
              rw [HTK.out, List.mem_append] at hz
              rcases hz with hz | hz
              · exact HT.out z hz
              · simp at hz
                rw [hz, HH2.out, hb])
            clear hb
            go_wp2_with fail
            have hne := newW_any wc
            refine wp_region_new (New.refl wc) (by kernel_rfl) (by kernel_rfl) ?_
            repeat (go_big_quiet_step (fail))
            refine wpQuiet_nil ?_
            intro w6 hn6
            go_wp2_with fail
            go_roundw
            case rel => exact ⟨i + 1, by go_num, by omega, Lib.hid ((HNW.out.trans NX.out).trans hn6), HT2⟩
            case measure => simp [intOf]; omega
          | false =>
            rw [hb] at V4
            have HBF : Hid (B = false) := Lib.hid (by
              rw [← HB.out]
              refine List.all_eq_false.mpr ⟨e, HEM.out, ?_⟩
              rw [HH2.out, hb]
              decide)
            clear hb
            go_wp2_with fail
            have hne := newW_any wc
            refine wp_region_new (New.refl wc) (by kernel_rfl) (by kernel_rfl) ?_
            repeat (go_big_quiet_step (fail))
            refine wpQuiet_nil ?_
            intro w6 hn6
            go_wp2_with fail
            go_ret
            exact ⟨by rw [HBF.out]; rfl, NW.trans hn6⟩
        · have q4 : (Y.1 == 4) = false := bneq_of h4
          have HH2 : Hid (hldE f s c X l e = decide (Y = c)) := Lib.hid (by rw [HHE.out, if_neg h4])
          have hq : ∀ w, (binOp .neq 39 (.agg (srcK Y).toArray) (.agg (srcK c).toArray)).run Tryz.prog w = .ok (.bool (!decide (Y = c))) w := neq_sr Y c
          have B8w := HasC.new B8.out (HNW.out.trans NX.out)
          have u3 := Tryz.underlying3
          have a3 := Tryz.isAgg3
          have u4 := Tryz.underlying2
          have a4 := Tryz.isAgg2
          have NW : New w wc := (N2.out.trans HNW.out).trans NX.out
          clear h4
          by_cases hyc : Y = c
          · rw [decide_eq_true hyc] at hq
            have HT2 : Hid (∀ e ∈ es.take (i + 1), hldE f s c X l e = true) := Lib.hid (by
              intro z hz
              rw [HTK.out, List.mem_append] at hz
              rcases hz with hz | hz
              · exact HT.out z hz
              · simp at hz
                rw [hz, HH2.out]
                exact decide_eq_true hyc)
            clear hyc
            go_wp2_with (first
              | (refine wpList_load_mid rfl 39 (.tmp 15) rfl gx 0 rfl (srcK Y) _ (HasC.all HGX.out) Tryz.underlying39 rfl infoSr ?_)
              | (refine wpList_load_mid rfl 39 (.tmp 8) rfl gc 0 rfl (srcK c) _ (HasC.all B8w) Tryz.underlying39 rfl infoSr ?_))
            go_roundw
            case rel => exact ⟨i + 1, by go_num, by omega, Lib.hid (HNW.out.trans NX.out), HT2⟩
            case measure => simp [intOf]; omega
          · rw [decide_eq_false hyc] at hq
            have HBF : Hid (B = false) := Lib.hid (by
              rw [← HB.out]
              refine List.all_eq_false.mpr ⟨e, HEM.out, ?_⟩
              rw [HH2.out, decide_eq_false hyc]
              decide)
            clear hyc
            go_wp2_with (first
              | (refine wpList_load_mid rfl 39 (.tmp 15) rfl gx 0 rfl (srcK Y) _ (HasC.all HGX.out) Tryz.underlying39 rfl infoSr ?_)
              | (refine wpList_load_mid rfl 39 (.tmp 8) rfl gc 0 rfl (srcK c) _ (HasC.all B8w) Tryz.underlying39 rfl infoSr ?_))
            go_ret
            exact ⟨by rw [HBF.out]; rfl, NW⟩
    · have HBT : Hid (B = true) := Lib.hid (by
        rw [← HB.out]
        refine List.all_eq_true.mpr fun e he => ?_
        rw [HES.out, ← List.take_of_length_le (l := es) (i := i) (by rw [HM.out]; omega)] at he
        exact HT.out e he)
      go_wp2_with fail
      go_ret
      exact ⟨by rw [HBT.out]; rfl, N2.out.trans HNW.out⟩
def PassB (f : List I) (s : Skl) (c : Sc) (X : Bt) (m j : Nat) (b : Bool) (X' : Bt) : Prop := if b = true then sumB s.nodes.length X' < sumB s.nodes.length X else X' = X ∧ (∀ n l, n < m → l < 24 → X n l = true → hldB f s c X n l = true) ∧ ∀ l < j, X m l = true → hldB f s c X m l = true
theorem passB_stay {f : List I} {s : Skl} {c : Sc} {X X' : Bt} {m j : Nat} {b : Bool} (h : PassB f s c X m j b X') (hs : X' m j = true → hldB f s c X' m j = true) : PassB f s c X m (j + 1) b X' := by
  unfold PassB at h ⊢
  cases b with
  | true => exact h
  | false =>
    rw [if_neg (by decide)] at h ⊢
    obtain ⟨h1, h2, h3⟩ := h
    refine ⟨h1, h2, fun l hl => ?_⟩
    by_cases e : l = j
    · rw [e, ← h1]; exact hs
    · exact h3 l (by omega)
theorem passB_less {f : List I} {s : Skl} {c : Sc} {X X' X2 : Bt} {m j : Nat} {b : Bool} (h : PassB f s c X m j b X') (hs : sumB s.nodes.length X2 < sumB s.nodes.length X') : PassB f s c X m (j + 1) true X2 := by
  unfold PassB at h ⊢
  rw [if_pos rfl]
  cases b with
  | true => rw [if_pos rfl] at h; omega
  | false =>
    rw [if_neg (by decide)] at h
    rw [← h.1]
    exact hs
theorem passB_next {f : List I} {s : Skl} {c : Sc} {X X' : Bt} {m : Nat} {b : Bool} (h : PassB f s c X m 24 b X') : PassB f s c X (m + 1) 0 b X' := by
  unfold PassB at h ⊢
  cases b with
  | true => exact h
  | false =>
    rw [if_neg (by decide)] at h ⊢
    obtain ⟨h1, h2, h3⟩ := h
    refine ⟨h1, fun n l hn hl => ?_, fun l hl => absurd hl (Nat.not_lt_zero _)⟩
    by_cases e : n = m
    · rw [e]; exact h3 l hl
    · exact h2 n l (by omega) hl
theorem tab_all (N : Nat) : tabB N (fun _ _ => true) = List.replicate N (List.replicate 24 true) := by
  unfold tabB rowB
  rw [List.map_const', List.map_const', List.length_range, List.length_range]
set_option maxHeartbeats 16000000 in
set_option maxRecDepth 100000 in
theorem said_any {fo : Option Addr} {n fc : Nat} {f : List I} {s : Skl} {kt ct : Nat} {na : Option Addr} {nc N : Nat} (c : Sc) {w : World} (h : RefS w s kt ct na nc N) (hf : FunAt w (.slice fo n fc) f) (hi : InS f s) :
    Calls Tryz.prog 46 #[.slice fo n fc, rsV s kt ct na nc N, .agg #[.int .i64 c.1, .int .i64 c.2]] w fun r w' => ∃ (v : Value) (X : Bt), r = .returned v ∧ Sep w w' [saidO v (tabB N X)] ∧ ∀ m l, m < N → l < 24 → (X m l = true ↔ HasFact f s c m l) := by
  have H := Lib.hid h
  have hN2 := h.l2
  have HF := Lib.hid hf
  have HI := Lib.hid hi
  have HS := Lib.hid (Sep.start w)
  clear h hf hi
  have T1 : Hid True := Lib.hid trivial
  have T2 : Hid True := Lib.hid trivial
  go_enter Tryz.func46, Tryz.ntmps46
  go_wp2_with (first
    | (clear T1; refine wpList_boxB rfl 48 (.tmp 1) rfl (rsC s.entry.1 (.slice (some ⟨kt, 0, none⟩) 24 ct) (.slice na N nc)) rfl HS.out ?_; intro wa gb hs; replace HS := Lib.hid hs; clear hs)
    | (clear T2; refine wpList_boxB rfl 39 (.tmp 2) rfl (srcK c) rfl HS.out ?_; intro wb gc hs; replace HS := Lib.hid hs; clear hs))
  have N5 : Hid (New w wb) := Lib.hid HS.out.nw
  have B4 := Lib.hid (HS.out.has 1 rfl)
  have B5 := Lib.hid (HS.out.has 0 rfl)
  have HS2 := Lib.hid ((Sep.start wb).row0 23 1 (nest boolsO))
  clear HS
  go_loopw [7, 8] (fun sv nv wr => ∃ (k : Nat) (v : Value), v = sv ∧ nv = .int .i64 (k : Int) ∧ k ≤ N ∧ Hid (Sep wb wr [saidO v (List.replicate k (List.replicate 24 true))])) (fun _ nv _ => N - (intOf nv).toNat)
  case atStart => exact ⟨0, _, rfl, rfl, by omega, HS2⟩
  case round =>
    obtain ⟨k, v, rfl, rfl, hk, HT⟩ := hrel
    clear HS2
    have cn := (HasC.new B4.out HT.out.nw).cell (k := 2) rfl
    by_cases hkN : k < N
    · go_wp2_with fail
      go_loopw [9, 10] (fun rv lv wq => ∃ (j : Nat) (u : Value), u = rv ∧ lv = .int .i64 (j : Int) ∧ j ≤ 24 ∧ Hid (Sep wb wq [boolsO u (List.replicate j true), saidO v (List.replicate k (List.replicate 24 true))])) (fun _ lv _ => 24 - (intOf lv).toNat)
      case atStart => exact ⟨0, _, rfl, rfl, by omega, Lib.hid (HT.out.row0 4 1 (leafE fun b => [.bool b]))⟩
      case round =>
        obtain ⟨j, u, rfl, rfl, hj, HU⟩ := hrel
        clear HT cn
        by_cases hj24 : j < 24
        · obtain ⟨ua, uc, hu⟩ := rowA_form (HU.out.rd 0 rfl)
          rw [List.length_replicate] at hu
          subst hu
          have V1 : Hid True := Lib.hid trivial
          have V2 : Hid True := Lib.hid trivial
          go_wp2_with (first
            | (clear V1; refine wpList_bsB rfl 23 4 (.const (.bool true)) rfl Tryz.underlying23 infoBo3 (by decide) (by decide) [.bool true] _ rfl rfl rfl HU.out ?_; intro wc b hs; replace HU := Lib.hid hs; clear hs)
            | (at_builtin; clear V2; refine wpList_appL 1 rfl (.tmp 25) (.tmp 26) 23 4 rfl Tryz.underlying23 infoBo3 rfl (by decide) (by decide) (mk := fun b => [.bool b]) (y := true) HU.out rfl (by rw [List.length_replicate]; omega) rfl rfl (HU.out.has 0 rfl) rfl (by simp [Value.oneCell']) ?_; intro v2 wy hs; rw [← List.replicate_succ'] at hs; replace HU := Lib.hid hs.drop; clear hs))
          go_roundw
          case rel => exact ⟨j + 1, _, rfl, by go_num, by omega, HU⟩
          case measure => simp [intOf]; omega
        · obtain rfl : j = 24 := by omega
          obtain ⟨ra, rc, hu⟩ := rowA_form (HU.out.rd 0 rfl)
          rw [List.length_replicate] at hu
          subst hu
          obtain ⟨sa, sc, hv⟩ := rowA_form (HU.out.rd 1 rfl)
          rw [List.length_replicate] at hv
          subst hv
          have V1 : Hid True := Lib.hid trivial
          have V2 : Hid True := Lib.hid trivial
          go_wp2_with (first
            | (clear V1; refine wpList_bsB rfl 116 23 (.tmp 29) rfl Tryz.underlying116 infoBs3 (by decide) (by decide) [.slice ra 24 rc] _ rfl rfl rfl HU.out ?_; intro wc b hs; have HBB := Lib.hid (hs.has 0 rfl); replace HU := Lib.hid (Sep.nest (P := boolsO) (hs.drop)); clear hs)
            | (at_builtin; clear V2; refine wpList_appI 0 rfl (.tmp 28) (.tmp 30) 116 23 rfl Tryz.underlying116 infoBs3 rfl (by decide) (by decide) (E := nest boolsO) (y := List.replicate 24 true) (cs := [.slice ra 24 rc]) HU.out rfl (by rw [List.length_replicate]; omega) rfl rfl HBB.out rfl (by simp [Value.oneCell']) ?_; intro v2 wy hs; rw [← List.replicate_succ'] at hs; replace HU := Lib.hid hs; clear hs))
          go_roundw
          case rel => exact ⟨k + 1, _, rfl, by go_num, by omega, HU⟩
          case measure => simp [intOf]; omega
    · obtain rfl : k = N := by omega
      rw [← tab_all] at HT
      obtain ⟨sa, sc, hv⟩ := rowA_form (HT.out.rd 0 rfl)
      rw [tabB_len] at hv
      subst hv
      go_wp2_with fail
      clear cn
      go_loopg [11] (sumB k (fun _ _ => true) + 1) (fun gm cv wr => ∃ (X : Bt) (b : Bool), cv = .bool b ∧ gm = (if b = true then sumB k X + 1 else 0) ∧ Hid (Up f s c X) ∧ Hid (b = false → ∀ n l, n < k → l < 24 → X n l = true → hldB f s c X n l = true) ∧ Hid (Sep wb wr [saidO (.slice sa k sc) (tabB k X)]))
      case atStart => exact ⟨fun _ _ => true, true, rfl, rfl, Lib.hid (fun _ _ _ _ _ => rfl), Lib.hid (fun h => by cases h), HT⟩
      case round =>
        clear HT
        obtain ⟨X, b, rfl, hgm, HUP, HST, HT⟩ := hrel
        cases b with
        | false =>
          have hres : ∀ m l, m < k → l < 24 → (X m l = true ↔ HasFact f s c m l) := fun m l hm hl => up_done H.out.g HUP.out (by rw [H.out.l]; exact HST.out rfl) (by rw [H.out.l]; exact hm) hl
          have HRES := Lib.hid hres
          clear hgm hres HST
          go_wp2_with fail
          go_ret
          exact ⟨_, X, rfl, (Sep.of_new N5.out).call HT.out, HRES.out⟩
        | true =>
          have hgm2 := hgm.trans (if_pos rfl)
          clear hgm HST
          go_wp2_with fail
          go_loopw [11, 12] (fun cv nv wq => ∃ (m : Nat) (X' : Bt) (b : Bool), cv = .bool b ∧ nv = .int .i64 (m : Int) ∧ m ≤ k ∧ Hid (Up f s c X') ∧ Hid (PassB f s c X m 0 b X') ∧ Hid (Sep wb wq [saidO (.slice sa k sc) (tabB k X')])) (fun _ nv _ => k - (intOf nv).toNat)
          case atStart => exact ⟨0, X, false, rfl, rfl, by omega, HUP, Lib.hid ⟨rfl, fun _ _ h => absurd h (Nat.not_lt_zero _), fun _ h => absurd h (Nat.not_lt_zero _)⟩, HT⟩
          case round =>
            clear HT
            obtain ⟨m, X', b, rfl, rfl, hm, HUP1, HP, HU⟩ := hrel
            by_cases hmN : m < k
            · have HMN : Hid (m < s.nodes.length) := Lib.hid (by rw [H.out.l]; exact hmN)
              go_wp2_with fail
              go_loopw [11, 13] (fun cv lv wz => ∃ (l : Nat) (X' : Bt) (b : Bool), cv = .bool b ∧ lv = .int .i64 (l : Int) ∧ l ≤ 24 ∧ Hid (Up f s c X') ∧ Hid (PassB f s c X m l b X') ∧ Hid (Sep wb wz [saidO (.slice sa k sc) (tabB k X')])) (fun _ lv _ => 24 - (intOf lv).toNat)
              case atStart => exact ⟨0, X', b, rfl, rfl, by omega, HUP1, HP, HU⟩
              case round =>
                clear HU HP HUP1
                obtain ⟨l, X', b, rfl, rfl, hl, HUP2, HP, HY⟩ := hrel
                by_cases hl24 : l < 24
                · obtain ⟨bx, cx, c5, hv5, _, hrg5, hs5⟩ := HY.out.openAt 0 rfl (tabB_at X' hmN)
                  simp only [Value.slice.injEq] at hv5
                  obtain ⟨hbx, hl5, hcx⟩ := hv5
                  subst hbx
                  subst hcx
                  clear hl5
                  obtain ⟨u58, hc5, hs6⟩ := Sep.unnest hs5
                  subst hc5
                  obtain ⟨bq, cq, c6, hv6, _⟩ := rowA_at (hs6.rd 0 rfl) (rowB_at X' m hl24)
                  rw [rowB_len] at hv6
                  subst hv6
                  have HRL : Hid (l < (rowB X' m).length) := Lib.hid (by rw [rowB_len]; exact hl24)
                  have y57 := hrg5 0 _ rfl
                  rw [Nat.add_zero, Nat.mul_one] at y57
                  have y58 := leaf_at (hs6.rd 0 rfl) (rowB_at X' m hl24) _ (New.refl _) 0 _ rfl
                  rw [Nat.add_zero, Nat.mul_one] at y58
                  have hixn := fun w => ixRow (P := Tryz.prog) Tryz.underlying116 sizeBs bx m k sc hmN w
                  have hixl := fun w => ixRow (P := Tryz.prog) Tryz.underlying23 sizeBo bq l 24 cq hl24 w
                  have B4w := HasC.new B4.out HY.out.nw
                  have B5w := HasC.new B5.out HY.out.nw
                  have HYR := Lib.hid (HY.out.rd 0 rfl)
                  have HZ := Lib.hid hs6
                  clear hs5 hs6 hrg5
                  cases hx : X' m l with
                  | false =>
                    rw [hx] at y58
                    have HP2 := Lib.hid (passB_stay HP.out (fun h => by rw [hx] at h; cases h))
                    clear hx HZ
                    go_wp2_with fail
                    go_roundw
                    case rel => exact ⟨l + 1, X', b, rfl, by go_num, by omega, HUP2, HP2, HY⟩
                    case measure => simp [intOf]; omega
                  | true =>
                    rw [hx] at y58
                    cases hb : hldB f s c X' m l with
                    | true =>
                      have HP2 := Lib.hid (passB_stay HP.out (fun _ => hb))
                      have HB := Lib.hid hb
                      clear hx hb HZ
                      go_wp2_with (first
                        | (refine wpList_ldAG rfl 48 (.tmp 4) rfl gb 0 rfl (rsC s.entry.1 (.slice (some ⟨kt, 0, none⟩) 24 ct) (.slice na k nc)) _ (HasC.all B4w) Tryz.underlying48 rfl infoRs ?_)
                        | (refine wpList_ldAG rfl 39 (.tmp 5) rfl gc 0 rfl (srcK c) _ (HasC.all B5w) Tryz.underlying39 rfl infoSr ?_)
                        | (go_at_call 77; refine (holds_any c X' _ sc m l (H.out.new (N5.out.trans HY.out.nw)) (HF.out.new (N5.out.trans HY.out.nw)) HI.out hl24 hmN HYR.out).mono ?_; rw [HB.out]; rintro e w8 ⟨rfl, hn⟩; replace HY := Lib.hid (HY.out.go hn); clear hn))
                      go_roundw
                      case rel => exact ⟨l + 1, X', b, rfl, by go_num, by omega, HUP2, HP2, HY⟩
                      case measure => simp [intOf]; omega
                    | false =>
                      have HB := Lib.hid hb
                      have HUP3 := Lib.hid (up_step HUP2.out hb)
                      have HP2 := Lib.hid (passB_less HP.out (sumB_lt HMN.out hl24 hx))
                      have HTU := Lib.hid (tabB_upd (N := k) X' (n := m) hl24 false)
                      clear hx hb HY
                      go_wp2_with (first
                        | (refine wpList_ldAG rfl 48 (.tmp 4) rfl gb 0 rfl (rsC s.entry.1 (.slice (some ⟨kt, 0, none⟩) 24 ct) (.slice na k nc)) _ (HasC.all B4w) Tryz.underlying48 rfl infoRs ?_)
                        | (refine wpList_ldAG rfl 39 (.tmp 5) rfl gc 0 rfl (srcK c) _ (HasC.all B5w) Tryz.underlying39 rfl infoSr ?_)
                        | (go_at_call 77; refine (holds_any c X' _ sc m l (H.out.new (N5.out.trans HZ.out.nw)) (HF.out.new (N5.out.trans HZ.out.nw)) HI.out hl24 hmN HYR.out).mono ?_; rw [HB.out]; rintro e w8 ⟨rfl, hn⟩; replace HZ := Lib.hid (HZ.out.go hn); replace y57 := hn.cell' y57; clear hn y58 B4w B5w)
                        | (refine wpList_stL 0 rfl rfl 4 (.tmp 65) (.const (.bool false)) rfl bq 24 cq l HRL.out rfl (y := false) rfl HZ.out rfl rfl rfl infoB1v ?_; intro w9 hs; replace HZ := Lib.hid hs; clear hs y57))
                      have h7 := Sep.nest (P := boolsO) HZ.out
                      have h9 := Sep.back h7 rfl
                      rw [HTU.out] at h9
                      have HV := Lib.hid h9
                      clear h7 h9
                      go_roundw
                      case rel => exact ⟨l + 1, _, true, rfl, by go_num, by omega, HUP3, HP2, HV⟩
                      case measure => simp [intOf]; omega
                · obtain rfl : l = 24 := by omega
                  have HP2 := Lib.hid (passB_next HP.out)
                  go_wp2_with fail
                  go_roundw
                  case rel => exact ⟨m + 1, X', b, rfl, by go_num, by omega, HUP2, HP2, HY⟩
                  case measure => simp [intOf]; omega
            · have hmk : m = k := by omega
              go_wp2_with fail
              go_roundg (if b = true then sumB k X' + 1 else 0)
              case rel =>
                refine ⟨X', b, rfl, rfl, HUP1, Lib.hid fun hc => ?_, HU⟩
                subst hc
                have h0 := HP.out
                unfold PassB at h0
                rw [if_neg (by decide), hmk] at h0
                rw [h0.1]
                exact h0.2.1
              case measure =>
                have hp := HP.out
                unfold PassB at hp
                rw [H.out.l] at hp
                cases b with
                | true =>
                  rw [if_pos rfl] at hp
                  rw [if_pos rfl, hgm2]
                  omega
                | false =>
                  rw [if_neg (by decide), hgm2]
                  omega
end Go.Proofs.YtphopkjgfkaihaaGreatDoor
