/-
  Layer 11: the contracts of value.told and value.way.
  Layer 11: the contracts of value.sameSource, sameWay, sameNode and slices.EqualFunc of what is one and the same.
  Layer 11: the contract of value.way.
  Layer 11: the contracts of value.ended and value.made.
-/
import Derived.Test.YtphopkjgfkaihaaGreatDoorValueA
import Derived.Test.YtphopkjgfkaihaaGreatDoorSkelAll
import Derived.Test.YtphopkjgfkaihaaGreatDoorValuePlain
namespace Go.Proofs.YtphopkjgfkaihaaGreatDoor
open Go.RowKit

/-- What a place has by a way from there, of which the way's table says that. -/
def toldA (f : List I) (s : Skl) (p : Int) (x : Sr) : Sc := if x.1 = 1 then (2, x.2) else if p = -1 then (if x.2 < 8 then (1, x.2) else (0, 0)) else if setsB (insA f (atN s p.toNat)).op = true ∧ (insA f (atN s p.toNat)).d = x.2 then (3, 0) else (4, x.2)
def outE (s : Skl) (e : Int × Int) : Wyo := if e.1 = -1 then s.entry else outN s e.1.toNat e.2.toNat
theorem by_told (f : List I) (s : Skl) (e : Int × Int) (l : Nat) : byA f s e l = toldA f s e.1 ((outE s e).2 l) := by
  unfold byA toldA outE
  by_cases h : e.1 = -1
  · rw [if_pos h, if_pos h, if_pos h]
  · rw [if_neg h, if_neg h, if_neg h]
/-- Is a way there? -/
def hasE (s : Skl) (e : Int × Int) : Prop := (e.1 = -1 ∧ e.2 = 0) ∨ ∃ (j k : Nat) (x : Int × List Wyo), e = ((j : Int), (k : Int)) ∧ s.nodes[j]? = some x ∧ k < x.2.length
theorem edge_has {s : Skl} {n : Int} {e : Int × Int} (h : e ∈ edgesA s n) : hasE s e := by
  rcases edge_in h with ⟨h1, _⟩ | ⟨j, x, k, o, h1, h2, h3, _⟩
  · exact .inl ⟨by rw [h1], by rw [h1]⟩
  · exact .inr ⟨j, k, x, h3, h1, (List.getElem?_eq_some_iff.mp h2).1⟩
/-- All nodes stand at places of the function. -/
def InS (f : List I) (s : Skl) : Prop := ∀ x ∈ s.nodes, 0 ≤ x.1 ∧ x.1 < f.length
theorem inS_skl {f : List I} (hf : (chkF f).2 = 0) (cut : List Bool) : InS f (sklA f cut) := by
  intro x hx
  simp only [sklA, List.mem_map] at hx
  obtain ⟨p, hp, rfl⟩ := hx
  exact ((nodes_nds hf cut).inf p hp).1.2
theorem zeroIs_run (w : World) : (zeroValue 143).run Tryz.prog w = .ok (.agg #[.int .i64 0]) w := Tryz.zeroValue143 w
theorem zeroWas_run (w : World) : (zeroValue 145).run Tryz.prog w = .ok (.agg #[.int .i64 0]) w := Tryz.zeroValue145 w
theorem infoIs : (Tryz.prog.info? 143).map (·.size) = some 1 := by kernel_rfl
theorem infoWas : (Tryz.prog.info? 145).map (·.size) = some 1 := by kernel_rfl
set_option maxHeartbeats 4000000 in
set_option maxRecDepth 100000 in
theorem told_in (fo : Option Addr) (n fc : Nat) (f : List I) (s : Skl) (na : Option Addr) (N nc : Nat) (p : Int) (x : Sr) (w : World) (hl : Laid w) (hf : FunAt w (.slice fo n fc) f) (hs : (nodesO (.slice na N nc) s.nodes).rd w) (hN : s.nodes.length = N) (hp : p = -1 ∨ 0 ≤ p ∧ p < N) (hi : InS f s) (hx : okS x = true) :
    Calls Tryz.prog 38 #[.slice fo n fc, .agg (skC s.entry (.slice na N nc)).toArray, .int .i64 p, sv x] w fun e w' => e = .returned (.agg (srcK (toldA f s p x)).toArray) ∧ New w w' := by
  have HL := Lib.hid hl
  have HF := Lib.hid hf
  have HR := Lib.hid hs
  have HS := Lib.hid (Sep.start w)
  obtain ⟨k, m⟩ := x
  rcases ok_cases hx with h | ⟨h, hm0, hm1⟩
  · have h' : k = 1 := h
    subst h'
    rw [sv_is]
    have k1 := ta_ii m
    have e0 : toldA f s p (1, m) = (2, m) := rfl
    rw [e0]
    clear h hx hl hf hs hi hp
    unfold isV
    have T1 : Hid True := Lib.hid trivial
    have T2 : Hid True := Lib.hid trivial
    have T3 : Hid True := Lib.hid trivial
    have T4 : Hid True := Lib.hid trivial
    have T5 : Hid True := Lib.hid trivial
    have T6 : Hid True := Lib.hid trivial
    go_enter Tryz.func38, Tryz.ntmps38
    go_wp2_with (first
      | (clear T1; refine wpList_boxB rfl 34 (.tmp 1) rfl (skC s.entry (.slice na N nc)) rfl HS.out ?_; intro wa gb hs; replace HS := Lib.hid hs; clear hs)
      | (clear T2; refine wpList_alB rfl 39 rfl _ zeroSr_run _ rfl HS.out ?_; intro wb g hs; replace HS := Lib.hid hs; clear hs)
      | (clear T3; refine wpList_alB rfl 143 rfl _ zeroIs_run [.int .i64 0] rfl HS.out ?_; intro wc gk hs; replace HS := Lib.hid hs; clear hs)
      | (clear T4; refine wpList_stSW 0 rfl rfl 143 (.tmp 9) (.tmp 14) rfl gk rfl _ rfl HS.out rfl [.int .i64 m] rfl rfl (by simp [Value.oneCell']) infoIs ?_; intro wd hs; replace HS := Lib.hid hs; have ck := HS.out.cell 0 rfl (k := 0) rfl; clear hs)
      | (clear T5; refine wpList_bd2 (a := .int .i64 2) (b := .int .i64 m) rfl 39 0 1 (.const (.int .i64 2)) (.tmp 16) rfl rfl rfl (build_Sr2 2 m) ?_)
      | (clear T6; refine wpList_stSW 1 rfl rfl 39 (.tmp 8) (.tmp 17) rfl g rfl _ rfl HS.out rfl (srcK (2, m)) rfl rfl (srcK_one _) infoSr ?_; intro w2 hs; replace HS := Lib.hid hs; clear hs ck))
    exact bodyPost_ret (resSr _ rfl _ _ g _ rfl (HS.out.has 1 rfl)) rfl ⟨rfl, HS.out.nw⟩
  · have h' : k = 0 := h
    subst h'
    rw [sv_was]
    have k1 := ta_wi m
    have k2 := ta_ww m
    clear h hx hl hf hs
    unfold wasV
    by_cases hp1 : p = -1
    · have e0 : toldA f s p (0, m) = if regB m = true then (1, m) else (0, 0) := by
        show (if p = -1 then (if m < 8 then (1, m) else (0, 0)) else _) = _
        rw [if_pos hp1]
        have hr : regB m = decide (0 ≤ m ∧ m < 8) := rfl
        by_cases h8 : m < 8
        · have h9 : regB m = true := by rw [hr]; exact decide_eq_true ⟨hm0, h8⟩
          rw [if_pos h8, if_pos h9]
        · have h9 : ¬ regB m = true := by rw [hr]; exact fun e => h8 (of_decide_eq_true e).2
          rw [if_neg h8, if_neg h9]
      obtain ⟨R, HRR⟩ : ∃ R : Sc, Hid ((if regB m = true then (1, m) else (0, 0)) = R) := ⟨_, Lib.hid rfl⟩
      rw [e0, HRR.out]
      have q1 : (p == -1) = true := beq_of hp1
      clear e0 hp hi hp1
      have T1 : Hid True := Lib.hid trivial
      have T2 : Hid True := Lib.hid trivial
      have T3 : Hid True := Lib.hid trivial
      have T4 : Hid True := Lib.hid trivial
      have T5 : Hid True := Lib.hid trivial
      have T6 : Hid True := Lib.hid trivial
      go_enter Tryz.func38, Tryz.ntmps38
      go_wp2_with (first
        | (clear T1; refine wpList_boxB rfl 34 (.tmp 1) rfl (skC s.entry (.slice na N nc)) rfl HS.out ?_; intro wa gb hs; replace HS := Lib.hid hs; clear hs)
        | (clear T2; refine wpList_alB rfl 39 rfl _ zeroSr_run _ rfl HS.out ?_; intro wb g hs; replace HS := Lib.hid hs; clear hs)
        | (clear T3; refine wpList_alB rfl 145 rfl _ zeroWas_run [.int .i64 0] rfl HS.out ?_; intro wc gk hs; replace HS := Lib.hid hs; clear hs)
        | (clear T4; refine wpList_stSW 0 rfl rfl 145 (.tmp 10) (.tmp 20) rfl gk rfl _ rfl HS.out rfl [.int .i64 m] rfl rfl (by simp [Value.oneCell']) infoWas ?_; intro wd hs; replace HS := Lib.hid hs; have ck := HS.out.cell 0 rfl (k := 0) rfl; clear hs)
        | (clear T5; go_at_call 69; refine (given_any m _).mono ?_; rw [HRR.out]; rintro e w1 ⟨rfl, hn⟩; replace HS := Lib.hid (HS.out.go hn); clear hn)
        | (clear T6; refine wpList_stSW 1 rfl rfl 39 (.tmp 8) (.tmp 25) rfl g rfl _ rfl HS.out rfl (srcK R) rfl rfl (srcK_one _) infoSr ?_; intro w2 hs; replace HS := Lib.hid hs; clear hs ck))
      exact bodyPost_ret (resSr _ rfl _ _ g _ rfl (HS.out.has 1 rfl)) rfl ⟨rfl, HS.out.nw⟩
    · obtain ⟨q, rfl⟩ : ∃ q : Nat, p = (q : Int) := ⟨p.toNat, by omega⟩
      have hq : q < s.nodes.length := by omega
      obtain ⟨y, hy⟩ : ∃ y, s.nodes[q]? = some y := ⟨_, List.getElem?_eq_getElem hq⟩
      have hat : atN s q = y.1 := by
        unfold atN
        rw [List.getD_eq_getElem?_getD, hy]
        rfl
      obtain ⟨hi0, hi1⟩ := hi y (List.mem_of_getElem? hy)
      obtain ⟨t, ht⟩ : ∃ t : Nat, y.1 = (t : Int) := ⟨y.1.toNat, by omega⟩
      have hlen := HF.out.len
      obtain ⟨fb, fp, z, hz, hix, hrg⟩ := HF.out.ix (i := t) (by omega)
      have hzi : insA f y.1 = z := by
        unfold insA
        rw [ht, List.getD_eq_getElem?_getD, Int.toNat_natCast, hz]
        rfl
      have e0 : toldA f s (q : Int) (0, m) = if setsB z.op = true ∧ z.d = m then (3, 0) else (4, m) := by
        show (if (q : Int) = -1 then (if m < 8 then (1, m) else (0, 0)) else if setsB (insA f (atN s ((q : Int)).toNat)).op = true ∧ (insA f (atN s ((q : Int)).toNat)).d = m then (3, 0) else (4, m)) = _
        rw [if_neg hp1, Int.toNat_natCast, hat, hzi]
      rw [e0]
      have q1 : ((q : Int) == -1) = false := bneq_of hp1
      obtain ⟨b, o, c, _, hix2, hrg2, hE⟩ := rowA_ix (P := Tryz.prog) HR.out 32 Tryz.underlying32 sizeNd hy
      obtain ⟨vo, hc, _⟩ := node_rd hE
      subst hc
      rw [ht] at hrg2
      have HG := Lib.hid hrg
      have HG2 := Lib.hid hrg2
      obtain ⟨R, HRR⟩ : ∃ R : Sc, Hid ((if setsB z.op = true ∧ z.d = m then (3, 0) else (4, m)) = R) := ⟨_, Lib.hid rfl⟩
      rw [HRR.out]
      clear e0 hp hi hp1 hy hat hi0 hi1 ht hzi hrg hrg2 hE hz
      have T1 : Hid True := Lib.hid trivial
      have T2 : Hid True := Lib.hid trivial
      have T3 : Hid True := Lib.hid trivial
      have T4 : Hid True := Lib.hid trivial
      go_enter Tryz.func38, Tryz.ntmps38
      go_wp2_with (first
        | (clear T1; refine wpList_boxB rfl 34 (.tmp 1) rfl (skC s.entry (.slice na N nc)) rfl HS.out ?_; intro wa gb hs; replace HS := Lib.hid hs; clear hs)
        | (clear T2; refine wpList_alB rfl 39 rfl _ zeroSr_run _ rfl HS.out ?_; intro wb g hs; replace HS := Lib.hid hs; clear hs)
        | (clear T3; refine wpList_alB rfl 145 rfl _ zeroWas_run [.int .i64 0] rfl HS.out ?_; intro wc gk hs; replace HS := Lib.hid hs; clear hs)
        | (clear T4; refine wpList_stSW 0 rfl rfl 145 (.tmp 10) (.tmp 20) rfl gk rfl _ rfl HS.out rfl [.int .i64 m] rfl rfl (by simp [Value.oneCell']) infoWas ?_; intro wd hs; replace HS := Lib.hid hs; have ck := HS.out.cell 0 rfl (k := 0) rfl; clear hs))
      have N0 : New w wd := HS.out.nw
      have S0 : New wd wd.drew := (New.refl wd).drew
      have cn := HS.out.cell 2 rfl (skC_nd _ _)
      refine wp_region_noPanic ?_
      refine region_late (k := 12) (S := fun w' => New wd w') (by kernel_rfl) S0 (fun _ => ?_)
      refine late_take (i := 0) (v := .slice fo n fc) rfl (by kernel_rfl) (by kernel_rfl) (by kernel_rfl) (by kernel_rfl) (fun _ _ _ h => h) (Or.inl ⟨rfl, fun _ _ => by go_simp⟩) S0 ?_
      simp only [List.getElem_toArray, List.getElem_cons_zero, Act.put, List.setIfInBounds_toArray, List.set_cons_zero, List.set_cons_succ]
      refine late_take (i := 1) (v := .pointer (some ⟨gb, 25, none⟩)) rfl (by kernel_rfl) (by kernel_rfl) (by kernel_rfl) (by kernel_rfl) (fun _ _ _ h => h) (Or.inl ⟨rfl, fun _ _ => by go_simp⟩) S0 ?_
      simp only [List.getElem_toArray, List.getElem_cons_zero, List.getElem_cons_succ, Act.put, List.setIfInBounds_toArray, List.set_cons_zero, List.set_cons_succ]
      refine late_take (i := 2) (v := .slice na N nc) rfl (by kernel_rfl) (by kernel_rfl) (by kernel_rfl) (by kernel_rfl) (fun _ _ _ h => h) (ldV_if rfl 32 Tryz.isAgg32 (.tmp 27) rfl ⟨gb, 25, none⟩ rfl (fun w' h => h.cell' cn)) S0 ?_
      simp only [List.getElem_toArray, List.getElem_cons_zero, List.getElem_cons_succ, Act.put, List.setIfInBounds_toArray, List.set_cons_zero, List.set_cons_succ]
      refine late_take (i := 3) (v := .int .i64 (q : Int)) rfl (by kernel_rfl) (by kernel_rfl) (by kernel_rfl) (by kernel_rfl) (fun _ _ _ h => h) (Or.inl ⟨rfl, fun _ _ => by go_simp⟩) S0 ?_
      simp only [List.getElem_toArray, List.getElem_cons_zero, List.getElem_cons_succ, Act.put, List.setIfInBounds_toArray, List.set_cons_zero, List.set_cons_succ]
      refine late_take (i := 4) (v := .pointer (some ⟨b, o, none⟩)) rfl (by kernel_rfl) (by kernel_rfl) (by kernel_rfl) (by kernel_rfl) (fun _ _ _ h => h) (ixV_if rfl 32 (.tmp 28) (.tmp 29) rfl _ _ _ rfl rfl hix2) S0 ?_
      simp only [List.getElem_toArray, List.getElem_cons_zero, List.getElem_cons_succ, Act.put, List.setIfInBounds_toArray, List.set_cons_zero, List.set_cons_succ]
      refine late_take (i := 5) (v := .pointer (some ⟨b, o, none⟩)) rfl (by kernel_rfl) (by kernel_rfl) (by kernel_rfl) (by kernel_rfl) (fun _ _ _ h => h) (Or.inl ⟨rfl, fun _ _ => by go_simp⟩) S0 ?_
      simp only [List.getElem_toArray, List.getElem_cons_zero, List.getElem_cons_succ, Act.put, List.setIfInBounds_toArray, List.set_cons_zero, List.set_cons_succ]
      refine late_take (i := 6) (v := .int .i64 (t : Int)) rfl (by kernel_rfl) (by kernel_rfl) (by kernel_rfl) (by kernel_rfl) (fun _ _ _ h => h) (ldV_if rfl 3 Tryz.isAgg3 (.tmp 31) rfl ⟨b, o, none⟩ rfl (fun w' h => HG2.out _ (N0.trans h) 0 _ rfl)) S0 ?_
      simp only [List.getElem_toArray, List.getElem_cons_zero, List.getElem_cons_succ, Act.put, List.setIfInBounds_toArray, List.set_cons_zero, List.set_cons_succ]
      refine late_take (i := 7) (v := .pointer (some ⟨fb, fp, none⟩)) rfl (by kernel_rfl) (by kernel_rfl) (by kernel_rfl) (by kernel_rfl) (fun _ _ _ h => h) (ixV_if rfl 22 (.tmp 26) (.tmp 32) rfl _ _ _ rfl rfl hix) S0 ?_
      simp only [List.getElem_toArray, List.getElem_cons_zero, List.getElem_cons_succ, Act.put, List.setIfInBounds_toArray, List.set_cons_zero, List.set_cons_succ]
      refine late_take (i := 8) (v := .agg #[.int .i64 (z).op, .int .i64 (z).d, .int .i64 (z).a, .int .i64 (z).b, .int .i64 (z).n, .int .i64 (z).t]) rfl (by kernel_rfl) (by kernel_rfl) (by kernel_rfl) (by kernel_rfl) (fun _ _ _ h => h) (yieldsIf_load_mid (by rfl) _ _ rfl fb fp rfl (cells6 z) _ (fun w' h => HG.out _ (N0.trans h)) Tryz.underlying79 rfl (by rw [cells6_len]; exact infoI)) S0 ?_
      simp only [List.getElem_toArray, List.getElem_cons_zero, List.getElem_cons_succ, Act.put, List.setIfInBounds_toArray, List.set_cons_zero, List.set_cons_succ]
      refine late_take (i := 9) (v := .pointer (some ⟨gk, 0, none⟩)) rfl (by kernel_rfl) (by kernel_rfl) (by kernel_rfl) (by kernel_rfl) (fun _ _ _ h => h) (Or.inl ⟨rfl, fun _ _ => by go_simp⟩) S0 ?_
      simp only [List.getElem_toArray, List.getElem_cons_zero, List.getElem_cons_succ, Act.put, List.setIfInBounds_toArray, List.set_cons_zero, List.set_cons_succ]
      refine late_take (i := 10) (v := .int .i64 m) rfl (by kernel_rfl) (by kernel_rfl) (by kernel_rfl) (by kernel_rfl) (fun _ _ _ h => h) (ldV_if rfl 3 Tryz.isAgg3 (.tmp 35) rfl ⟨gk, 0, none⟩ rfl (fun w' h => h.cell' ck)) S0 ?_
      simp only [List.getElem_toArray, List.getElem_cons_zero, List.getElem_cons_succ, Act.put, List.setIfInBounds_toArray, List.set_cons_zero, List.set_cons_succ]
      refine late_forced [11, 12] _ _ _ (by kernel_rfl) ?_
      have hS := HS.out.go S0
      refine LL_call rfl rfl 70 #[.agg #[.int .i64 (z).op, .int .i64 (z).d, .int .i64 (z).a, .int .i64 (z).b, .int .i64 (z).n, .int .i64 (z).t], .int .i64 m] (by go_simp) ?_
      refine (left_any z m _ (HL.out.new hS.nw)).mono ?_
      rw [HRR.out]
      rintro e w2 ⟨rfl, hn⟩
      have hS2 := hS.go hn
      refine ⟨_, rfl, S0.trans hn, ?_⟩
      simp only [List.getElem_toArray, List.getElem_cons_zero, List.getElem_cons_succ, Act.put, List.setIfInBounds_toArray, List.set_cons_zero, List.set_cons_succ]
      have hst : (Instr.storeAt 39 (.pointer (some ⟨g, 0, none⟩)) (.agg (srcK R).toArray)).run Tryz.prog w2 = .ok () (putO w2 g (.cells (srcK R).toArray 39 (0, 0))) := HasC.store (hS2.has 1 rfl) 0 (srcK R) 39 (.agg (srcK R).toArray) rfl (by simp [srcK]) (srcK_one R) infoSr
      refine LL_skip rfl rfl rfl (run_stO 39 (.tmp 8) (.tmp 37) rfl rfl rfl hst) (fun h => absurd rfl h) ?_
      have hfin := hS2.setAt 1 rfl (Kept.put w2 g (.cells (srcK R).toArray 39 (0, 0))) (HasC.put (hS2.has 1 rfl) _)
      clear hst
      generalize putO w2 g (.cells (srcK R).toArray 39 (0, 0)) = w3 at hfin ⊢
      replace HS := Lib.hid hfin
      refine NoPanic.normal ?_
      clear hfin hS hS2 ck cn S0 hn
      go_wp2
      exact bodyPost_ret (resSr _ rfl _ _ g _ rfl (HS.out.has 1 rfl)) rfl ⟨rfl, HS.out.nw⟩
theorem told_any {fv : Value} {f : List I} {s : Skl} {v : Value} {p : Int} {x : Sr} {w : World} (hl : Laid w) (hf : FunAt w fv f) (hs : (nodesO v s.nodes).rd w) (hp : p = -1 ∨ 0 ≤ p ∧ p < s.nodes.length) (hi : InS f s) (hx : okS x = true) :
    Calls Tryz.prog 38 #[fv, .agg (skC s.entry v).toArray, .int .i64 p, sv x] w fun e w' => e = .returned (.agg (srcK (toldA f s p x)).toArray) ∧ New w w' := by
  obtain ⟨fo, fc, rfl⟩ := hf.form
  obtain ⟨na, nc, rfl⟩ := rowA_form hs
  exact told_in fo _ fc f s na _ nc p x w hl hf hs rfl hp hi hx
end Go.Proofs.YtphopkjgfkaihaaGreatDoor
namespace Go.Proofs.YtphopkjgfkaihaaGreatDoor
open Go.RowKit

theorem eqIn_w1 (d : Nat) (a : Int) (w : World) : (Op.equalIn (d + 2) 145 (.agg #[.int .i64 a]) (.agg #[.int .i64 a])).run Tryz.prog w = .ok true w := by
  have hS : Tryz.prog.underlying 145 = some (.struct (Tryz.prog.fieldsOf 145)) := by kernel_rfl
  rw [run_equalIn_agg w (d + 1) 145 _ _ hS (by kernel_rfl)]
  simp only [Program.fieldsOf, Tryz.underlying145]
  have u3 := Tryz.underlying3
  have a3 := Tryz.isAgg3
  go_simp
theorem eqIn_i1 (d : Nat) (a : Int) (w : World) : (Op.equalIn (d + 2) 143 (.agg #[.int .i64 a]) (.agg #[.int .i64 a])).run Tryz.prog w = .ok true w := by
  have hS : Tryz.prog.underlying 143 = some (.struct (Tryz.prog.fieldsOf 143)) := by kernel_rfl
  rw [run_equalIn_agg w (d + 1) 143 _ _ hS (by kernel_rfl)]
  simp only [Program.fieldsOf, Tryz.underlying143]
  have u3 := Tryz.underlying2
  have a3 := Tryz.isAgg2
  go_simp
theorem eql_w1 (a : Int) (w : World) : (binOp .eql 145 (.agg #[.int .i64 a]) (.agg #[.int .i64 a])).run Tryz.prog w = .ok (.bool true) w := by
  rw [run_eql_struct, show (10000 : Nat) = 9998 + 2 from rfl, eqIn_w1 9998 _ w]
  simp
theorem eql_i1 (a : Int) (w : World) : (binOp .eql 143 (.agg #[.int .i64 a]) (.agg #[.int .i64 a])).run Tryz.prog w = .ok (.bool true) w := by
  rw [run_eql_struct, show (10000 : Nat) = 9998 + 2 from rfl, eqIn_i1 9998 _ w]
  simp
set_option maxHeartbeats 1000000 in
set_option maxRecDepth 100000 in
theorem sameS_any (x : Sr) (w : World) (hx : okS x = true) : Calls Tryz.prog 97 #[sv x, sv x] w fun e w' => e = .returned (.bool true) ∧ New w w' := by
  have HS := Lib.hid (Sep.start w)
  obtain ⟨k, m⟩ := x
  rcases ok_cases hx with h | ⟨h, _, _⟩
  · have h' : k = 1 := h
    subst h'
    rw [sv_is]
    have hE := eql_i1 m
    clear h hx
    have k1 := ta_iw m
    have k2 := ta_ii m
    unfold isV
    have T1 : Hid True := Lib.hid trivial
    have T2 : Hid True := Lib.hid trivial
    have T3 : Hid True := Lib.hid trivial
    have T4 : Hid True := Lib.hid trivial
    have T5 : Hid True := Lib.hid trivial
    have T6 : Hid True := Lib.hid trivial
    go_enter Tryz.func97, Tryz.ntmps97
    go_wp2_with (first
      | (clear T1; refine wpList_alB rfl 143 rfl _ zeroIs_run [.int .i64 0] rfl HS.out ?_; intro wc gk hs; replace HS := Lib.hid hs; clear hs)
      | (clear T2; refine wpList_stSW 0 rfl rfl 143 (.tmp 8) (.tmp 28) rfl gk rfl _ rfl HS.out rfl [.int .i64 m] rfl rfl (by simp [Value.oneCell']) infoIs ?_; intro wd hs; replace HS := Lib.hid hs; clear hs)
      | (clear T3; refine wpList_alB rfl 143 rfl _ zeroIs_run [.int .i64 0] rfl HS.out ?_; intro we gj hs; replace HS := Lib.hid hs; clear hs)
      | (clear T4; refine wpList_stSW 0 rfl rfl 143 (.tmp 9) (.tmp 32) rfl gj rfl _ rfl HS.out rfl [.int .i64 m] rfl rfl (by simp [Value.oneCell']) infoIs ?_; intro wf hs; replace HS := Lib.hid hs; have ck := HS.out.cell 1 rfl (k := 0) rfl; have cj := HS.out.cell 0 rfl (k := 0) rfl; clear hs)
      | (clear T5; refine wpList_ldAG rfl 143 (.tmp 9) rfl gj 0 rfl [.int .i64 m] _ (HasC.all (HS.out.has 0 rfl)) Tryz.underlying143 rfl infoIs ?_)
      | (clear T6; refine wpList_ldAG rfl 143 (.tmp 8) rfl gk 0 rfl [.int .i64 m] _ (HasC.all (HS.out.has 1 rfl)) Tryz.underlying143 rfl infoIs ?_))
    go_ret
    exact ⟨rfl, HS.out.nw⟩
  · have h' : k = 0 := h
    subst h'
    rw [sv_was]
    have hE := eql_w1 m
    clear h hx
    have k1 := ta_ww m
    unfold wasV
    have T1 : Hid True := Lib.hid trivial
    have T2 : Hid True := Lib.hid trivial
    have T3 : Hid True := Lib.hid trivial
    have T4 : Hid True := Lib.hid trivial
    have T5 : Hid True := Lib.hid trivial
    have T6 : Hid True := Lib.hid trivial
    go_enter Tryz.func97, Tryz.ntmps97
    go_wp2_with (first
      | (clear T1; refine wpList_alB rfl 145 rfl _ zeroWas_run [.int .i64 0] rfl HS.out ?_; intro wc gk hs; replace HS := Lib.hid hs; clear hs)
      | (clear T2; refine wpList_stSW 0 rfl rfl 145 (.tmp 5) (.tmp 14) rfl gk rfl _ rfl HS.out rfl [.int .i64 m] rfl rfl (by simp [Value.oneCell']) infoWas ?_; intro wd hs; replace HS := Lib.hid hs; clear hs)
      | (clear T3; refine wpList_alB rfl 145 rfl _ zeroWas_run [.int .i64 0] rfl HS.out ?_; intro we gj hs; replace HS := Lib.hid hs; clear hs)
      | (clear T4; refine wpList_stSW 0 rfl rfl 145 (.tmp 6) (.tmp 18) rfl gj rfl _ rfl HS.out rfl [.int .i64 m] rfl rfl (by simp [Value.oneCell']) infoWas ?_; intro wf hs; replace HS := Lib.hid hs; have ck := HS.out.cell 1 rfl (k := 0) rfl; have cj := HS.out.cell 0 rfl (k := 0) rfl; clear hs)
      | (clear T5; refine wpList_ldAG rfl 145 (.tmp 6) rfl gj 0 rfl [.int .i64 m] _ (HasC.all (HS.out.has 0 rfl)) Tryz.underlying145 rfl infoWas ?_)
      | (clear T6; refine wpList_ldAG rfl 145 (.tmp 5) rfl gk 0 rfl [.int .i64 m] _ (HasC.all (HS.out.has 1 rfl)) Tryz.underlying145 rfl infoWas ?_))
    go_ret
    exact ⟨rfl, HS.out.nw⟩
theorem outK_t1 (o : Wyo) : ∀ j v, (cellsT o.2).toList[j]? = some v → (outK o)[1 + j]? = some v := by
  intro j v h
  rw [Nat.add_comm]
  exact h
set_option maxHeartbeats 2000000 in
set_option maxRecDepth 100000 in
theorem sameW_any (o : Wyo) (w : World) (hg : goodT o.2 = true) : Calls Tryz.prog 66 #[.agg (outK o).toArray, .agg (outK o).toArray] w fun e w' => e = .returned (.bool true) ∧ New w w' := by
  have HS := Lib.hid (Sep.start w)
  have HX : Hid (∀ k : Nat, k < 24 → ∀ w : World, (Instr.index 29 (.agg (cellsT o.2)) (.int .i64 (k : Int))).run Tryz.prog w = .ok (sv (o.2 k)) w) := Lib.hid (fun k hk w => run_ixT o.2 k hk w)
  have HG := Lib.hid hg
  clear hg
  have T1 : Hid True := Lib.hid trivial
  have T2 : Hid True := Lib.hid trivial
  have T3 : Hid True := Lib.hid trivial
  go_enter Tryz.func66, Tryz.ntmps66
  go_wp2_with (first
    | (clear T1; refine wpList_boxB rfl 31 (.tmp 0) rfl (outK o) rfl HS.out ?_; intro wa ga hs; replace HS := Lib.hid hs; clear hs)
    | (clear T2; refine wpList_boxB rfl 31 (.tmp 1) rfl (outK o) rfl HS.out ?_; intro wb gb hs; replace HS := Lib.hid hs; have ca := HS.out.cell 1 rfl (k := 0) rfl; have cb := HS.out.cell 0 rfl (k := 0) rfl; clear hs)
    | (clear T3; refine wpList_load_mid rfl 29 (.tmp 12) rfl ga 1 rfl (cellsT o.2).toList _ (fun j v hv => HS.out.cell 1 rfl (outK_t1 o j v hv)) Tryz.underlying29 rfl (by rw [cellsT_len]; exact infoT) ?_))
  clear ca cb
  go_loopw [14] (fun kv wr => ∃ k : Nat, kv = .int .i64 k ∧ k ≤ 24 ∧ Hid (New wb wr)) (fun kv wr => 24 - (intOf kv).toNat)
  case atStart => exact ⟨0, rfl, by omega, Lib.hid (New.refl _)⟩
  case round =>
    obtain ⟨k, rfl, hk, HN⟩ := hrel
    have HT := Lib.hid (HS.out.go HN.out)
    by_cases hk24 : k < 24
    · have hx := HX.out k hk24
      have hc : (outK o)[1 + k]? = some (sv (o.2 k)) := outK_t1 o k _ (by rw [Array.getElem?_toList]; exact cellsT_at o.2 hk24)
      have cx := HT.out.cell 0 rfl hc
      clear hc
      go_wp2_with (go_at_call 97; refine (sameS_any (o.2 k) _ (good_at HG.out hk24)).mono ?_; rintro e w1 ⟨rfl, hn1⟩)
      go_roundw
      case rel => exact ⟨k + 1, by go_num, hk24, Lib.hid (HN.out.trans hn1)⟩
      case measure => simp [intOf]; omega
    · go_wp2
      go_ret
      exact ⟨rfl, HT.out.nw⟩
set_option maxHeartbeats 4000000 in
set_option maxRecDepth 100000 in
theorem eqFo {v1 v2 : Value} {xs : List (Wyo)} {w : World} (h1 : (outsA v1 xs).rd w) (h2 : (outsA v2 xs).rd w) (hg : ∀ o ∈ xs, goodT o.2 = true) (hl : xs.length ≤ 1000) :
    Calls Tryz.prog 98 #[v1, v2, .func (.func 66) #[] #[]] w fun e w' => e = .returned (.bool true) ∧ New w w' := by
  have HS := Lib.hid (Sep.start w)
  obtain ⟨na, nc, rfl⟩ := rowA_form h1
  obtain ⟨ma, mc, rfl⟩ := rowA_form h2
  obtain ⟨N, HN⟩ : ∃ N, Hid (xs.length = N) := ⟨_, Lib.hid rfl⟩
  rw [HN.out] at h1 h2 hl ⊢
  have H1 := Lib.hid h1
  have H2 := Lib.hid h2
  have HG := Lib.hid hg
  clear h1 h2 hg
  go_enter Tryz.func98, Tryz.ntmps98
  go_wp2_with fail
  go_loopw [17] (fun kv wr => ∃ k : Nat, kv = .int .i64 k ∧ k ≤ N ∧ Hid (New w wr)) (fun kv wr => N - (intOf kv).toNat)
  case atStart => exact ⟨0, rfl, by omega, Lib.hid (New.refl _)⟩
  case round =>
    obtain ⟨k, rfl, hk, HNW⟩ := hrel
    have HT := Lib.hid (HS.out.go HNW.out)
    by_cases hkN : k < N
    · obtain ⟨x, hx⟩ : ∃ x, xs[k]? = some x := ⟨_, List.getElem?_eq_getElem (by rw [HN.out]; exact hkN)⟩
      obtain ⟨b1, o1, i1, r1⟩ := leaf_ix (P := Tryz.prog) H1.out 80 Tryz.underlying80 sizeOt hx
      obtain ⟨b2, o2, i2, r2⟩ := leaf_ix (P := Tryz.prog) H2.out 80 Tryz.underlying80 sizeOt hx
      have HG1 := Lib.hid r1
      have HG2 := Lib.hid r2
      have HGX := Lib.hid (HG.out x (List.mem_of_getElem? hx))
      clear hx r1 r2
      have U1 : Hid True := Lib.hid trivial
      have U2 : Hid True := Lib.hid trivial
      have U3 : Hid True := Lib.hid trivial
      have U4 : Hid True := Lib.hid trivial
      have U5 : Hid True := Lib.hid trivial
      have U6 : Hid True := Lib.hid trivial
      have U7 : Hid True := Lib.hid trivial
      have U8 : Hid True := Lib.hid trivial
      have U9 : Hid True := Lib.hid trivial
      go_wp2_with (first
        | (clear U1; refine wpList_load_mid rfl 31 (.tmp 20) rfl b1 o1 rfl (outK x) _ (HG1.out _ HT.out.nw) Tryz.underlying31 rfl (by rw [outK_len]; exact infoO) ?_)
        | (clear U2; refine wpList_alB rfl 31 rfl _ zeroOt_run _ rfl HT.out ?_; intro w1 g1 hs; replace HT := Lib.hid hs; clear hs)
        | (clear U3; refine wpList_stSW 0 rfl rfl 31 (.tmp 8) (.tmp 21) rfl g1 rfl _ rfl HT.out rfl (outK x) rfl (by rw [outK_len, outK_len]) (outK_one _) (by rw [outK_len]; exact infoO) ?_; intro w2 hs; replace HT := Lib.hid hs; clear hs)
        | (clear U4; refine wpList_load_mid rfl 31 (.tmp 24) rfl b2 o2 rfl (outK x) _ (HG2.out _ HT.out.nw) Tryz.underlying31 rfl (by rw [outK_len]; exact infoO) ?_)
        | (clear U5; refine wpList_alB rfl 31 rfl _ zeroOt_run _ rfl HT.out ?_; intro w3 g2 hs; replace HT := Lib.hid hs; clear hs)
        | (clear U6; refine wpList_stSW 0 rfl rfl 31 (.tmp 9) (.tmp 25) rfl g2 rfl _ rfl HT.out rfl (outK x) rfl (by rw [outK_len, outK_len]) (outK_one _) (by rw [outK_len]; exact infoO) ?_; intro w4 hs; replace HT := Lib.hid hs; clear hs)
        | (clear U7; refine wpList_load_mid rfl 31 (.tmp 8) rfl g1 0 rfl (outK x) _ (HasC.all (HT.out.has 1 rfl)) Tryz.underlying31 rfl (by rw [outK_len]; exact infoO) ?_)
        | (clear U8; refine wpList_load_mid rfl 31 (.tmp 9) rfl g2 0 rfl (outK x) _ (HasC.all (HT.out.has 0 rfl)) Tryz.underlying31 rfl (by rw [outK_len]; exact infoO) ?_)
        | (clear U9; go_at_call 66; refine (sameW_any x _ HGX.out).mono ?_; rintro e w5 ⟨rfl, hn⟩; replace HT := Lib.hid (HT.out.go hn); clear hn))
      go_roundw
      case rel => exact ⟨k + 1, by go_num, by omega, Lib.hid HT.out.nw⟩
      case measure => simp [intOf]; omega
    · go_wp2_with fail
      go_ret
      exact ⟨rfl, HNW.out⟩
set_option maxHeartbeats 2000000 in
set_option maxRecDepth 100000 in
theorem sameN_is (p : Int) {v1 v2 : Value} {xs : List Wyo} {w : World} (h1 : (outsA v1 xs).rd w) (h2 : (outsA v2 xs).rd w) (hg : ∀ o ∈ xs, goodT o.2 = true) (hl : xs.length ≤ 1000) :
    Calls Tryz.prog 68 #[.agg #[.int .i64 p, v1], .agg #[.int .i64 p, v2]] w fun e w' => e = .returned (.bool true) ∧ New w w' := by
  have HS := Lib.hid (Sep.start w)
  have H1 := Lib.hid h1
  have H2 := Lib.hid h2
  have HG := Lib.hid hg
  obtain ⟨na, nc, rfl⟩ := rowA_form h1
  obtain ⟨ma, mc, rfl⟩ := rowA_form h2
  clear h1 h2 hg
  have T1 : Hid True := Lib.hid trivial
  have T2 : Hid True := Lib.hid trivial
  have T3 : Hid True := Lib.hid trivial
  go_enter Tryz.func68, Tryz.ntmps68
  go_wp2_with (first
    | (clear T1; refine wpList_boxB rfl 82 (.tmp 0) rfl (nodeC p (.slice na xs.length nc)) rfl HS.out ?_; intro wa ga hs; replace HS := Lib.hid hs; clear hs)
    | (clear T2; refine wpList_boxB rfl 82 (.tmp 1) rfl (nodeC p (.slice ma xs.length mc)) rfl HS.out ?_; intro wb gb hs; replace HS := Lib.hid hs; have ca := HS.out.cell 1 rfl (k := 0) rfl; have cb := HS.out.cell 0 rfl (k := 0) rfl; have da := HS.out.cell 1 rfl (k := 1) rfl; have db := HS.out.cell 0 rfl (k := 1) rfl; clear hs)
    | (clear T3; go_at_call 98; refine (eqFo (H1.out.new HS.out.nw) (H2.out.new HS.out.nw) HG.out hl).mono ?_; rintro e w5 ⟨rfl, hn⟩; replace HS := Lib.hid (HS.out.go hn); clear hn))
  go_ret
  exact ⟨rfl, HS.out.nw⟩
set_option maxHeartbeats 4000000 in
set_option maxRecDepth 100000 in
theorem eqFn {v1 v2 : Value} {xs : List (Int × List Wyo)} {w : World} (h1 : (nodesO v1 xs).rd w) (h2 : (nodesO v2 xs).rd w) (hg : ∀ x ∈ xs, (∀ o ∈ x.2, goodT o.2 = true) ∧ x.2.length ≤ 10) (hl : xs.length ≤ 1000) :
    Calls Tryz.prog 67 #[v1, v2, .func (.func 68) #[] #[]] w fun e w' => e = .returned (.bool true) ∧ New w w' := by
  have HS := Lib.hid (Sep.start w)
  obtain ⟨na, nc, rfl⟩ := rowA_form h1
  obtain ⟨ma, mc, rfl⟩ := rowA_form h2
  obtain ⟨N, HN⟩ : ∃ N, Hid (xs.length = N) := ⟨_, Lib.hid rfl⟩
  rw [HN.out] at h1 h2 hl ⊢
  have H1 := Lib.hid h1
  have H2 := Lib.hid h2
  have HG := Lib.hid hg
  clear h1 h2 hg
  go_enter Tryz.func67, Tryz.ntmps67
  go_wp2_with fail
  go_loopw [17] (fun kv wr => ∃ k : Nat, kv = .int .i64 k ∧ k ≤ N ∧ Hid (New w wr)) (fun kv wr => N - (intOf kv).toNat)
  case atStart => exact ⟨0, rfl, by omega, Lib.hid (New.refl _)⟩
  case round =>
    obtain ⟨k, rfl, hk, HNW⟩ := hrel
    have HT := Lib.hid (HS.out.go HNW.out)
    by_cases hkN : k < N
    · obtain ⟨x, hx⟩ : ∃ x, xs[k]? = some x := ⟨_, List.getElem?_eq_getElem (by rw [HN.out]; exact hkN)⟩
      obtain ⟨b1, o1, c1, _, i1, r1, e1⟩ := rowA_ix (P := Tryz.prog) H1.out 32 Tryz.underlying32 sizeNd hx
      obtain ⟨b2, o2, c2, _, i2, r2, e2⟩ := rowA_ix (P := Tryz.prog) H2.out 32 Tryz.underlying32 sizeNd hx
      obtain ⟨v1x, rfl, d1⟩ := node_rd e1
      obtain ⟨v2x, rfl, d2⟩ := node_rd e2
      have HR1 := Lib.hid d1
      have HR2 := Lib.hid d2
      obtain ⟨n1a, n1c, f1⟩ := rowA_form d1
      obtain ⟨n2a, n2c, f2⟩ := rowA_form d2
      subst f1
      subst f2
      have HG1 := Lib.hid r1
      have HG2 := Lib.hid r2
      have HGX := Lib.hid (HG.out x (List.mem_of_getElem? hx)).1
      have HLX : Hid (x.2.length ≤ 1000) := Lib.hid (by have := (HG.out x (List.mem_of_getElem? hx)).2; omega)
      clear hx r1 r2 e1 e2 d1 d2
      have U1 : Hid True := Lib.hid trivial
      have U2 : Hid True := Lib.hid trivial
      have U3 : Hid True := Lib.hid trivial
      have U4 : Hid True := Lib.hid trivial
      have U5 : Hid True := Lib.hid trivial
      have U6 : Hid True := Lib.hid trivial
      have U7 : Hid True := Lib.hid trivial
      have U8 : Hid True := Lib.hid trivial
      have U9 : Hid True := Lib.hid trivial
      go_wp2_with (first
        | (clear U1; refine wpList_load_mid rfl 82 (.tmp 20) rfl b1 o1 rfl (nodeC x.1 (.slice n1a x.2.length n1c)) _ (HG1.out _ HT.out.nw) Tryz.underlying82 rfl infoNd ?_)
        | (clear U2; refine wpList_alB rfl 82 rfl _ zeroNd_run _ rfl HT.out ?_; intro w1 g1 hs; replace HT := Lib.hid hs; clear hs)
        | (clear U3; refine wpList_stSW 0 rfl rfl 82 (.tmp 8) (.tmp 21) rfl g1 rfl _ rfl HT.out rfl (nodeC x.1 (.slice n1a x.2.length n1c)) rfl rfl (by simp [nodeC, Value.oneCell']) infoNd ?_; intro w2 hs; replace HT := Lib.hid hs; clear hs)
        | (clear U4; refine wpList_load_mid rfl 82 (.tmp 24) rfl b2 o2 rfl (nodeC x.1 (.slice n2a x.2.length n2c)) _ (HG2.out _ HT.out.nw) Tryz.underlying82 rfl infoNd ?_)
        | (clear U5; refine wpList_alB rfl 82 rfl _ zeroNd_run _ rfl HT.out ?_; intro w3 g2 hs; replace HT := Lib.hid hs; clear hs)
        | (clear U6; refine wpList_stSW 0 rfl rfl 82 (.tmp 9) (.tmp 25) rfl g2 rfl _ rfl HT.out rfl (nodeC x.1 (.slice n2a x.2.length n2c)) rfl rfl (by simp [nodeC, Value.oneCell']) infoNd ?_; intro w4 hs; replace HT := Lib.hid hs; clear hs)
        | (clear U7; refine wpList_load_mid rfl 82 (.tmp 8) rfl g1 0 rfl (nodeC x.1 (.slice n1a x.2.length n1c)) _ (HasC.all (HT.out.has 1 rfl)) Tryz.underlying82 rfl infoNd ?_)
        | (clear U8; refine wpList_load_mid rfl 82 (.tmp 9) rfl g2 0 rfl (nodeC x.1 (.slice n2a x.2.length n2c)) _ (HasC.all (HT.out.has 0 rfl)) Tryz.underlying82 rfl infoNd ?_)
        | (clear U9; go_at_call 68; refine (sameN_is x.1 (HR1.out.new HT.out.nw) (HR2.out.new HT.out.nw) HGX.out HLX.out).mono ?_; rintro e w5 ⟨rfl, hn⟩; replace HT := Lib.hid (HT.out.go hn); clear hn))
      go_roundw
      case rel => exact ⟨k + 1, by go_num, by omega, Lib.hid HT.out.nw⟩
      case measure => simp [intOf]; omega
    · go_wp2_with fail
      go_ret
      exact ⟨rfl, HNW.out⟩
end Go.Proofs.YtphopkjgfkaihaaGreatDoor
namespace Go.Proofs.YtphopkjgfkaihaaGreatDoor
open Go.RowKit

theorem build_Ot0 (w : World) : (Instr.build 31 #[]).run Tryz.prog w = .ok (.agg (outK (0, noT)).toArray) w := run_build w _ _ _ (by kernel_rfl)
theorem skC_out1 (o : Wyo) (v : Value) : ∀ j u, (outK o)[j]? = some u → (skC o v)[0 + j]? = some u := by
  intro j u hu
  unfold skC
  rw [Nat.zero_add, List.getElem?_append_left (List.getElem?_eq_some_iff.mp hu).1]
  exact hu
set_option maxHeartbeats 4000000 in
set_option maxRecDepth 100000 in
theorem way_ey (E : Wyo) (nodes : List (Int × List Wyo)) (na : Option Addr) (N nc : Nat) (w : World) (hs : (nodesO (.slice na N nc) nodes).rd w) (hN : nodes.length = N) (_hN2 : N ≤ 1000) :
    Calls Tryz.prog 35 #[.agg (skC E (.slice na N nc)).toArray, .agg #[.int .i64 (-1), .int .i64 0]] w fun e w' => e = .returned (.tuple #[.agg (outK E).toArray, .bool true]) ∧ New w w' := by
  have HR := Lib.hid hs
  have HN := Lib.hid hN
  have HS := Lib.hid (Sep.start w)
  clear hs hN
  have T1 : Hid True := Lib.hid trivial
  have T2 : Hid True := Lib.hid trivial
  have T3 : Hid True := Lib.hid trivial
  have T4 : Hid True := Lib.hid trivial
  have T5 : Hid True := Lib.hid trivial
  have T6 : Hid True := Lib.hid trivial
  have T7 : Hid True := Lib.hid trivial
  go_enter Tryz.func35, Tryz.ntmps35
  go_wp2_with (first
    | (clear T1; refine wpList_boxB rfl 34 (.tmp 0) rfl (skC E (.slice na N nc)) rfl HS.out ?_; intro wa gb hs; replace HS := Lib.hid hs; clear hs)
    | (clear T2; refine wpList_boxB rfl 42 (.tmp 1) rfl [.int .i64 (-1), .int .i64 0] rfl HS.out ?_; intro wb ge hs; replace HS := Lib.hid hs; clear hs)
    | (clear T3; refine wpList_alB rfl 31 rfl _ zeroOt_run _ rfl HS.out ?_; intro wc gr hs; replace HS := Lib.hid hs; clear hs)
    | (clear T4; refine wpList_load_mid rfl 31 (.tmp 7) rfl gb 0 rfl (outK E) _ (fun j v hv => HS.out.cell 2 rfl (skC_out1 E _ j v hv)) Tryz.underlying31 rfl (by rw [outK_len]; exact infoO) ?_)
    | (clear T5; refine wpList_bsB rfl 80 31 (.tmp 8) rfl Tryz.underlying80 infoO3 (by decide) (by decide) (outK E) _ rfl rfl (outK_len _) HS.out ?_; intro wd gx hs; replace HS := Lib.hid hs; have c0 := HS.out.cell 2 rfl (k := 0) rfl; have c1 := HS.out.cell 2 rfl (k := 1) rfl; have cn := HS.out.cell 3 rfl (skC_nd _ _); clear hs)
    | (clear T6; refine wpList_load_mid rfl 31 (.tmp 46) rfl gx 0 rfl (outK E) _ (HasC.all (HS.out.has 0 rfl)) Tryz.underlying31 rfl (by rw [outK_len]; exact infoO) ?_)
    | (clear T7; refine wpList_stSW 1 rfl rfl 31 (.tmp 4) (.tmp 47) rfl gr rfl _ rfl HS.out rfl (outK E) rfl (by rw [outK_len, outK_len]) (outK_one _) (by rw [outK_len]; exact infoO) ?_; intro we hs; replace HS := Lib.hid hs; clear hs c0 c1 cn))
  exact bodyPost_ret (results_ct (p := 4) (u := 5) rfl _ _ gr _ (.bool true) rfl (loadVar_C (HS.out.has 1 rfl) Tryz.underlying31 rfl (by rw [outK_len]; exact infoO)) rfl) rfl ⟨rfl, HS.out.nw⟩
set_option maxHeartbeats 4000000 in
set_option maxRecDepth 100000 in
theorem way_en (E : Wyo) (nodes : List (Int × List Wyo)) (na : Option Addr) (N nc : Nat) (k : Int) (w : World) (hs : (nodesO (.slice na N nc) nodes).rd w) (hN : nodes.length = N) (_hN2 : N ≤ 1000) (hk : k ≠ 0) :
    Calls Tryz.prog 35 #[.agg (skC E (.slice na N nc)).toArray, .agg #[.int .i64 (-1), .int .i64 k]] w fun e w' => e = .returned (.tuple #[.agg (outK (0, noT)).toArray, .bool false]) ∧ New w w' := by
  have HR := Lib.hid hs
  have HN := Lib.hid hN
  have HS := Lib.hid (Sep.start w)
  clear hs hN
  by_cases h0 : k < 0
  · have d0 : decide (k < 0) = true := decide_eq_true h0
    clear h0 hk
    have T1 : Hid True := Lib.hid trivial
    have T2 : Hid True := Lib.hid trivial
    have T3 : Hid True := Lib.hid trivial
    have T4 : Hid True := Lib.hid trivial
    have T5 : Hid True := Lib.hid trivial
    have T6 : Hid True := Lib.hid trivial
    have T7 : Hid True := Lib.hid trivial
    go_enter Tryz.func35, Tryz.ntmps35
    go_wp2_with (first
      | (clear T1; refine wpList_boxB rfl 34 (.tmp 0) rfl (skC E (.slice na N nc)) rfl HS.out ?_; intro wa gb hs; replace HS := Lib.hid hs; clear hs)
      | (clear T2; refine wpList_boxB rfl 42 (.tmp 1) rfl [.int .i64 (-1), .int .i64 k] rfl HS.out ?_; intro wb ge hs; replace HS := Lib.hid hs; clear hs)
      | (clear T3; refine wpList_alB rfl 31 rfl _ zeroOt_run _ rfl HS.out ?_; intro wc gr hs; replace HS := Lib.hid hs; clear hs)
      | (clear T4; refine wpList_load_mid rfl 31 (.tmp 7) rfl gb 0 rfl (outK E) _ (fun j v hv => HS.out.cell 2 rfl (skC_out1 E _ j v hv)) Tryz.underlying31 rfl (by rw [outK_len]; exact infoO) ?_)
      | (clear T5; refine wpList_bsB rfl 80 31 (.tmp 8) rfl Tryz.underlying80 infoO3 (by decide) (by decide) (outK E) _ rfl rfl (outK_len _) HS.out ?_; intro wd gx hs; replace HS := Lib.hid hs; have c0 := HS.out.cell 2 rfl (k := 0) rfl; have c1 := HS.out.cell 2 rfl (k := 1) rfl; have cn := HS.out.cell 3 rfl (skC_nd _ _); clear hs)
      | (clear T6; refine wpList_bd0 rfl 31 rfl build_Ot0 ?_)
      | (clear T7; refine wpList_stSW 1 rfl rfl 31 (.tmp 4) (.tmp 42) rfl gr rfl _ rfl HS.out rfl (outK (0, noT)) rfl rfl (outK_one _) (by rw [outK_len]; exact infoO) ?_; intro we hs; replace HS := Lib.hid hs; clear hs c0 c1 cn))
    exact bodyPost_ret (results_ct (p := 4) (u := 5) rfl _ _ gr _ (.bool false) rfl (loadVar_C (HS.out.has 1 rfl) Tryz.underlying31 rfl (by rw [outK_len]; exact infoO)) rfl) rfl ⟨rfl, HS.out.nw⟩
  · have d0 : decide (k < 0) = false := decide_eq_false h0
    have d1 : decide (1 ≤ k) = true := decide_eq_true (by omega)
    clear h0 hk
    have T1 : Hid True := Lib.hid trivial
    have T2 : Hid True := Lib.hid trivial
    have T3 : Hid True := Lib.hid trivial
    have T4 : Hid True := Lib.hid trivial
    have T5 : Hid True := Lib.hid trivial
    have T6 : Hid True := Lib.hid trivial
    have T7 : Hid True := Lib.hid trivial
    go_enter Tryz.func35, Tryz.ntmps35
    go_wp2_with (first
      | (clear T1; refine wpList_boxB rfl 34 (.tmp 0) rfl (skC E (.slice na N nc)) rfl HS.out ?_; intro wa gb hs; replace HS := Lib.hid hs; clear hs)
      | (clear T2; refine wpList_boxB rfl 42 (.tmp 1) rfl [.int .i64 (-1), .int .i64 k] rfl HS.out ?_; intro wb ge hs; replace HS := Lib.hid hs; clear hs)
      | (clear T3; refine wpList_alB rfl 31 rfl _ zeroOt_run _ rfl HS.out ?_; intro wc gr hs; replace HS := Lib.hid hs; clear hs)
      | (clear T4; refine wpList_load_mid rfl 31 (.tmp 7) rfl gb 0 rfl (outK E) _ (fun j v hv => HS.out.cell 2 rfl (skC_out1 E _ j v hv)) Tryz.underlying31 rfl (by rw [outK_len]; exact infoO) ?_)
      | (clear T5; refine wpList_bsB rfl 80 31 (.tmp 8) rfl Tryz.underlying80 infoO3 (by decide) (by decide) (outK E) _ rfl rfl (outK_len _) HS.out ?_; intro wd gx hs; replace HS := Lib.hid hs; have c0 := HS.out.cell 2 rfl (k := 0) rfl; have c1 := HS.out.cell 2 rfl (k := 1) rfl; have cn := HS.out.cell 3 rfl (skC_nd _ _); clear hs)
      | (clear T6; refine wpList_bd0 rfl 31 rfl build_Ot0 ?_)
      | (clear T7; refine wpList_stSW 1 rfl rfl 31 (.tmp 4) (.tmp 42) rfl gr rfl _ rfl HS.out rfl (outK (0, noT)) rfl rfl (outK_one _) (by rw [outK_len]; exact infoO) ?_; intro we hs; replace HS := Lib.hid hs; clear hs c0 c1 cn))
    exact bodyPost_ret (results_ct (p := 4) (u := 5) rfl _ _ gr _ (.bool false) rfl (loadVar_C (HS.out.has 1 rfl) Tryz.underlying31 rfl (by rw [outK_len]; exact infoO)) rfl) rfl ⟨rfl, HS.out.nw⟩
set_option maxHeartbeats 4000000 in
set_option maxRecDepth 100000 in
theorem way_on (E : Wyo) (nodes : List (Int × List Wyo)) (na : Option Addr) (N nc : Nat) (m k : Int) (w : World) (hs : (nodesO (.slice na N nc) nodes).rd w) (hN : nodes.length = N) (_hN2 : N ≤ 1000) (hm : m ≠ -1) (hk : ¬ (0 ≤ m ∧ m < N)) :
    Calls Tryz.prog 35 #[.agg (skC E (.slice na N nc)).toArray, .agg #[.int .i64 m, .int .i64 k]] w fun e w' => e = .returned (.tuple #[.agg (outK (0, noT)).toArray, .bool false]) ∧ New w w' := by
  have HR := Lib.hid hs
  have HN := Lib.hid hN
  have HS := Lib.hid (Sep.start w)
  clear hs hN
  have q0 : (m == -1) = false := bneq_of hm
  by_cases h0 : m < 0
  · have d0 : decide (m < 0) = true := decide_eq_true h0
    clear h0 hk hm
    have T1 : Hid True := Lib.hid trivial
    have T2 : Hid True := Lib.hid trivial
    have T3 : Hid True := Lib.hid trivial
    have T4 : Hid True := Lib.hid trivial
    have T5 : Hid True := Lib.hid trivial
    have T6 : Hid True := Lib.hid trivial
    have T7 : Hid True := Lib.hid trivial
    go_enter Tryz.func35, Tryz.ntmps35
    go_wp2_with (first
      | (clear T1; refine wpList_boxB rfl 34 (.tmp 0) rfl (skC E (.slice na N nc)) rfl HS.out ?_; intro wa gb hs; replace HS := Lib.hid hs; clear hs)
      | (clear T2; refine wpList_boxB rfl 42 (.tmp 1) rfl [.int .i64 m, .int .i64 k] rfl HS.out ?_; intro wb ge hs; replace HS := Lib.hid hs; clear hs)
      | (clear T3; refine wpList_alB rfl 31 rfl _ zeroOt_run _ rfl HS.out ?_; intro wc gr hs; replace HS := Lib.hid hs; clear hs)
      | (clear T4; refine wpList_load_mid rfl 31 (.tmp 7) rfl gb 0 rfl (outK E) _ (fun j v hv => HS.out.cell 2 rfl (skC_out1 E _ j v hv)) Tryz.underlying31 rfl (by rw [outK_len]; exact infoO) ?_)
      | (clear T5; refine wpList_bsB rfl 80 31 (.tmp 8) rfl Tryz.underlying80 infoO3 (by decide) (by decide) (outK E) _ rfl rfl (outK_len _) HS.out ?_; intro wd gx hs; replace HS := Lib.hid hs; have c0 := HS.out.cell 2 rfl (k := 0) rfl; have c1 := HS.out.cell 2 rfl (k := 1) rfl; have cn := HS.out.cell 3 rfl (skC_nd _ _); clear hs)
      | (clear T6; refine wpList_bd0 rfl 31 rfl build_Ot0 ?_)
      | (clear T7; refine wpList_stSW 1 rfl rfl 31 (.tmp 4) (.tmp 24) rfl gr rfl _ rfl HS.out rfl (outK (0, noT)) rfl rfl (outK_one _) (by rw [outK_len]; exact infoO) ?_; intro we hs; replace HS := Lib.hid hs; clear hs c0 c1 cn))
    exact bodyPost_ret (results_ct (p := 4) (u := 5) rfl _ _ gr _ (.bool false) rfl (loadVar_C (HS.out.has 1 rfl) Tryz.underlying31 rfl (by rw [outK_len]; exact infoO)) rfl) rfl ⟨rfl, HS.out.nw⟩
  · have d0 : decide (m < 0) = false := decide_eq_false h0
    have d1 : decide ((N : Int) ≤ m) = true := decide_eq_true (by omega)
    clear h0 hk hm
    have T1 : Hid True := Lib.hid trivial
    have T2 : Hid True := Lib.hid trivial
    have T3 : Hid True := Lib.hid trivial
    have T4 : Hid True := Lib.hid trivial
    have T5 : Hid True := Lib.hid trivial
    have T6 : Hid True := Lib.hid trivial
    have T7 : Hid True := Lib.hid trivial
    go_enter Tryz.func35, Tryz.ntmps35
    go_wp2_with (first
      | (clear T1; refine wpList_boxB rfl 34 (.tmp 0) rfl (skC E (.slice na N nc)) rfl HS.out ?_; intro wa gb hs; replace HS := Lib.hid hs; clear hs)
      | (clear T2; refine wpList_boxB rfl 42 (.tmp 1) rfl [.int .i64 m, .int .i64 k] rfl HS.out ?_; intro wb ge hs; replace HS := Lib.hid hs; clear hs)
      | (clear T3; refine wpList_alB rfl 31 rfl _ zeroOt_run _ rfl HS.out ?_; intro wc gr hs; replace HS := Lib.hid hs; clear hs)
      | (clear T4; refine wpList_load_mid rfl 31 (.tmp 7) rfl gb 0 rfl (outK E) _ (fun j v hv => HS.out.cell 2 rfl (skC_out1 E _ j v hv)) Tryz.underlying31 rfl (by rw [outK_len]; exact infoO) ?_)
      | (clear T5; refine wpList_bsB rfl 80 31 (.tmp 8) rfl Tryz.underlying80 infoO3 (by decide) (by decide) (outK E) _ rfl rfl (outK_len _) HS.out ?_; intro wd gx hs; replace HS := Lib.hid hs; have c0 := HS.out.cell 2 rfl (k := 0) rfl; have c1 := HS.out.cell 2 rfl (k := 1) rfl; have cn := HS.out.cell 3 rfl (skC_nd _ _); clear hs)
      | (clear T6; refine wpList_bd0 rfl 31 rfl build_Ot0 ?_)
      | (clear T7; refine wpList_stSW 1 rfl rfl 31 (.tmp 4) (.tmp 24) rfl gr rfl _ rfl HS.out rfl (outK (0, noT)) rfl rfl (outK_one _) (by rw [outK_len]; exact infoO) ?_; intro we hs; replace HS := Lib.hid hs; clear hs c0 c1 cn))
    exact bodyPost_ret (results_ct (p := 4) (u := 5) rfl _ _ gr _ (.bool false) rfl (loadVar_C (HS.out.has 1 rfl) Tryz.underlying31 rfl (by rw [outK_len]; exact infoO)) rfl) rfl ⟨rfl, HS.out.nw⟩
set_option maxHeartbeats 4000000 in
set_option maxRecDepth 100000 in
theorem way_ny (E : Wyo) (nodes : List (Int × List Wyo)) (na : Option Addr) (N nc : Nat) (m k : Nat) (x : Int × List Wyo) (y : Wyo) (w : World) (hs : (nodesO (.slice na N nc) nodes).rd w) (hN : nodes.length = N) (_hN2 : N ≤ 1000) (hx : nodes[m]? = some x) (hy : x.2[k]? = some y) (_hK2 : x.2.length ≤ 1000) :
    Calls Tryz.prog 35 #[.agg (skC E (.slice na N nc)).toArray, .agg #[.int .i64 (m : Int), .int .i64 (k : Int)]] w fun e w' => e = .returned (.tuple #[.agg (outK y).toArray, .bool true]) ∧ New w w' := by
  have HR := Lib.hid hs
  have HN := Lib.hid hN
  have HS := Lib.hid (Sep.start w)
  clear hs hN
  have hmN : m < N := by rw [← HN.out]; exact (List.getElem?_eq_some_iff.mp hx).1
  obtain ⟨b, o, c, _, hix, hrg, hE⟩ := rowA_ix (P := Tryz.prog) HR.out 32 Tryz.underlying32 sizeNd hx
  obtain ⟨vo, rfl, hro⟩ := node_rd hE
  obtain ⟨oa, oc, hv⟩ := rowA_form hro
  obtain ⟨K, HK⟩ : ∃ K, Hid (x.2.length = K) := ⟨_, Lib.hid rfl⟩
  rw [HK.out] at hv
  subst hv
  have HRO := Lib.hid hro
  have HG := Lib.hid hrg
  have q0 : ((m : Int) == -1) = false := bneq_of (by omega)
  have d0 : decide ((m : Int) < 0) = false := decide_eq_false (by omega)
  have d1 : decide ((N : Int) ≤ (m : Int)) = false := decide_eq_false (by omega)
  have hkK : k < K := by rw [← HK.out]; exact (List.getElem?_eq_some_iff.mp hy).1

  obtain ⟨b1, o1, i1, r1⟩ := leaf_ix (P := Tryz.prog) HRO.out 80 Tryz.underlying80 sizeOt hy
  have HG1 := Lib.hid r1
  have d2 : decide ((k : Int) < 0) = false := decide_eq_false (by omega)
  have d3 : decide ((K : Int) ≤ (k : Int)) = false := decide_eq_false (by omega)
  clear hx hy hrg hE hro r1
  have T1 : Hid True := Lib.hid trivial
  have T2 : Hid True := Lib.hid trivial
  have T3 : Hid True := Lib.hid trivial
  have T4 : Hid True := Lib.hid trivial
  have T5 : Hid True := Lib.hid trivial
  have T6 : Hid True := Lib.hid trivial
  have T7 : Hid True := Lib.hid trivial
  go_enter Tryz.func35, Tryz.ntmps35
  go_wp2_with (first
    | (clear T1; refine wpList_boxB rfl 34 (.tmp 0) rfl (skC E (.slice na N nc)) rfl HS.out ?_; intro wa gb hs; replace HS := Lib.hid hs; clear hs)
    | (clear T2; refine wpList_boxB rfl 42 (.tmp 1) rfl [.int .i64 (m : Int), .int .i64 (k : Int)] rfl HS.out ?_; intro wb ge hs; replace HS := Lib.hid hs; clear hs)
    | (clear T3; refine wpList_alB rfl 31 rfl _ zeroOt_run _ rfl HS.out ?_; intro wc gr hs; replace HS := Lib.hid hs; clear hs)
    | (clear T4; refine wpList_load_mid rfl 31 (.tmp 7) rfl gb 0 rfl (outK E) _ (fun j v hv => HS.out.cell 2 rfl (skC_out1 E _ j v hv)) Tryz.underlying31 rfl (by rw [outK_len]; exact infoO) ?_)
    | (clear T5; refine wpList_bsB rfl 80 31 (.tmp 8) rfl Tryz.underlying80 infoO3 (by decide) (by decide) (outK E) _ rfl rfl (outK_len _) HS.out ?_; intro wd gx hs; replace HS := Lib.hid hs; have c0 := HS.out.cell 2 rfl (k := 0) rfl; have c1 := HS.out.cell 2 rfl (k := 1) rfl; have cn := HS.out.cell 3 rfl (skC_nd _ _); clear hs; have y1 := HG.out _ HS.out.nw 1 _ rfl)
    | (clear T6; refine wpList_load_mid rfl 31 (.tmp 46) rfl b1 o1 rfl (outK y) _ (HG1.out _ HS.out.nw) Tryz.underlying31 rfl (by rw [outK_len]; exact infoO) ?_)
    | (clear T7; refine wpList_stSW 1 rfl rfl 31 (.tmp 4) (.tmp 47) rfl gr rfl _ rfl HS.out rfl (outK y) rfl (by rw [outK_len, outK_len]) (outK_one _) (by rw [outK_len]; exact infoO) ?_; intro we hs; replace HS := Lib.hid hs; clear hs c0 c1 cn y1))
  exact bodyPost_ret (results_ct (p := 4) (u := 5) rfl _ _ gr _ (.bool true) rfl (loadVar_C (HS.out.has 1 rfl) Tryz.underlying31 rfl (by rw [outK_len]; exact infoO)) rfl) rfl ⟨rfl, HS.out.nw⟩
set_option maxHeartbeats 4000000 in
set_option maxRecDepth 100000 in
theorem way_nn (E : Wyo) (nodes : List (Int × List Wyo)) (na : Option Addr) (N nc : Nat) (m : Nat) (k : Int) (x : Int × List Wyo) (w : World) (hs : (nodesO (.slice na N nc) nodes).rd w) (hN : nodes.length = N) (_hN2 : N ≤ 1000) (hx : nodes[m]? = some x) (hk : ¬ (0 ≤ k ∧ k < x.2.length)) :
    Calls Tryz.prog 35 #[.agg (skC E (.slice na N nc)).toArray, .agg #[.int .i64 (m : Int), .int .i64 k]] w fun e w' => e = .returned (.tuple #[.agg (outK (0, noT)).toArray, .bool false]) ∧ New w w' := by
  have HR := Lib.hid hs
  have HN := Lib.hid hN
  have HS := Lib.hid (Sep.start w)
  clear hs hN
  have hmN : m < N := by rw [← HN.out]; exact (List.getElem?_eq_some_iff.mp hx).1
  obtain ⟨b, o, c, _, hix, hrg, hE⟩ := rowA_ix (P := Tryz.prog) HR.out 32 Tryz.underlying32 sizeNd hx
  obtain ⟨vo, rfl, hro⟩ := node_rd hE
  obtain ⟨oa, oc, hv⟩ := rowA_form hro
  obtain ⟨K, HK⟩ : ∃ K, Hid (x.2.length = K) := ⟨_, Lib.hid rfl⟩
  rw [HK.out] at hv
  subst hv
  have HRO := Lib.hid hro
  have HG := Lib.hid hrg
  have q0 : ((m : Int) == -1) = false := bneq_of (by omega)
  have d0 : decide ((m : Int) < 0) = false := decide_eq_false (by omega)
  have d1 : decide ((N : Int) ≤ (m : Int)) = false := decide_eq_false (by omega)
  rw [HK.out] at hk
  clear hx hrg hE hro
  by_cases h0 : k < 0
  · have d2 : decide (k < 0) = true := decide_eq_true h0
    clear h0 hk
    have T1 : Hid True := Lib.hid trivial
    have T2 : Hid True := Lib.hid trivial
    have T3 : Hid True := Lib.hid trivial
    have T4 : Hid True := Lib.hid trivial
    have T5 : Hid True := Lib.hid trivial
    have T6 : Hid True := Lib.hid trivial
    have T7 : Hid True := Lib.hid trivial
    go_enter Tryz.func35, Tryz.ntmps35
    go_wp2_with (first
      | (clear T1; refine wpList_boxB rfl 34 (.tmp 0) rfl (skC E (.slice na N nc)) rfl HS.out ?_; intro wa gb hs; replace HS := Lib.hid hs; clear hs)
      | (clear T2; refine wpList_boxB rfl 42 (.tmp 1) rfl [.int .i64 (m : Int), .int .i64 k] rfl HS.out ?_; intro wb ge hs; replace HS := Lib.hid hs; clear hs)
      | (clear T3; refine wpList_alB rfl 31 rfl _ zeroOt_run _ rfl HS.out ?_; intro wc gr hs; replace HS := Lib.hid hs; clear hs)
      | (clear T4; refine wpList_load_mid rfl 31 (.tmp 7) rfl gb 0 rfl (outK E) _ (fun j v hv => HS.out.cell 2 rfl (skC_out1 E _ j v hv)) Tryz.underlying31 rfl (by rw [outK_len]; exact infoO) ?_)
      | (clear T5; refine wpList_bsB rfl 80 31 (.tmp 8) rfl Tryz.underlying80 infoO3 (by decide) (by decide) (outK E) _ rfl rfl (outK_len _) HS.out ?_; intro wd gx hs; replace HS := Lib.hid hs; have c0 := HS.out.cell 2 rfl (k := 0) rfl; have c1 := HS.out.cell 2 rfl (k := 1) rfl; have cn := HS.out.cell 3 rfl (skC_nd _ _); clear hs; have y1 := HG.out _ HS.out.nw 1 _ rfl)
      | (clear T6; refine wpList_bd0 rfl 31 rfl build_Ot0 ?_)
      | (clear T7; refine wpList_stSW 1 rfl rfl 31 (.tmp 4) (.tmp 42) rfl gr rfl _ rfl HS.out rfl (outK (0, noT)) rfl rfl (outK_one _) (by rw [outK_len]; exact infoO) ?_; intro we hs; replace HS := Lib.hid hs; clear hs c0 c1 cn))
    exact bodyPost_ret (results_ct (p := 4) (u := 5) rfl _ _ gr _ (.bool false) rfl (loadVar_C (HS.out.has 1 rfl) Tryz.underlying31 rfl (by rw [outK_len]; exact infoO)) rfl) rfl ⟨rfl, HS.out.nw⟩
  · have d2 : decide (k < 0) = false := decide_eq_false h0
    have d3 : decide ((K : Int) ≤ k) = true := decide_eq_true (by omega)
    clear h0 hk
    have T1 : Hid True := Lib.hid trivial
    have T2 : Hid True := Lib.hid trivial
    have T3 : Hid True := Lib.hid trivial
    have T4 : Hid True := Lib.hid trivial
    have T5 : Hid True := Lib.hid trivial
    have T6 : Hid True := Lib.hid trivial
    have T7 : Hid True := Lib.hid trivial
    go_enter Tryz.func35, Tryz.ntmps35
    go_wp2_with (first
      | (clear T1; refine wpList_boxB rfl 34 (.tmp 0) rfl (skC E (.slice na N nc)) rfl HS.out ?_; intro wa gb hs; replace HS := Lib.hid hs; clear hs)
      | (clear T2; refine wpList_boxB rfl 42 (.tmp 1) rfl [.int .i64 (m : Int), .int .i64 k] rfl HS.out ?_; intro wb ge hs; replace HS := Lib.hid hs; clear hs)
      | (clear T3; refine wpList_alB rfl 31 rfl _ zeroOt_run _ rfl HS.out ?_; intro wc gr hs; replace HS := Lib.hid hs; clear hs)
      | (clear T4; refine wpList_load_mid rfl 31 (.tmp 7) rfl gb 0 rfl (outK E) _ (fun j v hv => HS.out.cell 2 rfl (skC_out1 E _ j v hv)) Tryz.underlying31 rfl (by rw [outK_len]; exact infoO) ?_)
      | (clear T5; refine wpList_bsB rfl 80 31 (.tmp 8) rfl Tryz.underlying80 infoO3 (by decide) (by decide) (outK E) _ rfl rfl (outK_len _) HS.out ?_; intro wd gx hs; replace HS := Lib.hid hs; have c0 := HS.out.cell 2 rfl (k := 0) rfl; have c1 := HS.out.cell 2 rfl (k := 1) rfl; have cn := HS.out.cell 3 rfl (skC_nd _ _); clear hs; have y1 := HG.out _ HS.out.nw 1 _ rfl)
      | (clear T6; refine wpList_bd0 rfl 31 rfl build_Ot0 ?_)
      | (clear T7; refine wpList_stSW 1 rfl rfl 31 (.tmp 4) (.tmp 42) rfl gr rfl _ rfl HS.out rfl (outK (0, noT)) rfl rfl (outK_one _) (by rw [outK_len]; exact infoO) ?_; intro we hs; replace HS := Lib.hid hs; clear hs c0 c1 cn))
    exact bodyPost_ret (results_ct (p := 4) (u := 5) rfl _ _ gr _ (.bool false) rfl (loadVar_C (HS.out.has 1 rfl) Tryz.underlying31 rfl (by rw [outK_len]; exact infoO)) rfl) rfl ⟨rfl, HS.out.nw⟩
theorem way_yes {s : Skl} {v : Value} {e : Int × Int} {w : World} (hs : (nodesO v s.nodes).rd w) (hN : s.nodes.length ≤ 1000) (hB : GoodS s) (he : hasE s e) :
    Calls Tryz.prog 35 #[.agg (skC s.entry v).toArray, .agg #[.int .i64 e.1, .int .i64 e.2]] w fun r w' => r = .returned (.tuple #[.agg (outK (outE s e)).toArray, .bool true]) ∧ New w w' := by
  obtain ⟨na, nc, rfl⟩ := rowA_form hs
  rcases he with ⟨h1, h2⟩ | ⟨j, k, x, rfl, h1, h2⟩
  · unfold outE
    rw [if_pos h1, h1, h2]
    exact way_ey s.entry s.nodes na _ nc w hs rfl hN
  · have hk : x.2[k]? = some x.2[k] := List.getElem?_eq_getElem h2
    have ho : outE s ((j : Int), (k : Int)) = x.2[k] := by
      unfold outE outN
      have h3 : s.nodes.getD j (0, []) = x := by rw [List.getD_eq_getElem?_getD, h1]; rfl
      have h4 : ¬ ((j : Int), (k : Int)).1 = -1 := by show ¬ (j : Int) = -1; omega
      rw [if_neg h4]
      show ((s.nodes.getD j (0, [])).2).getD k (0, newT) = _
      rw [h3, List.getD_eq_getElem?_getD, hk]
      rfl
    rw [ho]
    exact way_ny s.entry s.nodes na _ nc j k x _ w hs rfl hN h1 hk (by have := hB.b x (List.mem_of_getElem? h1); omega)
theorem way_not {s : Skl} {v : Value} {e : Int × Int} {w : World} (hs : (nodesO v s.nodes).rd w) (hN : s.nodes.length ≤ 1000) (he : ¬ hasE s e) :
    Calls Tryz.prog 35 #[.agg (skC s.entry v).toArray, .agg #[.int .i64 e.1, .int .i64 e.2]] w fun r w' => r = .returned (.tuple #[.agg (outK (0, noT)).toArray, .bool false]) ∧ New w w' := by
  obtain ⟨na, nc, rfl⟩ := rowA_form hs
  by_cases h1 : e.1 = -1
  · rw [h1]
    exact way_en s.entry s.nodes na _ nc e.2 w hs rfl hN fun h2 => he (.inl ⟨h1, h2⟩)
  · by_cases h2 : 0 ≤ e.1 ∧ e.1 < s.nodes.length
    · obtain ⟨m, hm⟩ : ∃ m : Nat, e.1 = (m : Int) := ⟨e.1.toNat, by omega⟩
      obtain ⟨x, hx⟩ : ∃ x, s.nodes[m]? = some x := ⟨_, List.getElem?_eq_getElem (by omega)⟩
      rw [hm]
      refine way_nn s.entry s.nodes na _ nc m e.2 x w hs rfl hN hx fun h3 => he (.inr ⟨m, e.2.toNat, x, Prod.ext hm (by show e.2 = _; omega), hx, by omega⟩)
    · exact way_on s.entry s.nodes na _ nc e.1 e.2 w hs rfl hN h1 h2
end Go.Proofs.YtphopkjgfkaihaaGreatDoor
namespace Go.Proofs.YtphopkjgfkaihaaGreatDoor
open Go.RowKit

abbrev boolsO (v : Value) (bs : List Bool) : Asn := rowA 4 1 (leafE fun b => [.bool b]) v bs
theorem infoBo3 : (Tryz.prog.info? 4).map (fun i => (i.zero, i.size, i.bytes)) = some (some (.bool false), 1, 1) := by kernel_rfl
theorem infoB1v : (Tryz.prog.info? 4).map (·.size) = some 1 := by kernel_rfl
theorem sizeBo : ∀ w, (sizeOf 4).run Tryz.prog w = .ok 1 w := Tryz.sizeOf4
theorem bools_0 (w : World) : (leafE (fun b : Bool => [Value.bool b]) false [.bool false]).on w (fun _ => False) := rfl
set_option maxHeartbeats 4000000 in
set_option maxRecDepth 100000 in
theorem ended_in (fo : Option Addr) (n fc : Nat) (E : Wyo) (nodes : List (Int × List Wyo)) (na : Option Addr) (N nc : Nat) (w : World) (hn : n ≤ 1000) (hs : (nodesO (.slice na N nc) nodes).rd w) (hN : nodes.length = N) (hN2 : N ≤ 1000) (hB : ∀ x ∈ nodes, x.2.length ≤ 10) :
    Calls Tryz.prog 65 #[.slice fo n fc, .agg (skC E (.slice na N nc)).toArray] w fun e w' => ∃ b, e = .returned (.slice (some ⟨b, 0, none⟩) n n) ∧ Sep w w' [boolsO (.slice (some ⟨b, 0, none⟩) n n) (endN n nodes)] := by
  have HR := Lib.hid hs
  have HN := Lib.hid hN
  have HB := Lib.hid hB
  have HS := Lib.hid (Sep.start w)
  have HE0 : Hid (List.replicate n false = endN n (nodes.take 0)) := Lib.hid (by rw [List.take_zero, endN_nil])
  clear hs hN hB
  have T1 : Hid True := Lib.hid trivial
  have T2 : Hid True := Lib.hid trivial
  go_enter Tryz.func65, Tryz.ntmps65
  go_wp2_with (first
    | (clear T1; refine wpList_boxB rfl 34 (.tmp 1) rfl (skC E (.slice na N nc)) rfl HS.out ?_; intro wa gb hs; replace HS := Lib.hid hs; have cn := HS.out.cell 0 rfl (skC_nd _ _); clear hs)
    | (clear T2; at_make; refine wpList_mk1 rfl (.tmp 9) (.tmp 9) 23 4 rfl Tryz.underlying23 infoBo3 rfl (by decide) n rfl rfl (by omega) HS.out (E := leafE fun b => [.bool b]) (x0 := false) bools_0 ?_; intro wb vb hs; rw [HE0.out] at hs; replace HS := Lib.hid hs; clear hs cn; have cn := HS.out.cell 1 rfl (skC_nd _ _)))
  go_loopw [14] (fun kv wr => ∃ k : Nat, kv = .int .i64 k ∧ k ≤ N ∧ Hid (Sep w wr [boolsO (.slice (some ⟨vb, 0, none⟩) n n) (endN n (nodes.take k)), blk gb 34 (skC E (.slice na N nc))])) (fun kv wr => N - (intOf kv).toNat)
  case atStart => exact ⟨0, rfl, by omega, HS⟩
  case round =>
    obtain ⟨k, rfl, hk, HT⟩ := hrel
    clear HS cn
    by_cases hkN : k < N
    · obtain ⟨x, hx⟩ : ∃ x, nodes[k]? = some x := ⟨_, List.getElem?_eq_getElem (by rw [HN.out]; exact hkN)⟩
      have HTK : Hid (nodes.take (k + 1) = nodes.take k ++ [x]) := Lib.hid (by rw [List.take_add_one, hx]; rfl)
      obtain ⟨b1, o1, c1, _, i1, r1, e1⟩ := rowA_ix (P := Tryz.prog) HR.out 32 Tryz.underlying32 sizeNd hx
      obtain ⟨v1x, rfl, d1⟩ := node_rd e1
      obtain ⟨oa, oc, hv⟩ := rowA_form d1
      obtain ⟨K, HK⟩ : ∃ K, Hid (x.2.length = K) := ⟨_, Lib.hid rfl⟩
      have hK10 : K ≤ 10 := by rw [← HK.out]; exact HB.out x (List.mem_of_getElem? hx)
      rw [HK.out] at hv
      subst hv
      have HG1 := Lib.hid r1
      clear hx r1 e1 d1
      by_cases hc : K = 0 ∧ 0 ≤ x.1 ∧ x.1 < n
      · obtain ⟨hK0, h0, h1⟩ := hc
        obtain ⟨p, hp⟩ : ∃ p : Nat, x.1 = (p : Int) := ⟨x.1.toNat, by omega⟩
        have HEM : Hid ((endN n (nodes.take k)).set p true = endN n (nodes.take (k + 1))) := Lib.hid (by
          rw [HTK.out, endN_more, if_pos ⟨HK.out.trans hK0, h0, h1⟩, hp, Int.toNat_natCast])
        have hpn : p < n := by omega
        have HPL : Hid (p < (endN n (nodes.take k)).length) := Lib.hid (by rw [endN_len]; exact hpn)
        rw [hp] at HG1
        have d0 : decide (0 ≤ (p : Int)) = true := decide_eq_true (by omega)
        have d1 : decide ((p : Int) < (n : Int)) = true := decide_eq_true (by omega)
        subst hK0
        clear h0 h1 hp
        have U1 : Hid True := Lib.hid trivial
        have U2 : Hid True := Lib.hid trivial
        have U3 : Hid True := Lib.hid trivial
        have U4 : Hid True := Lib.hid trivial
        go_wp2_with (first
          | (clear U1; refine wpList_load_mid rfl 82 (.tmp 16) rfl b1 o1 rfl (nodeC (p : Int) (.slice oa 0 oc)) _ (HG1.out _ HT.out.nw) Tryz.underlying82 rfl infoNd ?_)
          | (clear U2; refine wpList_alB rfl 82 rfl _ zeroNd_run _ rfl HT.out ?_; intro w1 g1 hs; replace HT := Lib.hid hs; clear hs)
          | (clear U3; refine wpList_stSW 0 rfl rfl 82 (.tmp 7) (.tmp 17) rfl g1 rfl _ rfl HT.out rfl (nodeC (p : Int) (.slice oa 0 oc)) rfl rfl (by simp [nodeC, Value.oneCell']) infoNd ?_; intro w2 hs; replace HT := Lib.hid hs; have cx := HT.out.cell 0 rfl (k := 0) rfl; have cy := HT.out.cell 0 rfl (k := 1) rfl; clear hs)
          | (clear U4; refine wpList_stL 1 rfl rfl 4 (.tmp 37) (.const (.bool true)) rfl vb n n p HPL.out rfl (y := true) rfl HT.out rfl rfl rfl infoB1v ?_; intro w3 hs; rw [HEM.out] at hs; replace HT := Lib.hid hs.drop; clear hs cx cy))
        go_roundw
        case rel => exact ⟨k + 1, by go_num, by omega, HT⟩
        case measure => simp [intOf]; omega
      · have HEM : Hid (endN n (nodes.take k) = endN n (nodes.take (k + 1))) := Lib.hid (by rw [HTK.out, endN_more, HK.out, if_neg hc])
        by_cases hK0 : K = 0
        · have q0 : ((K : Int) == 0) = true := beq_of (by omega)
          by_cases h0 : 0 ≤ x.1
          · have d0 : decide (0 ≤ x.1) = true := decide_eq_true h0
            have d1 : decide (x.1 < (n : Int)) = false := decide_eq_false (fun h1 => hc ⟨hK0, h0, h1⟩)
            clear hc h0
            have U1 : Hid True := Lib.hid trivial
            have U2 : Hid True := Lib.hid trivial
            have U3 : Hid True := Lib.hid trivial
            go_wp2_with (first
              | (clear U1; refine wpList_load_mid rfl 82 (.tmp 16) rfl b1 o1 rfl (nodeC x.1 (.slice oa K oc)) _ (HG1.out _ HT.out.nw) Tryz.underlying82 rfl infoNd ?_)
              | (clear U2; refine wpList_alB rfl 82 rfl _ zeroNd_run _ rfl HT.out ?_; intro w1 g1 hs; replace HT := Lib.hid hs; clear hs)
              | (clear U3; refine wpList_stSW 0 rfl rfl 82 (.tmp 7) (.tmp 17) rfl g1 rfl _ rfl HT.out rfl (nodeC x.1 (.slice oa K oc)) rfl rfl (by simp [nodeC, Value.oneCell']) infoNd ?_; intro w2 hs; replace HT := Lib.hid hs; have cx := HT.out.cell 0 rfl (k := 0) rfl; have cy := HT.out.cell 0 rfl (k := 1) rfl; clear hs))
            replace HT := Lib.hid HT.out.drop
            rw [HEM.out] at HT
            go_roundw
            case rel => exact ⟨k + 1, by go_num, by omega, HT⟩
            case measure => simp [intOf]; omega
          · have d0 : decide (0 ≤ x.1) = false := decide_eq_false h0
            clear hc h0
            have U1 : Hid True := Lib.hid trivial
            have U2 : Hid True := Lib.hid trivial
            have U3 : Hid True := Lib.hid trivial
            go_wp2_with (first
              | (clear U1; refine wpList_load_mid rfl 82 (.tmp 16) rfl b1 o1 rfl (nodeC x.1 (.slice oa K oc)) _ (HG1.out _ HT.out.nw) Tryz.underlying82 rfl infoNd ?_)
              | (clear U2; refine wpList_alB rfl 82 rfl _ zeroNd_run _ rfl HT.out ?_; intro w1 g1 hs; replace HT := Lib.hid hs; clear hs)
              | (clear U3; refine wpList_stSW 0 rfl rfl 82 (.tmp 7) (.tmp 17) rfl g1 rfl _ rfl HT.out rfl (nodeC x.1 (.slice oa K oc)) rfl rfl (by simp [nodeC, Value.oneCell']) infoNd ?_; intro w2 hs; replace HT := Lib.hid hs; have cx := HT.out.cell 0 rfl (k := 0) rfl; have cy := HT.out.cell 0 rfl (k := 1) rfl; clear hs))
            replace HT := Lib.hid HT.out.drop
            rw [HEM.out] at HT
            go_roundw
            case rel => exact ⟨k + 1, by go_num, by omega, HT⟩
            case measure => simp [intOf]; omega
        · have q0 : ((K : Int) == 0) = false := bneq_of (by omega)
          clear hc
          have U1 : Hid True := Lib.hid trivial
          have U2 : Hid True := Lib.hid trivial
          have U3 : Hid True := Lib.hid trivial
          go_wp2_with (first
            | (clear U1; refine wpList_load_mid rfl 82 (.tmp 16) rfl b1 o1 rfl (nodeC x.1 (.slice oa K oc)) _ (HG1.out _ HT.out.nw) Tryz.underlying82 rfl infoNd ?_)
            | (clear U2; refine wpList_alB rfl 82 rfl _ zeroNd_run _ rfl HT.out ?_; intro w1 g1 hs; replace HT := Lib.hid hs; clear hs)
            | (clear U3; refine wpList_stSW 0 rfl rfl 82 (.tmp 7) (.tmp 17) rfl g1 rfl _ rfl HT.out rfl (nodeC x.1 (.slice oa K oc)) rfl rfl (by simp [nodeC, Value.oneCell']) infoNd ?_; intro w2 hs; replace HT := Lib.hid hs; have cx := HT.out.cell 0 rfl (k := 0) rfl; have cy := HT.out.cell 0 rfl (k := 1) rfl; clear hs))
          replace HT := Lib.hid HT.out.drop
          rw [HEM.out] at HT
          go_roundw
          case rel => exact ⟨k + 1, by go_num, by omega, HT⟩
          case measure => simp [intOf]; omega
    · have HEM : Hid (endN n (nodes.take k) = endN n nodes) := Lib.hid (by rw [List.take_of_length_le (by rw [HN.out]; omega)])
      rw [HEM.out] at HT
      go_wp2_with fail
      go_ret
      exact ⟨vb, rfl, HT.out.dropAt 1 (by simp)⟩
theorem skC_out2 (o : Wyo) (v : Value) : ∀ j u, (outK o)[j]? = some u → (skC o v)[0 + j]? = some u := by
  intro j u hu
  unfold skC
  rw [Nat.zero_add, List.getElem?_append_left (List.getElem?_eq_some_iff.mp hu).1]
  exact hu
set_option maxHeartbeats 4000000 in
set_option maxRecDepth 100000 in
theorem made_in (fo : Option Addr) (n fc : Nat) (f : List I) (s : Skl) (na : Option Addr) (N nc : Nat) (w : World) (hl : Laid w) (hf : FunAt w (.slice fo n fc) f) (hr : (chkF f).2 = 0) (hs : (nodesO (.slice na N nc) s.nodes).rd w) (hN : s.nodes.length = N) (hN2 : N ≤ 1000) (hn : n ≤ 1000) (hB : GoodS s) (hA : sklA f (endN n s.nodes) = s) :
    Calls Tryz.prog 37 #[.slice fo n fc, .agg (skC s.entry (.slice na N nc)).toArray] w fun e w' => e = .returned (.bool true) ∧ New w w' := by
  have HR := Lib.hid hs
  have HN := Lib.hid hN
  have HB := Lib.hid hB
  have HS := Lib.hid (Sep.start w)
  have HL := Lib.hid hl
  have HF := Lib.hid hf
  have HC := Lib.hid hr
  have HA := Lib.hid hA
  clear hs hN hB hl hf hr hA
  have T1 : Hid True := Lib.hid trivial
  have T2 : Hid True := Lib.hid trivial
  have T3 : Hid True := Lib.hid trivial
  have T4 : Hid True := Lib.hid trivial
  have T5 : Hid True := Lib.hid trivial
  have T6 : Hid True := Lib.hid trivial
  have T7 : Hid True := Lib.hid trivial
  have T8 : Hid True := Lib.hid trivial
  have T9 : Hid True := Lib.hid trivial
  have T10 : Hid True := Lib.hid trivial
  go_enter Tryz.func37, Tryz.ntmps37
  go_wp2_with (first
    | (clear T1; refine wpList_boxB rfl 34 (.tmp 1) rfl (skC s.entry (.slice na N nc)) rfl HS.out ?_; intro wa gb hs; replace HS := Lib.hid hs; clear hs)
    | (clear T2; refine wpList_load_mid rfl 34 (.tmp 3) rfl gb 0 rfl (skC s.entry (.slice na N nc)) _ (HasC.all (HS.out.has 0 rfl)) Tryz.underlying34 rfl (by rw [skC_len]; exact infoSk) ?_)
    | (clear T3; go_at_call 65; refine (ended_in fo n fc s.entry s.nodes na N nc _ (by omega) (HR.out.new HS.out.nw) HN.out hN2 HB.out.b).mono ?_; rintro e w1 ⟨vb, rfl, hs⟩; replace HS := Lib.hid (HS.out.call hs); clear hs)
    | (clear T4; go_at_call 12; refine (build_in fo n fc f (some ⟨vb, 0, none⟩) n n (endN n s.nodes) _ (HL.out.new HS.out.nw) (HF.out.new HS.out.nw) (leaf_row (HS.out.rd 0 rfl)) HC.out).mono ?_; rw [HA.out]; rintro e w2 ⟨vs, rfl, hs⟩; obtain ⟨ma, mc, hv⟩ := rowA_form hs.hd; rw [HN.out] at hv; subst hv; replace HS := Lib.hid (HS.out.call hs); clear hs)
    | (clear T5; refine wpList_alB rfl 34 rfl _ zeroSk_run _ rfl HS.out ?_; intro w3 g5 hs; replace HS := Lib.hid hs; clear hs)
    | (clear T6; refine wpList_stSW 0 rfl rfl 34 (.tmp 5) (.tmp 13) rfl g5 rfl _ rfl HS.out rfl (skC s.entry (.slice ma N mc)) rfl (by rw [skC_len, skC_len]) (skC_one _ rfl) (by rw [skC_len]; exact infoSk) ?_; intro w4 hs; replace HS := Lib.hid hs; have cn := HS.out.cell 3 rfl (skC_nd _ _); have cm := HS.out.cell 0 rfl (skC_nd _ _); clear hs)
    | (clear T7; refine wpList_ldAG rfl 31 (.tmp 18) rfl gb 0 rfl (outK s.entry) _ (fun j v hv => HS.out.cell 3 rfl (skC_out2 _ _ j v hv)) Tryz.underlying31 rfl (by rw [outK_len]; exact infoO) ?_)
    | (clear T8; refine wpList_ldAG rfl 31 (.tmp 20) rfl g5 0 rfl (outK s.entry) _ (fun j v hv => HS.out.cell 0 rfl (skC_out2 _ _ j v hv)) Tryz.underlying31 rfl (by rw [outK_len]; exact infoO) ?_)
    | (clear T9; go_at_call 66; refine (sameW_any s.entry _ HB.out.e).mono ?_; rintro e w5 ⟨rfl, hn⟩; replace HS := Lib.hid (HS.out.go hn); clear hn cn cm; have cn := HS.out.cell 3 rfl (skC_nd _ _); have cm := HS.out.cell 0 rfl (skC_nd _ _))
    | (clear T10; go_at_call 67; refine (eqFn (HR.out.new HS.out.nw) (HS.out.rd 1 rfl) (fun x hx => ⟨HB.out.o x hx, HB.out.b x hx⟩) (by rw [HN.out]; exact hN2)).mono ?_; rintro e w6 ⟨rfl, hn⟩; replace HS := Lib.hid (HS.out.go hn); clear hn cn cm))
  go_ret
  exact ⟨rfl, HS.out.nw⟩
theorem made_any {fv : Value} {f : List I} {cut : List Bool} {v : Value} {w : World} (hl : Laid w) (hf : FunAt w fv f) (hr : (chkF f).2 = 0) (hs : (nodesO v (sklA f cut).nodes).rd w) :
    Calls Tryz.prog 37 #[fv, .agg (skC (sklA f cut).entry v).toArray] w fun e w' => e = .returned (.bool true) ∧ New w w' := by
  obtain ⟨fo, fc, rfl⟩ := hf.form
  obtain ⟨na, nc, rfl⟩ := rowA_form hs
  have h1 : (sklA f cut).nodes.length ≤ 200 := by rw [skl_len]; exact Nat.le_trans (nds_len (nodes_nds hr cut)) (chk_len hr)
  exact made_in fo _ fc f _ na _ nc w hl hf hr hs rfl (by omega) (by have := chk_len hr; omega) (good_skl f cut) (skl_again hr cut)
end Go.Proofs.YtphopkjgfkaihaaGreatDoor
