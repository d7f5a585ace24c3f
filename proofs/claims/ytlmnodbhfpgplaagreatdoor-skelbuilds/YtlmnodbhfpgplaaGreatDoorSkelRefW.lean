/-
  Layer 10: the contracts of the reference's way and Places.
-/
import Derived.Test.YtlmnodbhfpgplaaGreatDoorSkelRef
import Derived.Test.YtlmnodbhfpgplaaGreatDoorSkelPlan
import Derived.Test.YtlmnodbhfpgplaaGreatDoorSepLate
import Derived.Test.YtlmnodbhfpgplaaGreatDoorRefPath
namespace Go.Proofs.YtlmnodbhfpgplaaGreatDoor
open Go.RowKit

/-- A table of sources in a block of the call's own. -/
def tabA (k : Nat) (t : Tb) : Asn := ⟨fun w F => RwE w 167 k 24 (fun i => rcells (t i)) ∧ F k, fun ⟨⟨cs, h1, h2, h3⟩, b⟩ h => ⟨⟨cs, (h k b).trans h1, h2, h3⟩, b⟩⟩
theorem tabA_el {k cap : Nat} {t : Tb} {w : World} (h : (tabA k t).rd w) : ElAt w (.slice (some ⟨k, 0, none⟩) 24 cap) 24 (fun i => rcells (t i)) :=
  let ⟨_, a, _⟩ := h
  a.1.el (fun _ => rfl) cap
theorem refFromS (ao : Option Addr) (n cap : Nat) (f : List I) (p : Int) (w : World) (hf : FunAt w (.slice ao n cap) f) (hi : InF f p) :
    Calls Tryz.prog 66 #[.slice ao n cap, .int .i64 p] w fun e w' => ∃ kt ct, e = .returned (.agg #[.int .i64 (toA f p), .slice (some ⟨kt, 0, none⟩) 24 ct, .int .i64 (stP (pthA f p))]) ∧ Sep w w' [tabA kt (tblA f p)] :=
  (refFromK_in ao n cap f p _ w hf hi (pth_wy hi)).mono fun _ _ ⟨kr, rc, h1, h2, h3, h4⟩ => ⟨kr, rc, h1, (Sep.start w).add (F := fun g => g = kr) h3 ⟨h2, rfl⟩ fun g e => by
    subst e
    exact ⟨h4, h2.lt⟩⟩
def roC (to : Int) (v : Value) : List Value := [.int .i64 to, v]
theorem infoRo : (Tryz.prog.info? 67).map (·.size) = some 2 := by kernel_rfl
theorem zeroRo_run (w : World) : (zeroValue 67).run Tryz.prog w = .ok (.agg (roC 0 (.slice none 0 0)).toArray) w := Tryz.zeroValue67 w
theorem build_Ro (to : Int) (ao : Option Addr) (m cap : Nat) (w : World) : (Instr.build 67 #[(0, .int .i64 to), (1, .slice ao m cap)]).run Tryz.prog w = .ok (.agg (roC to (.slice ao m cap)).toArray) w := run_build w _ _ _ (by kernel_rfl)
theorem resRo (fn : Func) {p : Tmp} (h : fn.results = #[.cell p 67]) (tmps : Array Value) (w : World) (g : Nat) (to : Int) (v : Value) (hp : tmps.getD p undef = .pointer (some ⟨g, 0, none⟩)) (hg : HasC w g 67 (roC to v)) :
    (results fn tmps).run Tryz.prog w = .ok (.agg #[.int .i64 to, v]) w :=
  results_cell_row h tmps w g _ _ _ _ hp hg Tryz.underlying67 rfl infoRo
set_option maxHeartbeats 4000000 in
set_option maxRecDepth 100000 in
theorem way_any (fv : Value) (f : List I) (pv : Value) (ps : List Int) (p : Int) (w : World) (hf : FunAt w fv f) (hp : (intsA pv ps).rd w) (hi : InF f p) (hl : ps.length ≤ 100000) :
    Calls Tryz.prog 40 #[fv, pv, .int .i64 p] w fun e w' => ∃ kt ct, e = .returned (.agg #[.int .i64 (wyA f ps p).1, .slice (some ⟨kt, 0, none⟩) 24 ct]) ∧ Sep w w' [tabA kt (tblA f p)] := by
  have HP := Lib.hid hp
  have HL := Lib.hid hl
  have HF := Lib.hid hf
  have HI := Lib.hid hi
  obtain ⟨fo, fc, rfl⟩ := hf.form
  obtain ⟨n, HN⟩ : ∃ n, Hid (f.length = n) := ⟨_, Lib.hid rfl⟩
  rw [HN.out] at HF ⊢
  obtain ⟨to, hto⟩ : ∃ to, toA f p = to := ⟨_, rfl⟩
  obtain ⟨tb, HTB⟩ : ∃ tb, Hid (tblA f p = tb) := ⟨_, Lib.hid rfl⟩
  obtain ⟨st, HST⟩ : ∃ st, Hid (stP (pthA f p) = st) := ⟨_, Lib.hid rfl⟩
  have HS := Lib.hid (Sep.start w)
  have hw : (wyA f ps p).1 = if toA f p < 0 then -1 else ((ps.idxOf (toA f p) : Nat) : Int) := rfl
  rw [hto] at hw
  rw [hw, HTB.out]
  have HTO := Lib.hid hto
  have T1 : Hid True := Lib.hid trivial
  have T2 : Hid True := Lib.hid trivial
  have T3 : Hid True := Lib.hid trivial
  have T4 : Hid True := Lib.hid trivial
  have T5 : Hid True := Lib.hid trivial
  have T6 : Hid True := Lib.hid trivial
  clear hf hp hi hl hto hw
  rcases Int.lt_or_le to 0 with ht | ht
  · rw [if_pos ht]
    have d0 : decide (to < 0) = true := decide_eq_true ht
    go_enter Tryz.func40, Tryz.ntmps40
    go_wp2_with (first
      | (clear T1; refine wpList_alB rfl 67 rfl _ zeroRo_run _ rfl HS.out ?_; intro wa g6 hs; replace HS := Lib.hid hs; clear hs)
      | (clear T2; go_at_call 66; refine (refFromS fo n fc f p _ (HF.out.new HS.out.nw) HI.out).mono ?_; rw [HTO.out, HTB.out, HST.out]; rintro e wb ⟨kt, ct, rfl, hs⟩; replace HS := Lib.hid (HS.out.call hs); clear hs)
      | (clear T3; refine wpList_alB rfl 146 rfl _ zeroRp_run _ rfl HS.out ?_; intro wc gp hs; replace HS := Lib.hid hs; clear hs)
      | (clear T4; refine wpList_stSW 0 rfl rfl 146 (.tmp 7) (.tmp 10) rfl gp rfl _ rfl HS.out rfl (rpC to (.slice (some ⟨kt, 0, none⟩) 24 ct) st) rfl rfl (rpC_one rfl) infoRp ?_; intro wd hs; replace HS := Lib.hid hs; have c0 := HS.out.cell 0 rfl (k := 0) rfl; have c1 := HS.out.cell 0 rfl (k := 1) rfl; clear hs)
      | (clear T5; refine wpList_bd2 (a := .int .i64 (-1)) (b := .slice (some ⟨kt, 0, none⟩) 24 ct) rfl 67 0 1 (.const (.int .i64 (-1))) (.tmp 15) rfl rfl rfl (build_Ro (-1) _ _ _) ?_)
      | (clear T6; refine wpList_stSW 2 rfl rfl 67 (.tmp 6) (.tmp 16) rfl g6 rfl _ rfl HS.out rfl (roC (-1) (.slice (some ⟨kt, 0, none⟩) 24 ct)) rfl rfl (by simp [roC, Value.oneCell']) infoRo ?_; intro we hs; replace HS := Lib.hid hs; clear hs c0 c1))
    exact bodyPost_ret (resRo _ rfl _ _ g6 _ _ rfl (HS.out.has 2 rfl)) rfl ⟨kt, ct, rfl, HS.out.drop.dropAt 1 (by simp)⟩
  · obtain ⟨ix, HX⟩ : ∃ ix : Int, Hid (((ps.idxOf to : Nat) : Int) = ix) := ⟨_, Lib.hid rfl⟩
    rw [if_neg (by omega), HX.out]
    have d0 : decide (to < 0) = false := decide_eq_false (by omega)
    go_enter Tryz.func40, Tryz.ntmps40
    go_wp2_with (first
      | (clear T1; refine wpList_alB rfl 67 rfl _ zeroRo_run _ rfl HS.out ?_; intro wa g6 hs; replace HS := Lib.hid hs; clear hs)
      | (clear T2; go_at_call 66; refine (refFromS fo n fc f p _ (HF.out.new HS.out.nw) HI.out).mono ?_; rw [HTO.out, HTB.out, HST.out]; rintro e wb ⟨kt, ct, rfl, hs⟩; replace HS := Lib.hid (HS.out.call hs); clear hs)
      | (clear T3; refine wpList_alB rfl 146 rfl _ zeroRp_run _ rfl HS.out ?_; intro wc gp hs; replace HS := Lib.hid hs; clear hs)
      | (clear T4; refine wpList_stSW 0 rfl rfl 146 (.tmp 7) (.tmp 10) rfl gp rfl _ rfl HS.out rfl (rpC to (.slice (some ⟨kt, 0, none⟩) 24 ct) st) rfl rfl (rpC_one rfl) infoRp ?_; intro wd hs; replace HS := Lib.hid hs; have c0 := HS.out.cell 0 rfl (k := 0) rfl; have c1 := HS.out.cell 0 rfl (k := 1) rfl; clear hs))
    have S0 : Hid (New wd wd.drew) := Lib.hid ((New.refl wd).drew)
    have C0 := Lib.hid c0
    have C1 := Lib.hid c1
    clear c0 c1
    refine wp_region_noPanic ?_
    refine region_late (k := 7) (S := fun w' => New wd w') (by kernel_rfl) S0.out (fun _ => ?_)
    refine late_take (i := 0) (v := pv) rfl (by kernel_rfl) (by kernel_rfl) (by kernel_rfl) (by kernel_rfl) (fun _ _ _ h => h) (Or.inl ⟨rfl, fun _ _ => by go_simp⟩) S0.out ?_
    simp only [List.getElem_toArray, List.getElem_cons_zero, Act.put, List.setIfInBounds_toArray, List.set_cons_zero, List.set_cons_succ]
    refine late_take (i := 1) (v := .pointer (some ⟨gp, 0, none⟩)) rfl (by kernel_rfl) (by kernel_rfl) (by kernel_rfl) (by kernel_rfl) (fun _ _ _ h => h) (Or.inl ⟨rfl, fun _ _ => by go_simp⟩) S0.out ?_
    simp only [List.getElem_toArray, List.getElem_cons_zero, List.getElem_cons_succ, Act.put, List.setIfInBounds_toArray, List.set_cons_zero, List.set_cons_succ]
    refine late_take (i := 2) (v := .int .i64 to) rfl (by kernel_rfl) (by kernel_rfl) (by kernel_rfl) (by kernel_rfl) (fun _ _ _ h => h) (ldV_if rfl 3 Tryz.isAgg3 (.tmp 18) rfl ⟨gp, 0, none⟩ rfl (fun w' h => h.cell' C0.out)) S0.out ?_
    simp only [List.getElem_toArray, List.getElem_cons_zero, List.getElem_cons_succ, Act.put, List.setIfInBounds_toArray, List.set_cons_zero, List.set_cons_succ]
    refine late_take (i := 4) (v := .pointer (some ⟨gp, 1, none⟩)) rfl (by kernel_rfl) (by kernel_rfl) (by kernel_rfl) (by kernel_rfl) (fun _ _ _ h => h) (Or.inl ⟨rfl, fun _ _ => by go_simp⟩) S0.out ?_
    simp only [List.getElem_toArray, List.getElem_cons_zero, List.getElem_cons_succ, Act.put, List.setIfInBounds_toArray, List.set_cons_zero, List.set_cons_succ]
    refine late_take (i := 5) (v := .slice (some ⟨kt, 0, none⟩) 24 ct) rfl (by kernel_rfl) (by kernel_rfl) (by kernel_rfl) (by kernel_rfl) (fun _ _ _ h => h) (ldV_if rfl 65 Tryz.isAgg65 (.tmp 21) rfl ⟨gp, 1, none⟩ rfl (fun w' h => h.cell' C1.out)) S0.out ?_
    simp only [List.getElem_toArray, List.getElem_cons_zero, List.getElem_cons_succ, Act.put, List.setIfInBounds_toArray, List.set_cons_zero, List.set_cons_succ]
    refine late_forced [3, 6, 7] _ _ _ (by kernel_rfl) ?_
    refine LL_call rfl rfl 67 #[pv, .int .i64 to] (by go_simp) ?_
    refine (where_any pv ps to _ (HP.out.new (HS.out.nw.trans S0.out)) HL.out).mono ?_
    rw [HX.out]
    rintro e we ⟨rfl, hn⟩
    replace HS := Lib.hid ((HS.out.go S0.out).go hn)
    have N1 := Lib.hid (S0.out.trans hn)
    clear hn
    refine ⟨_, rfl, N1.out, ?_⟩
    simp only [List.getElem_toArray, List.getElem_cons_zero, List.getElem_cons_succ, Act.put, List.setIfInBounds_toArray, List.set_cons_zero, List.set_cons_succ]
    refine LL_val (v := .agg (roC ix (.slice (some ⟨kt, 0, none⟩) 24 ct)).toArray) rfl rfl (by unfold execOp; simp only [Act.eval]; simp [build_Ro]) N1.out ?_
    simp only [List.getElem_toArray, List.getElem_cons_zero, List.getElem_cons_succ, Act.put, List.setIfInBounds_toArray, List.set_cons_zero, List.set_cons_succ]
    have hH := HS.out.has 2 rfl
    refine LL_skip rfl rfl rfl (run_stC 67 (.tmp 6) (.tmp 23) rfl g6 rfl _ rfl hH (roC ix (.slice (some ⟨kt, 0, none⟩) 24 ct)) rfl rfl (by simp [roC, Value.oneCell']) infoRo) (fun h => absurd rfl h) ?_
    have hS2 := HS.out.setAt 2 rfl (Kept.put we g6 (.cells (roC ix (.slice (some ⟨kt, 0, none⟩) 24 ct)).toArray 67 (0, 0))) (HasC.put hH _)
    generalize putO we g6 (.cells (roC ix (.slice (some ⟨kt, 0, none⟩) 24 ct)).toArray 67 (0, 0)) = wz at hS2 ⊢
    replace HS := Lib.hid hS2
    clear hS2 hH
    refine NoPanic.normal ?_
    go_wp2
    exact bodyPost_ret (resRo _ rfl _ _ g6 _ _ rfl (HS.out.has 2 rfl)) rfl ⟨kt, ct, rfl, HS.out.drop.dropAt 1 (by simp)⟩
end Go.Proofs.YtlmnodbhfpgplaaGreatDoor
