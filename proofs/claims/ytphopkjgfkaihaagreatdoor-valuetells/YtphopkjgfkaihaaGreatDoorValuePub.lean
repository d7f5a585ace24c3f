/-
  Layer 11: the contracts of value.By, All, Facts: of what skel.Build made.
  Layer 11: the contracts of value.lacks and value.Cut: cut, and again, till none is.
-/
import Derived.Test.YtphopkjgfkaihaaGreatDoorValueFact
namespace Go.Proofs.YtphopkjgfkaihaaGreatDoor
open Go.RowKit

theorem skl_few {f : List I} (hr : (chkF f).2 = 0) (cut : List Bool) : (sklA f cut).nodes.length ≤ 200 := by
  rw [skl_len]
  exact Nat.le_trans (nds_len (nodes_nds hr cut)) (chk_len hr)
set_option maxHeartbeats 2000000 in
set_option maxRecDepth 100000 in
theorem all_pub {fv : Value} {f : List I} {cut : List Bool} {v : Value} {w : World} (hl : Laid w) (hf : FunAt w fv f) (hr : (chkF f).2 = 0) (hs : (nodesO v (sklA f cut).nodes).rd w) :
    Calls Tryz.prog 17 #[fv, .agg (skC (sklA f cut).entry v).toArray] w fun e w' => ∃ v', e = .returned v' ∧ Sep w w' [allO v' (allT f (sklA f cut))] := by
  have HS := Lib.hid (Sep.start w)
  have HR := Lib.hid hs
  have HL := Lib.hid hl
  have HF := Lib.hid hf
  have HC := Lib.hid hr
  obtain ⟨na, nc, rfl⟩ := rowA_form hs
  clear hs hl hf hr
  have T1 : Hid True := Lib.hid trivial
  have T2 : Hid True := Lib.hid trivial
  have T3 : Hid True := Lib.hid trivial
  have T4 : Hid True := Lib.hid trivial
  have T5 : Hid True := Lib.hid trivial
  go_enter Tryz.func17, Tryz.ntmps17
  go_wp2_with (first
    | (clear T1; refine wpList_boxB rfl 34 (.tmp 1) rfl (skC (sklA f cut).entry (.slice na (sklA f cut).nodes.length nc)) rfl HS.out ?_; intro wa gb hs; replace HS := Lib.hid hs; clear hs)
    | (clear T2; refine wpList_load_mid rfl 34 (.tmp 3) rfl gb 0 rfl (skC (sklA f cut).entry (.slice na (sklA f cut).nodes.length nc)) _ (HasC.all (HS.out.has 0 rfl)) Tryz.underlying34 rfl (by rw [skC_len]; exact infoSk) ?_)
    | (clear T3; go_at_call 37; refine (made_any (HL.out.new HS.out.nw) (HF.out.new HS.out.nw) HC.out (HR.out.new HS.out.nw)).mono ?_; rintro e w1 ⟨rfl, hn⟩; replace HS := Lib.hid (HS.out.go hn); clear hn)
    | (clear T4; refine wpList_load_mid rfl 34 (.tmp 3) rfl gb 0 rfl (skC (sklA f cut).entry (.slice na (sklA f cut).nodes.length nc)) _ (HasC.all (HS.out.has 0 rfl)) Tryz.underlying34 rfl (by rw [skC_len]; exact infoSk) ?_)
    | (clear T5; go_at_call 43; refine (all_any (HL.out.new HS.out.nw) (HF.out.new HS.out.nw) HC.out (HR.out.new HS.out.nw)).mono ?_; rintro e w2 ⟨v', rfl, hs⟩; replace HS := Lib.hid (HS.out.call hs); clear hs))
  go_ret
  exact ⟨_, rfl, HS.out.dropAt 1 (by simp)⟩
set_option maxHeartbeats 2000000 in
set_option maxRecDepth 100000 in
theorem facts_pub {fv : Value} {f : List I} {cut : List Bool} {F : Kt} {v : Value} {w : World} (hl : Laid w) (hf : FunAt w fv f) (hr : (chkF f).2 = 0) (hs : (nodesO v (sklA f cut).nodes).rd w) (hF : FactTab f (sklA f cut) F) :
    Calls Tryz.prog 20 #[fv, .agg (skC (sklA f cut).entry v).toArray] w fun e w' => ∃ v', e = .returned v' ∧ Sep w w' [factsO v' (tabK (sklA f cut).nodes.length F)] := by
  have HS := Lib.hid (Sep.start w)
  have HR := Lib.hid hs
  have HL := Lib.hid hl
  have HF := Lib.hid hf
  have HC := Lib.hid hr
  have HFT := Lib.hid hF
  obtain ⟨na, nc, rfl⟩ := rowA_form hs
  clear hs hl hf hr hF
  have T1 : Hid True := Lib.hid trivial
  have T2 : Hid True := Lib.hid trivial
  have T3 : Hid True := Lib.hid trivial
  have T4 : Hid True := Lib.hid trivial
  have T5 : Hid True := Lib.hid trivial
  go_enter Tryz.func20, Tryz.ntmps20
  go_wp2_with (first
    | (clear T1; refine wpList_boxB rfl 34 (.tmp 1) rfl (skC (sklA f cut).entry (.slice na (sklA f cut).nodes.length nc)) rfl HS.out ?_; intro wa gb hs; replace HS := Lib.hid hs; clear hs)
    | (clear T2; refine wpList_load_mid rfl 34 (.tmp 3) rfl gb 0 rfl (skC (sklA f cut).entry (.slice na (sklA f cut).nodes.length nc)) _ (HasC.all (HS.out.has 0 rfl)) Tryz.underlying34 rfl (by rw [skC_len]; exact infoSk) ?_)
    | (clear T3; go_at_call 37; refine (made_any (HL.out.new HS.out.nw) (HF.out.new HS.out.nw) HC.out (HR.out.new HS.out.nw)).mono ?_; rintro e w1 ⟨rfl, hn⟩; replace HS := Lib.hid (HS.out.go hn); clear hn)
    | (clear T4; refine wpList_load_mid rfl 34 (.tmp 3) rfl gb 0 rfl (skC (sklA f cut).entry (.slice na (sklA f cut).nodes.length nc)) _ (HasC.all (HS.out.has 0 rfl)) Tryz.underlying34 rfl (by rw [skC_len]; exact infoSk) ?_)
    | (clear T5; go_at_call 44; refine (facts_any (HL.out.new HS.out.nw) (HF.out.new HS.out.nw) HC.out (HR.out.new HS.out.nw) HFT.out).mono ?_; rintro e w2 ⟨v', rfl, hs⟩; replace HS := Lib.hid (HS.out.call hs); clear hs))
  go_ret
  exact ⟨_, rfl, HS.out.dropAt 1 (by simp)⟩
set_option maxHeartbeats 4000000 in
set_option maxRecDepth 100000 in
theorem by_noway {fv : Value} {s : Skl} {na : Option Addr} {N nc : Nat} {v : Value} (e : Ed) (l : Int) {w : World} (hv : v = .slice na N nc) (hs : (nodesO v s.nodes).rd w) (hN2 : s.nodes.length ≤ 200) (he : ¬ hasE s e) :
    Calls Tryz.prog 13 #[fv, .agg (skC s.entry v).toArray, .agg #[.int .i64 e.1, .int .i64 e.2], .int .i64 l] w fun r w' => r = .returned (.agg (srcK (0, 0)).toArray) ∧ New w w' := by
  have HS := Lib.hid (Sep.start w)
  have HR := Lib.hid hs
  have HN2 := Lib.hid hN2
  subst hv
  have HE := Lib.hid he
  clear hs hN2 he
  have T1 : Hid True := Lib.hid trivial
  have T2 : Hid True := Lib.hid trivial
  have T3 : Hid True := Lib.hid trivial
  have T4 : Hid True := Lib.hid trivial
  have T5 : Hid True := Lib.hid trivial
  have T6 : Hid True := Lib.hid trivial
  have T7 : Hid True := Lib.hid trivial
  have T8 : Hid True := Lib.hid trivial
  have T9 : Hid True := Lib.hid trivial
  have T10 : Hid True := Lib.hid trivial
  go_enter Tryz.func13, Tryz.ntmps13
  go_wp2_with (first
    | (clear T1; refine wpList_boxB rfl 34 (.tmp 1) rfl (skC s.entry (.slice na N nc)) rfl HS.out ?_; intro wa gb hs; replace HS := Lib.hid hs; clear hs)
    | (clear T2; refine wpList_boxB rfl 42 (.tmp 2) rfl (edK e) rfl HS.out ?_; intro wb ge hs; replace HS := Lib.hid hs; clear hs)
    | (clear T3; refine wpList_alB rfl 39 rfl _ zeroSr_run _ rfl HS.out ?_; intro wc gr hs; replace HS := Lib.hid hs; clear hs)
    | (clear T4; refine wpList_load_mid rfl 34 (.tmp 5) rfl gb 0 rfl (skC s.entry (.slice na N nc)) _ (HasC.all (HS.out.has 2 rfl)) Tryz.underlying34 rfl (by rw [skC_len]; exact infoSk) ?_)
    | (clear T5; refine wpList_load_mid rfl 42 (.tmp 6) rfl ge 0 rfl (edK e) _ (HasC.all (HS.out.has 1 rfl)) Tryz.underlying42 rfl infoEd2 ?_)
    | (clear T6; go_at_call 35; refine (way_not (HR.out.new HS.out.nw) (by have := HN2.out; omega) HE.out).mono ?_; rintro r w3 ⟨rfl, hn⟩; replace HS := Lib.hid (HS.out.go hn); clear hn)
    | (clear T7; refine wpList_alB rfl 31 rfl _ zeroOt_run _ rfl HS.out ?_; intro w4 go hs; replace HS := Lib.hid hs; clear hs)
    | (clear T8; refine wpList_stSW 0 rfl rfl 31 (.tmp 9) (.tmp 15) rfl go rfl _ rfl HS.out rfl (outK (0, noT)) rfl rfl (outK_one _) (by rw [outK_len]; exact infoO) ?_; intro w5 hs; replace HS := Lib.hid hs; clear hs)
    | (clear T9; refine wpList_bd0 rfl 39 rfl build_Sr0 ?_)
    | (clear T10; refine wpList_stSW 1 rfl rfl 39 (.tmp 8) (.tmp 30) rfl gr rfl _ rfl HS.out rfl (srcK (0, 0)) rfl rfl (srcK_one _) infoSr ?_; intro w6 hs; replace HS := Lib.hid hs; clear hs))
  exact bodyPost_ret (resSr _ rfl _ _ gr _ rfl (HS.out.has 1 rfl)) rfl ⟨rfl, HS.out.nw⟩
set_option maxHeartbeats 4000000 in
set_option maxRecDepth 100000 in
theorem by_noplace {fv : Value} {s : Skl} {na : Option Addr} {N nc : Nat} {v : Value} (e : Ed) (l : Int) {w : World} (hv : v = .slice na N nc) (hs : (nodesO v s.nodes).rd w) (hN2 : s.nodes.length ≤ 200) (hB : GoodS s) (he : hasE s e) (ql : rightB l = false) :
    Calls Tryz.prog 13 #[fv, .agg (skC s.entry v).toArray, .agg #[.int .i64 e.1, .int .i64 e.2], .int .i64 l] w fun r w' => r = .returned (.agg (srcK (0, 0)).toArray) ∧ New w w' := by
  have HS := Lib.hid (Sep.start w)
  have HR := Lib.hid hs
  have HN2 := Lib.hid hN2
  subst hv
  have HE := Lib.hid he
  have HB := Lib.hid hB
  obtain ⟨o, HO⟩ : ∃ o, Hid (outE s e = o) := ⟨_, Lib.hid rfl⟩
  clear hs hN2 he hB
  have T1 : Hid True := Lib.hid trivial
  have T2 : Hid True := Lib.hid trivial
  have T3 : Hid True := Lib.hid trivial
  have T4 : Hid True := Lib.hid trivial
  have T5 : Hid True := Lib.hid trivial
  have T6 : Hid True := Lib.hid trivial
  have T7 : Hid True := Lib.hid trivial
  have T8 : Hid True := Lib.hid trivial
  have T9 : Hid True := Lib.hid trivial
  have T10 : Hid True := Lib.hid trivial
  have T11 : Hid True := Lib.hid trivial
  go_enter Tryz.func13, Tryz.ntmps13
  go_wp2_with (first
    | (clear T1; refine wpList_boxB rfl 34 (.tmp 1) rfl (skC s.entry (.slice na N nc)) rfl HS.out ?_; intro wa gb hs; replace HS := Lib.hid hs; clear hs)
    | (clear T2; refine wpList_boxB rfl 42 (.tmp 2) rfl (edK e) rfl HS.out ?_; intro wb ge hs; replace HS := Lib.hid hs; clear hs)
    | (clear T3; refine wpList_alB rfl 39 rfl _ zeroSr_run _ rfl HS.out ?_; intro wc gr hs; replace HS := Lib.hid hs; clear hs)
    | (clear T4; refine wpList_load_mid rfl 34 (.tmp 5) rfl gb 0 rfl (skC s.entry (.slice na N nc)) _ (HasC.all (HS.out.has 2 rfl)) Tryz.underlying34 rfl (by rw [skC_len]; exact infoSk) ?_)
    | (clear T5; refine wpList_load_mid rfl 42 (.tmp 6) rfl ge 0 rfl (edK e) _ (HasC.all (HS.out.has 1 rfl)) Tryz.underlying42 rfl infoEd2 ?_)
    | (clear T6; go_at_call 35; refine (way_yes (HR.out.new HS.out.nw) (by have := HN2.out; omega) HB.out HE.out).mono ?_; rw [HO.out]; rintro r w3 ⟨rfl, hn⟩; replace HS := Lib.hid (HS.out.go hn); clear hn)
    | (clear T7; refine wpList_alB rfl 31 rfl _ zeroOt_run _ rfl HS.out ?_; intro w4 go hs; replace HS := Lib.hid hs; clear hs)
    | (clear T8; refine wpList_stSW 0 rfl rfl 31 (.tmp 9) (.tmp 15) rfl go rfl _ rfl HS.out rfl (outK o) rfl (by rw [outK_len, outK_len]) (outK_one _) (by rw [outK_len]; exact infoO) ?_; intro w5 hs; replace HS := Lib.hid hs; clear hs)
    | (clear T9; go_at_call 36; refine (right_any _ _).mono ?_; rw [ql]; rintro r w6 ⟨rfl, rfl⟩)
    | (clear T10; refine wpList_bd0 rfl 39 rfl build_Sr0 ?_)
    | (clear T11; refine wpList_stSW 1 rfl rfl 39 (.tmp 8) (.tmp 30) rfl gr rfl _ rfl HS.out rfl (srcK (0, 0)) rfl rfl (srcK_one _) infoSr ?_; intro w7 hs; replace HS := Lib.hid hs; clear hs))
  exact bodyPost_ret (resSr _ rfl _ _ gr _ rfl (HS.out.has 1 rfl)) rfl ⟨rfl, HS.out.nw⟩
set_option maxHeartbeats 4000000 in
set_option maxRecDepth 100000 in
theorem by_yes {fv : Value} {f : List I} {s : Skl} {na : Option Addr} {N nc : Nat} {v : Value} (e : Ed) (l : Int) {w : World} (hv : v = .slice na N nc) (hs : (nodesO v s.nodes).rd w) (hN2 : s.nodes.length ≤ 200) (l' : Nat) (hl : l = (l' : Int)) (hl24 : l' < 24) (hB : GoodS s) (he : hasE s e) (hmd : ∀ w', New w w' → Calls Tryz.prog 37 #[fv, .agg (skC s.entry v).toArray] w' fun r w2 => r = .returned (.bool true) ∧ New w' w2) (hL : Laid w) (hF : FunAt w fv f) (hI : InS f s) (hfm : e.1 = -1 ∨ 0 ≤ e.1 ∧ e.1 < s.nodes.length) :
    Calls Tryz.prog 13 #[fv, .agg (skC s.entry v).toArray, .agg #[.int .i64 e.1, .int .i64 e.2], .int .i64 l] w fun r w' => r = .returned (.agg (srcK (byA f s e l')).toArray) ∧ New w w' := by
  have HS := Lib.hid (Sep.start w)
  have HR := Lib.hid hs
  have HN2 := Lib.hid hN2
  subst hv
  subst hl
  have HE := Lib.hid he
  have HB := Lib.hid hB
  have HMD := Lib.hid hmd
  have HL := Lib.hid hL
  have HF := Lib.hid hF
  have HI := Lib.hid hI
  have HFM := Lib.hid hfm
  obtain ⟨o, HO⟩ : ∃ o, Hid (outE s e = o) := ⟨_, Lib.hid rfl⟩
  have HOK : Hid (okS (o.2 l') = true) := Lib.hid (good_at (by rw [← HO.out]; exact good_out hB he) hl24)
  have HTO : Hid (toldA f s e.1 (o.2 l') = byA f s e l') := Lib.hid (by rw [by_told, HO.out])
  obtain ⟨R, HRR⟩ : ∃ R, Hid (byA f s e l' = R) := ⟨_, Lib.hid rfl⟩
  rw [HRR.out] at HTO
  have ql : rightB (l' : Int) = true := by unfold rightB; exact decide_eq_true (by omega)
  rw [HRR.out]
  obtain ⟨fo, fc, rfl⟩ := hF.form
  obtain ⟨n, hn⟩ : ∃ n, f.length = n := ⟨_, rfl⟩
  rw [hn] at HF HMD
  rw [hn]
  clear hs hN2 he hB hmd hL hF hI hfm hn
  have T1 : Hid True := Lib.hid trivial
  have T2 : Hid True := Lib.hid trivial
  have T3 : Hid True := Lib.hid trivial
  have T4 : Hid True := Lib.hid trivial
  have T5 : Hid True := Lib.hid trivial
  have T6 : Hid True := Lib.hid trivial
  have T7 : Hid True := Lib.hid trivial
  have T8 : Hid True := Lib.hid trivial
  have T9 : Hid True := Lib.hid trivial
  have T10 : Hid True := Lib.hid trivial
  have T11 : Hid True := Lib.hid trivial
  go_enter Tryz.func13, Tryz.ntmps13
  go_wp2_with (first
    | (clear T1; refine wpList_boxB rfl 34 (.tmp 1) rfl (skC s.entry (.slice na N nc)) rfl HS.out ?_; intro wa gb hs; replace HS := Lib.hid hs; clear hs)
    | (clear T2; refine wpList_boxB rfl 42 (.tmp 2) rfl (edK e) rfl HS.out ?_; intro wb ge hs; replace HS := Lib.hid hs; clear hs)
    | (clear T3; refine wpList_alB rfl 39 rfl _ zeroSr_run _ rfl HS.out ?_; intro wc gr hs; replace HS := Lib.hid hs; clear hs)
    | (clear T4; refine wpList_load_mid rfl 34 (.tmp 5) rfl gb 0 rfl (skC s.entry (.slice na N nc)) _ (HasC.all (HS.out.has 2 rfl)) Tryz.underlying34 rfl (by rw [skC_len]; exact infoSk) ?_)
    | (clear T5; refine wpList_load_mid rfl 42 (.tmp 6) rfl ge 0 rfl (edK e) _ (HasC.all (HS.out.has 1 rfl)) Tryz.underlying42 rfl infoEd2 ?_)
    | (clear T6; go_at_call 35; refine (way_yes (HR.out.new HS.out.nw) (by have := HN2.out; omega) HB.out HE.out).mono ?_; rw [HO.out]; rintro r w3 ⟨rfl, hn⟩; replace HS := Lib.hid (HS.out.go hn); clear hn)
    | (clear T7; refine wpList_alB rfl 31 rfl _ zeroOt_run _ rfl HS.out ?_; intro w4 go hs; replace HS := Lib.hid hs; clear hs)
    | (clear T8; refine wpList_stSW 0 rfl rfl 31 (.tmp 9) (.tmp 15) rfl go rfl _ rfl HS.out rfl (outK o) rfl (by rw [outK_len, outK_len]) (outK_one _) (by rw [outK_len]; exact infoO) ?_; intro w5 hs; replace HS := Lib.hid hs; clear hs)
    | (clear T9; go_at_call 36; refine (right_any _ _).mono ?_; rw [ql]; rintro r w6 ⟨rfl, rfl⟩)
    | (clear T10; refine wpList_ldAG rfl 34 (.tmp 5) rfl gb 0 rfl (skC s.entry (.slice na N nc)) _ (HasC.all (HS.out.has 3 rfl)) Tryz.underlying34 rfl (by rw [skC_len]; exact infoSk) ?_)
    | (clear T11; go_at_call 37; refine (HMD.out _ HS.out.nw).mono ?_; rintro r w7 ⟨rfl, hn⟩; replace HS := Lib.hid (HS.out.go hn); clear hn))
  have N0 : New w w7 := HS.out.nw
  have S0 : New w7 w7.drew := (New.refl w7).drew
  have B5 := Lib.hid (HS.out.has 3 rfl)
  have ce := HS.out.cell 2 rfl (k := 0) rfl
  have hc : (outK o)[1 + l']? = some (sv (o.2 l')) := outK_t1 o l' _ (by rw [Array.getElem?_toList]; exact cellsT_at o.2 hl24)
  have cx := HS.out.cell 0 rfl hc
  refine wp_region_noPanic ?_
  refine region_late (k := 9) (S := fun w' => New w7 w') (by kernel_rfl) S0 (fun _ => ?_)
  refine late_take (i := 0) (v := .slice fo n fc) rfl (by kernel_rfl) (by kernel_rfl) (by kernel_rfl) (by kernel_rfl) (fun _ _ _ h => h) (Or.inl ⟨rfl, fun _ _ => by go_simp⟩) S0 ?_
  simp only [List.getElem_toArray, List.getElem_cons_zero, Act.put, List.setIfInBounds_toArray, List.set_cons_zero, List.set_cons_succ]
  refine late_take (i := 1) (v := .agg (skC s.entry (.slice na N nc)).toArray) rfl (by kernel_rfl) (by kernel_rfl) (by kernel_rfl) (by kernel_rfl) (fun _ _ _ h => h) (yieldsIf_load_mid (by rfl) _ _ rfl gb 0 rfl (skC s.entry (.slice na N nc)) _ (fun w' h => HasC.all (HasC.new B5.out h)) Tryz.underlying34 rfl (by rw [skC_len]; exact infoSk)) S0 ?_
  simp only [List.getElem_toArray, List.getElem_cons_zero, List.getElem_cons_succ, Act.put, List.setIfInBounds_toArray, List.set_cons_zero, List.set_cons_succ]
  refine late_take (i := 2) (v := .pointer (some ⟨ge, 0, none⟩)) rfl (by kernel_rfl) (by kernel_rfl) (by kernel_rfl) (by kernel_rfl) (fun _ _ _ h => h) (Or.inl ⟨rfl, fun _ _ => by go_simp⟩) S0 ?_
  simp only [List.getElem_toArray, List.getElem_cons_zero, List.getElem_cons_succ, Act.put, List.setIfInBounds_toArray, List.set_cons_zero, List.set_cons_succ]
  refine late_take (i := 3) (v := .int .i64 e.1) rfl (by kernel_rfl) (by kernel_rfl) (by kernel_rfl) (by kernel_rfl) (fun _ _ _ h => h) (ldV_if rfl 3 Tryz.isAgg3 (.tmp 33) rfl ⟨ge, 0, none⟩ rfl (fun w' h => h.cell' ce)) S0 ?_
  simp only [List.getElem_toArray, List.getElem_cons_zero, List.getElem_cons_succ, Act.put, List.setIfInBounds_toArray, List.set_cons_zero, List.set_cons_succ]
  refine late_take (i := 4) (v := .int .i64 (l' : Int)) rfl (by kernel_rfl) (by kernel_rfl) (by kernel_rfl) (by kernel_rfl) (fun _ _ _ h => h) (Or.inl ⟨rfl, fun _ _ => by go_simp⟩) S0 ?_
  simp only [List.getElem_toArray, List.getElem_cons_zero, List.getElem_cons_succ, Act.put, List.setIfInBounds_toArray, List.set_cons_zero, List.set_cons_succ]
  refine late_take (i := 5) (v := .pointer (some ⟨go, 1, none⟩)) rfl (by kernel_rfl) (by kernel_rfl) (by kernel_rfl) (by kernel_rfl) (fun _ _ _ h => h) (Or.inl ⟨rfl, fun _ _ => by go_simp⟩) S0 ?_
  simp only [List.getElem_toArray, List.getElem_cons_zero, List.getElem_cons_succ, Act.put, List.setIfInBounds_toArray, List.set_cons_zero, List.set_cons_succ]
  refine late_take (i := 6) (v := .pointer (some ⟨go, 1 + l', none⟩)) rfl (by kernel_rfl) (by kernel_rfl) (by kernel_rfl) (by kernel_rfl) (fun _ _ _ h => h) (Or.inl ⟨rfl, fun _ _ => by go_simp; intro hh; omega⟩) S0 ?_
  simp only [List.getElem_toArray, List.getElem_cons_zero, List.getElem_cons_succ, Act.put, List.setIfInBounds_toArray, List.set_cons_zero, List.set_cons_succ]
  refine late_take (i := 7) (v := sv (o.2 l')) rfl (by kernel_rfl) (by kernel_rfl) (by kernel_rfl) (by kernel_rfl) (fun _ _ _ h => h) (ldV_if rfl 27 Tryz.isAgg27 (.tmp 37) rfl ⟨go, 1 + l', none⟩ rfl (fun w' h => h.cell' cx)) S0 ?_
  simp only [List.getElem_toArray, List.getElem_cons_zero, List.getElem_cons_succ, Act.put, List.setIfInBounds_toArray, List.set_cons_zero, List.set_cons_succ]
  refine late_forced [8, 9] _ _ _ (by kernel_rfl) ?_
  have hS := HS.out.go S0
  refine LL_call rfl rfl 38 #[.slice fo n fc, .agg (skC s.entry (.slice na N nc)).toArray, .int .i64 e.1, sv (o.2 l')] (by go_simp) ?_
  refine (told_any (HL.out.new hS.nw) (HF.out.new hS.nw) (HR.out.new hS.nw) HFM.out HI.out HOK.out).mono ?_
  rw [HTO.out]
  rintro r w8 ⟨rfl, hn⟩
  have hS2 := hS.go hn
  refine ⟨_, rfl, S0.trans hn, ?_⟩
  simp only [List.getElem_toArray, List.getElem_cons_zero, List.getElem_cons_succ, Act.put, List.setIfInBounds_toArray, List.set_cons_zero, List.set_cons_succ]
  have hst : (Instr.storeAt 39 (.pointer (some ⟨gr, 0, none⟩)) (.agg (srcK R).toArray)).run Tryz.prog w8 = .ok () (putO w8 gr (.cells (srcK R).toArray 39 (0, 0))) := HasC.store (hS2.has 1 rfl) 0 (srcK R) 39 (.agg (srcK R).toArray) rfl (by simp [srcK]) (srcK_one R) infoSr
  refine LL_skip rfl rfl rfl (run_stO 39 (.tmp 8) (.tmp 39) rfl rfl rfl hst) (fun h => absurd rfl h) ?_
  have hfin := hS2.setAt 1 rfl (Kept.put w8 gr (.cells (srcK R).toArray 39 (0, 0))) (HasC.put (hS2.has 1 rfl) _)
  clear hst
  generalize putO w8 gr (.cells (srcK R).toArray 39 (0, 0)) = w9 at hfin ⊢
  replace HS := Lib.hid hfin
  refine NoPanic.normal ?_
  clear hfin hS hS2 ce cx S0 hn N0 hc
  go_wp2
  exact bodyPost_ret (resSr _ rfl _ _ gr _ rfl (HS.out.has 1 rfl)) rfl ⟨rfl, HS.out.nw⟩
end Go.Proofs.YtphopkjgfkaihaaGreatDoor
namespace Go.Proofs.YtphopkjgfkaihaaGreatDoor
open Go.RowKit

theorem edge_fm {s : Skl} {e : Ed} (h : hasE s e) : e.1 = -1 ∨ 0 ≤ e.1 ∧ e.1 < s.nodes.length := by
  rcases h with ⟨h, _⟩ | ⟨j, k, x, rfl, h, _⟩
  · exact .inl h
  · have := (List.getElem?_eq_some_iff.mp h).1
    exact .inr ⟨by show (0 : Int) ≤ (j : Int); omega, by show (j : Int) < _; omega⟩
theorem by_pub {fv : Value} {f : List I} {cut : List Bool} {v : Value} (e : Ed) (l' : Nat) {w : World} (hl : Laid w) (hf : FunAt w fv f) (hr : (chkF f).2 = 0) (hs : (nodesO v (sklA f cut).nodes).rd w) (he : hasE (sklA f cut) e) (h24 : l' < 24) :
    Calls Tryz.prog 13 #[fv, .agg (skC (sklA f cut).entry v).toArray, .agg #[.int .i64 e.1, .int .i64 e.2], .int .i64 (l' : Int)] w fun r w' => r = .returned (.agg (srcK (byA f (sklA f cut) e l')).toArray) ∧ New w w' := by
  obtain ⟨na, nc, hv⟩ := rowA_form hs
  exact by_yes e _ hv hs (skl_few hr cut) l' rfl h24 (good_skl f cut) he (fun w' hn => made_any (hl.new hn) (hf.new hn) hr (hs.new hn)) hl hf (inS_skl hr cut) (edge_fm he)
theorem by_none {fv : Value} {f : List I} {cut : List Bool} {v : Value} (e : Ed) (l : Int) {w : World} (hr : (chkF f).2 = 0) (hs : (nodesO v (sklA f cut).nodes).rd w) (he : ¬ (hasE (sklA f cut) e ∧ 0 ≤ l ∧ l < 24)) :
    Calls Tryz.prog 13 #[fv, .agg (skC (sklA f cut).entry v).toArray, .agg #[.int .i64 e.1, .int .i64 e.2], .int .i64 l] w fun r w' => r = .returned (.agg (srcK (0, 0)).toArray) ∧ New w w' := by
  obtain ⟨na, nc, hv⟩ := rowA_form hs
  by_cases h : hasE (sklA f cut) e
  · exact by_noplace e l hv hs (skl_few hr cut) (good_skl f cut) h (by unfold rightB; exact decide_eq_false fun h2 => he ⟨h, h2⟩)
  · exact by_noway e l hv hs (skl_few hr cut) h
/-! What an instruction needs. -/
theorem own_rowM {w : World} {base n : Nat} {e : TypeId} {v : Value} {α : Type} {mk : α → Value} {ys : List α} (h : w.ownsRow base e 1 v n (ys.map mk)) : RowAt w v (ys.map mk) := by
  obtain ⟨hl, h | ⟨g, cap, cur, rfl, _, hg, _, _, hs, ht⟩⟩ := h
  · obtain ⟨rfl, rfl⟩ := h
    obtain rfl : ys = [] := by
      apply List.eq_nil_of_length_eq_zero
      simpa using hl
    exact ⟨none, 0, rfl, fun i hi => absurd hi (Nat.not_lt_zero _)⟩
  · have hn : n = ys.length := by simpa using hl.symm
    subst hn
    refine ⟨some ⟨g, 0, none⟩, cap, by rw [List.length_map], fun i hi => ⟨g, 0, rfl, ?_⟩⟩
    have hi' : i < ys.length := by simpa using hi
    have e : cur[i]? = (ys.map mk)[i]? := by
      rw [← ht, Nat.mul_one, List.getElem?_take, if_pos hi', Array.getElem?_toList]
    rw [Nat.zero_add]
    have hc : HasC w g _ cur.toList := hg
    exact hc.cell (by rw [Array.getElem?_toList, e, List.getElem?_eq_getElem hi])
theorem uses_in {x : I} {n : Int} (h : Ri x n) : ∀ u ∈ usesL x, 0 ≤ u ∧ u < 24 := by
  intro u hu
  have := h.a0; have := h.a1; have := h.b0; have := h.b1
  rw [uses_class] at hu
  split at hu
  · simp at hu
    rcases hu with rfl | rfl <;> omega
  · split at hu
    · simp at hu
      subst hu
      omega
    · simp at hu
theorem uses_two (x : I) : (usesL x).length ≤ 2 := by
  rw [uses_class]
  split
  · simp
  · split <;> simp
def lackB (x : I) (g : Nat → Sc) : Bool := (usesL x).any fun u => decide ((g u.toNat).1 = 0)
theorem fact_zero {f : List I} {s : Skl} {n l : Nat} {k : Sc} (h : IsFact f s n l k) (h0 : k.1 = 0) : k = (0, 0) := by
  rcases h with ⟨h | h, _⟩ | ⟨h, _⟩
  · exact h
  · omega
  · rw [h] at h0
    have h1 : (4 : Int) = 0 := h0
    omega
theorem lack_yes {f : List I} {cut : List Bool} {F : Kt} (hF : FactTab f (sklA f cut) F) {x : I} {m : Nat} (hm : m < (sklA f cut).nodes.length) (hu : ∀ u ∈ usesL x, 0 ≤ u ∧ u < 24) (h : lackB x (F m) = true) : ∃ u ∈ usesL x, HasFact f (sklA f cut) (0, 0) m u.toNat := by
  obtain ⟨u, h1, h2⟩ := List.any_eq_true.mp h
  have h3 := hu u h1
  have h4 := hF m u.toNat hm (by omega)
  have h5 := fact_zero h4 (of_decide_eq_true h2)
  rw [h5] at h4
  rcases h4 with ⟨_, h4⟩ | ⟨h4, _⟩
  · exact ⟨u, h1, h4⟩
  · cases h4
theorem lack_no {f : List I} (hf : (chkF f).2 = 0) {cut : List Bool} {F : Kt} (hF : FactTab f (sklA f cut) F) {x : I} {m : Nat} (hm : m < (sklA f cut).nodes.length) (hu : ∀ u ∈ usesL x, 0 ≤ u ∧ u < 24) (h : lackB x (F m) = false) : ∀ u ∈ usesL x, ¬ HasFact f (sklA f cut) (0, 0) m u.toNat := by
  intro u h1 h2
  have h3 := hu u h1
  have h4 := (is_iff hf (hF m u.toNat hm (by omega)) (.inl rfl)).mp h2
  have h5 := List.any_eq_false.mp h u h1
  rw [h4] at h5
  exact h5 (decide_eq_true rfl)
theorem sizeIn : ∀ w, (sizeOf 3).run Tryz.prog w = .ok 1 w := Tryz.sizeOf3
theorem RowAt.form' {w : World} {v : Value} {cs : List Value} (h : RowAt w v cs) : ∃ ao cap, v = .slice ao cs.length cap := by
  obtain ⟨ao, cap, e0, _⟩ := h
  exact ⟨ao, cap, e0⟩
set_option maxHeartbeats 4000000 in
set_option maxRecDepth 100000 in
theorem lacks_any (x : I) (g : Nat → Sc) (va : Option Addr) (vc : Nat) (w : World) (hl : Laid w) (hu : ∀ u ∈ usesL x, 0 ≤ u ∧ u < 24) (hs : (srcsO (.slice va 24 vc) ((List.range 24).map g)).rd w) :
    Calls Tryz.prog 47 #[.agg #[.int .i64 (x).op, .int .i64 (x).d, .int .i64 (x).a, .int .i64 (x).b, .int .i64 (x).n, .int .i64 (x).t], .slice va 24 vc] w fun e w' => e = .returned (.bool (lackB x g)) ∧ New w w' := by
  have HL := Lib.hid hl
  have HR := Lib.hid hs
  have HI := Lib.hid hu
  have HS := Lib.hid (Sep.start w)
  obtain ⟨us, HUS⟩ : ∃ us, Hid (usesL x = us) := ⟨_, Lib.hid rfl⟩
  have hx0 : usesL ⟨x.op, x.d, x.a, x.b, x.n, x.t⟩ = us := HUS.out
  obtain ⟨B, HB⟩ : ∃ B, Hid (lackB x g = B) := ⟨_, Lib.hid rfl⟩
  obtain ⟨M, HM⟩ : ∃ M, Hid (us.length = M) := ⟨_, Lib.hid rfl⟩
  have hM : M ≤ 2 := by rw [← HM.out, ← HUS.out]; exact uses_two x
  have hua := fun w (h : Laid w) => uses_any x.op x.d x.a x.b x.n x.t w h
  rw [hx0] at hua
  have HUA := Lib.hid hua
  rw [HB.out]
  clear hl hs hu hx0 hua
  have T1 : Hid True := Lib.hid trivial
  have T2 : Hid True := Lib.hid trivial
  have T3 : Hid True := Lib.hid trivial
  go_enter Tryz.func47, Tryz.ntmps47
  go_wp2_with (first
    | (clear T1; refine wpList_boxB rfl 79 (.tmp 0) rfl (cells6 x) rfl HS.out ?_; intro wa gx hs; replace HS := Lib.hid hs; clear hs)
    | (clear T2; refine wpList_ldEG rfl (.tmp 2) rfl gx 0 rfl (x := x) (HasC.all (HS.out.has 0 rfl)) ?_)
    | (clear T3; go_at_call 78; refine (HUA.out _ (HL.out.new HS.out.nw)).mono ?_; rintro e w1 ⟨vu, rfl, hu, hn⟩; obtain ⟨ua, ucap, hvu⟩ := (own_rowM hu).form'; rw [List.length_map, HM.out] at hvu; subst hvu; have HU := Lib.hid (own_rowM hu); replace HS := Lib.hid (HS.out.go hn); clear hu hn))
  go_loopw [10] (fun kv wr => ∃ k : Nat, kv = .int .i64 (k : Int) ∧ k ≤ M ∧ Hid (New w1 wr) ∧ Hid (∀ u ∈ us.take k, ¬ (g u.toNat).1 = 0)) (fun kv _ => M - (intOf kv).toNat)
  case atStart => exact ⟨0, rfl, by omega, Lib.hid (New.refl _), Lib.hid (fun _ h => by simp at h)⟩
  case round =>
    obtain ⟨k, rfl, hk, HN, HO⟩ := hrel
    by_cases hkM : k < M
    · obtain ⟨a, v, hv, hix, hrd⟩ := HU.out.ix 101 Tryz.underlying101 sizeIn hkM
      have hkl : k < us.length := by rw [HM.out]; exact hkM
      rw [List.getElem?_map, List.getElem?_eq_getElem hkl] at hv
      have hmem : us[k] ∈ us := List.getElem_mem hkl
      obtain ⟨z, hz⟩ : ∃ z, us[k] = z := ⟨_, rfl⟩
      rw [hz] at hv hmem
      obtain rfl : .int .i64 z = v := by simpa using hv
      have hin := HI.out z (by rw [HUS.out]; exact hmem)
      obtain ⟨q, hq⟩ : ∃ q : Nat, z = (q : Int) := ⟨z.toNat, by omega⟩
      have HTK : Hid (us.take (k + 1) = us.take k ++ [z]) := Lib.hid (by rw [List.take_add_one, List.getElem?_eq_getElem hkl, hz]; rfl)
      subst hq
      have hq24 : q < 24 := by omega
      obtain ⟨b2, o2, i2, r2⟩ := leaf_ix (P := Tryz.prog) HR.out 58 Tryz.underlying58 sizeSr (x := g q) (i := q) (by rw [List.getElem?_map, List.getElem?_range hq24]; rfl)
      have x1 := hrd wr HN.out
      have x2 := r2 wr (HS.out.nw.trans HN.out) 0 _ rfl
      rw [Nat.add_zero] at x2
      have HMEM := Lib.hid hmem
      clear hv hrd r2 hin hmem
      by_cases h0 : (g q).1 = 0
      · have q1 : ((g q).1 == 0) = true := beq_of h0
        have HBT : Hid (B = true) := Lib.hid (by
          rw [← HB.out]
          exact List.any_eq_true.mpr ⟨(q : Int), by rw [HUS.out]; exact HMEM.out, decide_eq_true (by rw [Int.toNat_natCast]; exact h0)⟩)
        clear h0
        go_wp2_with fail
        go_ret
        exact ⟨by rw [HBT.out]; rfl, HS.out.nw.trans HN.out⟩
      · have q1 : ((g q).1 == 0) = false := bneq_of h0
        have HO2 : Hid (∀ u ∈ us.take (k + 1), ¬ (g u.toNat).1 = 0) := Lib.hid (by
          intro u hu
          rw [HTK.out, List.mem_append] at hu
          rcases hu with hu | hu
          · exact HO.out u hu
          · simp at hu
            rw [hu, Int.toNat_natCast]
            exact h0)
        clear h0
        go_wp2_with fail
        go_roundw
        case rel => exact ⟨k + 1, by go_num, by omega, HN, HO2⟩
        case measure => simp [intOf]; omega
    · have HBF : Hid (B = false) := Lib.hid (by
        rw [← HB.out]
        refine List.any_eq_false.mpr fun u hu => ?_
        rw [HUS.out, ← List.take_of_length_le (l := us) (i := k) (by rw [HM.out]; omega)] at hu
        simpa using HO.out u hu)
      go_wp2_with fail
      go_ret
      exact ⟨by rw [HBF.out]; rfl, HS.out.nw.trans HN.out⟩
set_option maxHeartbeats 2000000 in
set_option maxRecDepth 100000 in
theorem cut_bad {fv : Value} {f : List I} {w : World} (hl : Laid w) (hf : FunAt w fv f) (hr : (chkF f).2 ≠ 0) :
    Calls Tryz.prog 22 #[fv] w fun e w' => e = .returned (.tuple #[.slice none 0 0, .int .i64 1]) ∧ New w w' := by
  have HL := Lib.hid hl
  have HF := Lib.hid hf
  have q1 : ((chkF f).2 == 0) = false := bneq_of hr
  obtain ⟨fo, fc, rfl⟩ := hf.form
  clear hl hf hr
  go_enter Tryz.func22, Tryz.ntmps22
  go_wp2_with (go_at_call 31; refine (asmRight_any _ f _ HL.out HF.out).mono ?_; rw [q1]; rintro e wc ⟨rfl, hn⟩)
  go_ret2
  exact ⟨rfl, hn⟩
/-- What a pass has cut. -/
def PassC (c : List Bool) (mr : Bool) (c' : List Bool) : Prop := if mr = true then offs c' < offs c else c' = c
set_option maxHeartbeats 16000000 in
set_option maxRecDepth 100000 in
theorem cut_in (fo : Option Addr) (n fc : Nat) (f : List I) (w : World) (hl : Laid w) (hf : FunAt w (.slice fo n fc) f) (hr : (chkF f).2 = 0) :
    Calls Tryz.prog 22 #[.slice fo n fc] w fun e w' => ∃ b c, IsCut f c ∧ e = .returned (.tuple #[.slice (some ⟨b, 0, none⟩) n n, .int .i64 0]) ∧ Sep w w' [boolsO (.slice (some ⟨b, 0, none⟩) n n) c] := by
  have HL := Lib.hid hl
  have HF := Lib.hid hf
  have HC := Lib.hid hr
  have hn := hf.len
  have HLN : Hid (f.length = n) := Lib.hid hn.symm
  have hn2 : n ≤ 200 := by rw [hn]; exact chk_len hr
  have q1 : ((chkF f).2 == 0) = true := beq_of hr
  have HS := Lib.hid (Sep.start w)
  clear hl hf hr hn
  have T1 : Hid True := Lib.hid trivial
  have T2 : Hid True := Lib.hid trivial
  go_enter Tryz.func22, Tryz.ntmps22
  go_wp2_with (first
    | (clear T1; go_at_call 31; refine (asmRight_any _ f _ HL.out HF.out).mono ?_; rw [q1]; rintro e wc ⟨rfl, hn⟩; replace HS := Lib.hid (HS.out.go hn); clear hn)
    | (clear T2; at_make; refine wpList_mk1 rfl (.tmp 15) (.tmp 15) 23 4 rfl Tryz.underlying23 infoBo3 rfl (by decide) n rfl rfl (by omega) HS.out (E := leafE fun b => [.bool b]) (x0 := false) bools_0 ?_; intro wb vb hs; replace HS := Lib.hid hs; clear hs))
  go_loopg [5] (offs (List.replicate n false) + 1) (fun gm cv wr => ∃ (k : Nat) (c : List Bool) (mr : Bool), cv = .bool mr ∧ gm = (if mr = true then offs c + 1 else 0) ∧ Hid (CutN f k c) ∧ Hid (mr = false → IsRnd f c (nodesA f c).length c) ∧ Hid (Sep w wr [boolsO (.slice (some ⟨vb, 0, none⟩) n n) c]))
  case atStart => exact ⟨0, _, true, rfl, rfl, Lib.hid (by show List.replicate n false = List.replicate f.length false; rw [HLN.out]), Lib.hid (fun h => by cases h), HS⟩
  case round =>
    obtain ⟨k, c, mr, rfl, hgm, HK, HST, HT⟩ := hrel
    clear HS
    cases mr with
    | false =>
      have HIC : Hid (IsCut f c) := Lib.hid ⟨k, HK.out, HST.out rfl⟩
      clear hgm HST
      go_wp2_with fail
      go_ret2
      exact ⟨vb, c, HIC.out, rfl, HT.out⟩
    | true =>
      have hgm2 := hgm.trans (if_pos rfl)
      clear HST hgm
      obtain ⟨F, hF⟩ := fact_tab f (sklA f c)
      have HUY := Lib.hid fun (x : I) (m : Nat) (hm : m < (sklA f c).nodes.length) hu (h : lackB x (F m) = true) => lack_yes hF hm hu h
      have HUN := Lib.hid fun (x : I) (m : Nat) (hm : m < (sklA f c).nodes.length) hu (h : lackB x (F m) = false) => lack_no HC.out hF hm hu h
      have HB0 := good_skl f c
      have HI0 := inS_skl HC.out c
      have HN0 := skl_few HC.out c
      have HNL := skl_len f c
      obtain ⟨s, HSK⟩ : ∃ s, Hid (sklA f c = s) := ⟨_, Lib.hid rfl⟩
      rw [HSK.out] at hF HB0 HI0 HN0 HNL
      have HFT := Lib.hid hF
      have HB := Lib.hid HB0
      have HIS := Lib.hid HI0
      obtain ⟨N, HNN⟩ : ∃ N, Hid (s.nodes.length = N) := ⟨_, Lib.hid rfl⟩
      rw [HNN.out] at HN0 HNL
      have hN2 : N ≤ 200 := HN0
      have HNA := Lib.hid HNL
      have HCL := Lib.hid (cutN_len HK.out)
      clear hF HB0 HI0 HN0 HNL
      have U1 : Hid True := Lib.hid trivial
      have U2 : Hid True := Lib.hid trivial
      have U3 : Hid True := Lib.hid trivial
      have U4 : Hid True := Lib.hid trivial
      have U5 : Hid True := Lib.hid trivial
      go_wp2_with (first
        | (clear U1; go_at_call 12; refine (build_in fo n fc f (some ⟨vb, 0, none⟩) n n c _ (HL.out.new HT.out.nw) (HF.out.new HT.out.nw) (leaf_row (HT.out.rd 0 rfl)) HC.out).mono ?_; rw [HSK.out]; rintro e w2 ⟨vs, rfl, hs⟩; obtain ⟨ma, mc, hv⟩ := rowA_form hs.hd; rw [HNN.out] at hv; subst hv; replace HT := Lib.hid (HT.out.call hs); clear hs)
        | (clear U2; refine wpList_alB rfl 34 rfl _ zeroSk_run _ rfl HT.out ?_; intro w3 g6 hs; replace HT := Lib.hid hs; clear hs)
        | (clear U3; refine wpList_stSW 0 rfl rfl 34 (.tmp 6) (.tmp 22) rfl g6 rfl _ rfl HT.out rfl (skC s.entry (.slice ma N mc)) rfl (by rw [skC_len, skC_len]) (skC_one _ rfl) (by rw [skC_len]; exact infoSk) ?_; intro w4 hs; replace HT := Lib.hid hs; clear hs)
        | (clear U4; refine wpList_load_mid rfl 34 (.tmp 6) rfl g6 0 rfl (skC s.entry (.slice ma N mc)) _ (HasC.all (HT.out.has 0 rfl)) Tryz.underlying34 rfl (by rw [skC_len]; exact infoSk) ?_)
        | (clear U5; go_at_call 44; refine (facts_in fo n fc f c s F ma N mc _ (HL.out.new HT.out.nw) (HF.out.new HT.out.nw) (HT.out.rd 1 rfl) HNN.out hN2 HB.out HIS.out HC.out HSK.out HFT.out).mono ?_; rintro e w5 ⟨vf, rfl, hs⟩; obtain ⟨fa, fac, hv⟩ := rowA_form hs.hd; rw [tabK_len] at hv; subst hv; replace HT := Lib.hid (HT.out.call hs); clear hs))
      go_loopw [5, 28] (fun cv nv wq => ∃ (m : Nat) (c' : List Bool) (mr : Bool), cv = .bool mr ∧ nv = .int .i64 (m : Int) ∧ m ≤ N ∧ Hid (IsRnd f c m c') ∧ Hid (PassC c mr c') ∧ Hid (Sep w wq [factsO (.slice fa N fac) (tabK N F), blk g6 34 (skC s.entry (.slice ma N mc)), nodesO (.slice ma N mc) s.nodes, boolsO (.slice (some ⟨vb, 0, none⟩) n n) c'])) (fun _ nv _ => N - (intOf nv).toNat)
      case atStart => exact ⟨0, c, false, rfl, rfl, by omega, Lib.hid (rnd_zero HCL.out), Lib.hid rfl, HT⟩
      case round =>
        obtain ⟨m, c', mr, rfl, rfl, hm, HRD, HPC, HU⟩ := hrel
        clear HT
        by_cases hmN : m < N
        · obtain ⟨y, hy⟩ : ∃ y, s.nodes[m]? = some y := ⟨_, List.getElem?_eq_getElem (by rw [HNN.out]; exact hmN)⟩
          obtain ⟨hy0, hy1⟩ := HIS.out y (List.mem_of_getElem? hy)
          obtain ⟨p, hp⟩ : ∃ p : Nat, y.1 = (p : Int) := ⟨y.1.toNat, by omega⟩
          have HAT : Hid ((nodesA f c).getD m 0 = (p : Int)) := Lib.hid (by
            have h1 : (sklA f c).nodes[m]? = some y := by rw [HSK.out]; exact hy
            rw [skl_nodes, List.getElem?_map] at h1
            rw [List.getD_eq_getElem?_getD, ← hp]
            cases h2 : (nodesA f c)[m]? with
            | none => rw [h2] at h1; cases h1
            | some z => rw [h2] at h1; simp at h1; rw [← h1]; rfl)
          have hmA : m < (nodesA f c).length := by rw [← HNA.out]; exact hmN
          have hpf : p < f.length := by omega
          have hpn : p < n := by rw [← HLN.out]; exact hpf
          have hin : InF f (p : Int) ∧ mvA f (p : Int) = false := (nodes_nds HC.out c).inf _ (by
            rw [← HAT.out, List.getD_eq_getElem?_getD, List.getElem?_eq_getElem hmA]
            exact List.getElem_mem hmA)
          have HUS := Lib.hid (uses_in (ri_in hin.1))
          obtain ⟨fb, fp, x, hx, hixf, hrgf⟩ := HF.out.ix (i := p) hpn
          have hxi : insA f (p : Int) = x := by
            unfold insA
            rw [Int.toNat_natCast, List.getD_eq_getElem?_getD, hx]
            rfl
          have HXI := Lib.hid hxi
          rw [hxi] at HUS
          have HRF := Lib.hid hrgf
          -- the row of facts, the node, the flag
          obtain ⟨b1, o1, u1, i1, r1, d1⟩ := nest_ix (P := Tryz.prog) (HU.out.rd 0 rfl) 57 Tryz.underlying57 sizeSs (tabK_at F hmN)
          obtain ⟨a1, c1, hu1⟩ := rowA_form d1
          rw [rowK_len] at hu1
          subst hu1
          obtain ⟨b2, o2, c2, _, i2, r2, e2⟩ := rowA_ix (P := Tryz.prog) (HU.out.rd 2 rfl) 32 Tryz.underlying32 sizeNd hy
          obtain ⟨v2, rfl, _⟩ := node_rd e2
          rw [hp] at r2
          have hcl : p < c'.length := by rw [HRD.out.1]; exact hpf
          obtain ⟨bit, hbit⟩ : ∃ bit, c'[p]? = some bit := ⟨_, List.getElem?_eq_getElem hcl⟩
          have hgd : c'.getD p false = bit := by rw [List.getD_eq_getElem?_getD, hbit]; rfl
          have x3 := leaf_at (HU.out.rd 3 rfl) hbit _ (New.refl _) 0 _ rfl
          rw [Nat.add_zero, Nat.mul_one] at x3
          have i3 := fun w => ixRow (P := Tryz.prog) Tryz.underlying23 sizeBo vb p n n hpn w
          have x1 := r1 _ (New.refl _)
          have x2 := r2 _ (New.refl _) 0 _ rfl
          rw [Nat.add_zero] at x2
          have cn := HU.out.cell 1 rfl (skC_nd _ _)
          have HD1 := Lib.hid d1
          clear hy hp hy0 hy1 hx hxi hrgf r1 r2 e2 d1 hin
          cases bit with
          | true =>
            have HR2 := Lib.hid (rnd_not HRD.out HAT.out (.inl hgd))
            clear hbit hgd hmA hpf hcl
            go_wp2_with fail
            go_roundw
            case rel => exact ⟨m + 1, c', mr, rfl, by go_num, by omega, HR2, HPC, HU⟩
            case measure => simp [intOf]; omega
          | false =>
            cases hlb : lackB x (F m) with
            | false =>
              have HLB := Lib.hid hlb
              have HR2 := Lib.hid (rnd_not HRD.out HAT.out (.inr (by rw [HXI.out]; exact HUN.out x m (by rw [HSK.out, HNN.out]; exact hmN) HUS.out hlb)))
              clear hbit hgd hmA hpf hcl hlb
              go_wp2_with (first
                | (refine wpList_ldEG rfl (.tmp 47) rfl fb fp rfl (x := x) (HRF.out _ HU.out.nw) ?_)
                | (go_at_call 47; refine (lacks_any x (F m) a1 c1 _ (HL.out.new HU.out.nw) HUS.out HD1.out).mono ?_; rw [HLB.out]; rintro e w8 ⟨rfl, hn⟩; replace HU := Lib.hid (HU.out.go hn); clear hn))
              go_roundw
              case rel => exact ⟨m + 1, c', mr, rfl, by go_num, by omega, HR2, HPC, HU⟩
              case measure => simp [intOf]; omega
            | true =>
              have HLB := Lib.hid hlb
              obtain ⟨u, hu1, hu2⟩ := HUY.out x m (by rw [HSK.out, HNN.out]; exact hmN) HUS.out hlb
              have HR2 := Lib.hid (rnd_cut HRD.out hmA HAT.out (by rw [HXI.out]; exact hu1) hu2)
              have HOF := Lib.hid (offs_set hbit)
              have HPC2 : Hid (PassC c true (c'.set p true)) := Lib.hid (by
                show offs (c'.set p true) < offs c
                have h1 := HPC.out
                have h2 := HOF.out
                unfold PassC at h1
                cases mr with
                | true => rw [if_pos rfl] at h1; omega
                | false => rw [if_neg (by decide)] at h1; rw [← h1]; exact h2)
              have HPL := Lib.hid hcl
              clear hbit hgd hmA hpf hcl hlb hu1 hu2 u
              go_wp2_with (first
                | (refine wpList_ldEG rfl (.tmp 47) rfl fb fp rfl (x := x) (HRF.out _ HU.out.nw) ?_)
                | (go_at_call 47; refine (lacks_any x (F m) a1 c1 _ (HL.out.new HU.out.nw) HUS.out HD1.out).mono ?_; rw [HLB.out]; rintro e w8 ⟨rfl, hn⟩; replace HU := Lib.hid (HU.out.go hn); clear hn x1 x2 x3 cn)
                | (refine wpList_stL 3 rfl rfl 4 (.tmp 54) (.const (.bool true)) rfl vb n n p HPL.out rfl (y := true) rfl HU.out rfl rfl rfl infoB1v ?_; intro w9 hs; replace HU := Lib.hid hs; clear hs))
              go_roundw
              case rel => exact ⟨m + 1, c'.set p true, true, rfl, by go_num, by omega, HR2, HPC2, HU⟩
              case measure => simp [intOf]; omega
        · obtain rfl : m = N := by omega
          have HR2 : Hid (IsRnd f c (nodesA f c).length c') := Lib.hid (by rw [← HNA.out]; exact HRD.out)
          go_wp2_with fail
          cases mr with
          | true =>
            go_roundg (offs c' + 1)
            case rel => exact ⟨k + 1, c', true, rfl, rfl, Lib.hid ⟨c, HK.out, HR2.out⟩, Lib.hid (fun h => by cases h), Lib.hid HU.out.drop.drop.drop⟩
            case measure =>
              have h1 : offs c' < offs c := HPC.out
              rw [hgm2]
              omega
          | false =>
            have HE : Hid (c' = c) := Lib.hid HPC.out
            rw [HE.out] at HR2 HU
            go_roundg 0
            case rel => exact ⟨k, c, false, rfl, rfl, HK, Lib.hid (fun _ => HR2.out), Lib.hid HU.out.drop.drop.drop⟩
            case measure => rw [hgm2]; omega
end Go.Proofs.YtphopkjgfkaihaaGreatDoor
