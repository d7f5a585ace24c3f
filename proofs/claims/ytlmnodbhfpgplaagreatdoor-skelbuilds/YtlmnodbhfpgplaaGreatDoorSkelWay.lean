/-
  Layer 10: the contract of skel.Build where the function isn't right; the contract of skel.Ways.
-/
import Derived.Test.YtlmnodbhfpgplaaGreatDoorSkelBld
import Derived.Test.YtlmnodbhfpgplaaGreatDoorSepLate
namespace Go.Proofs.YtlmnodbhfpgplaaGreatDoor
open Go.RowKit

theorem wpList_bd0 {ops : Array Oper} {rest : List Oper} {op : Oper} {act : Act} {w : World} {Q : Exit → Act → World → Prop} (hgd : op.guard = none) (T : TypeId) (ho : op.op = .build T #[]) {v : Value} (hb : ∀ w, (Instr.build T #[]).run Tryz.prog w = .ok v w)
    (hk : wpList Tryz.prog ops Q rest (act.put op.dst v) w) : wpList Tryz.prog ops Q (op :: rest) act w :=
  wpList_val hgd (by unfold execOp; simp only [ho, List.map_toArray, List.map_nil, hb, Sem.run_bind, Sem.run_pure, Result.andThen_ok]) hk
theorem build_Sk0 (w : World) : (Instr.build 61 #[]).run Tryz.prog w = .ok (.agg (skC (0, noT) (.slice none 0 0)).toArray) w := run_build w _ _ _ (by kernel_rfl)
set_option maxHeartbeats 4000000 in
set_option maxRecDepth 100000 in
theorem build_out (fa : Option Addr) (n fc : Nat) (f : List I) (cv : Value) (w : World) (hl : Laid w) (hf : FunAt w (.slice fa n fc) f) (hr : (chkF f).2 ≠ 0) :
    Calls Tryz.prog 15 #[.slice fa n fc, cv] w fun e w' => e = .returned (.tuple #[.agg (skC (0, noT) (.slice none 0 0)).toArray, .int .i64 1]) ∧ New w w' := by
  have HL := Lib.hid hl
  have HF := Lib.hid hf
  have q1 : ((chkF f).2 == 0) = false := bneq_of hr
  have HS := Lib.hid (Sep.start w)
  clear hl hf hr
  have T1 : Hid True := Lib.hid trivial
  have T2 : Hid True := Lib.hid trivial
  have T3 : Hid True := Lib.hid trivial
  have T4 : Hid True := Lib.hid trivial
  have T5 : Hid True := Lib.hid trivial
  go_enter Tryz.func15, Tryz.ntmps15
  go_wp2_with (first
    | (clear T1; refine wpList_boxB rfl 22 (.tmp 0) rfl [.slice fa n fc] rfl HS.out ?_; intro wa gf hs; replace HS := Lib.hid hs; clear hs)
    | (clear T2; refine wpList_alB rfl 61 rfl _ zeroSk_run _ rfl HS.out ?_; intro wb gr hs; replace HS := Lib.hid hs; have cf := HS.out.cell 1 rfl (k := 0) rfl; clear hs)
    | (clear T3; go_at_call 22; refine (asmRight_any _ f _ (HL.out.new HS.out.nw) (HF.out.new HS.out.nw)).mono ?_; rw [q1]; rintro e wc ⟨rfl, hn⟩; replace HS := Lib.hid (HS.out.go hn); clear hn cf)
    | (clear T4; refine wpList_bd0 rfl 61 rfl build_Sk0 ?_)
    | (clear T5; refine wpList_stSW 0 rfl rfl 61 (.tmp 4) (.tmp 16) rfl gr rfl _ rfl HS.out rfl (skC (0, noT) (.slice none 0 0)) rfl rfl (skC_one _ rfl) (by rw [skC_len]; exact infoSk) ?_; intro w5 hs; replace HS := Lib.hid hs; clear hs))
  exact bodyPost_ret (results_ct (p := 4) (u := 5) rfl _ _ gr _ (.int .i64 1) rfl (loadVar_C (HS.out.has 0 rfl) Tryz.underlying61 rfl (by rw [skC_len]; exact infoSk)) rfl) rfl ⟨rfl, HS.out.nw⟩
/-! Ways. -/
abbrev Ed := Int × Int
def edK (e : Ed) : List Value := [.int .i64 e.1, .int .i64 e.2]
abbrev edgesO (v : Value) (es : List Ed) : Asn := rowA 99 2 (leafE edK) v es
def esE (es : List Ed) (c : List Value) : Asn := Asn.ex fun v => (Asn.say (c = [v])).star (edgesO v es)
abbrev waysO (v : Value) (W : List (List Ed)) : Asn := rowA 97 1 esE v W
theorem infoEd3 : (Tryz.prog.info? 99).map (fun i => (i.zero, i.size, i.bytes)) = some (some (.agg #[.int .i64 0, .int .i64 0]), 2, 16) := by kernel_rfl
theorem infoEs1 : (Tryz.prog.info? 97).map (·.size) = some 1 := by kernel_rfl
theorem sizeEs : ∀ w, (sizeOf 97).run Tryz.prog w = .ok 1 w := Tryz.sizeOf97
theorem infoEd2 : (Tryz.prog.info? 99).map (·.size) = some 2 := by kernel_rfl
theorem Sep.ways {w0 w : World} {l : List Asn} {v : Value} {es : List Ed} (h : Sep w0 w (edgesO v es :: l)) : Sep w0 w (esE es [v] :: l) :=
  h.as fun F hF => ⟨v, fun _ => False, F, rfl, hF, fun _ h _ => h, fun _ h => h.elim, fun _ h => h⟩
/-- An edge more, if it leads to a node. -/
def addE (W : List (List Ed)) (to : Int) (e : Ed) : List (List Ed) := if 0 ≤ to ∧ to < W.length then W.set to.toNat (W.getD to.toNat [] ++ [e]) else W
set_option maxHeartbeats 4000000 in
set_option maxRecDepth 100000 in
theorem add_no (to : Int) (e : Ed) (gw : Nat) (v : Value) (W : List (List Ed)) {w0 w : World} {l : List Asn} (ht : ¬ (0 ≤ to ∧ to < W.length)) (hs : Sep w0 w (blk gw 92 [v] :: waysO v W :: l)) :
    Calls Tryz.prog 59 #[.int .i64 to, .agg #[.int .i64 e.1, .int .i64 e.2], .pointer (some ⟨gw, 0, none⟩)] w fun r w' => r = .returned (.tuple #[]) ∧ Sep w0 w' (blk gw 92 [v] :: waysO v W :: l) := by
  obtain ⟨ao, cap, rfl⟩ := rowA_form (hs.rd 1 rfl)
  have HS := Lib.hid hs
  have T1 : Hid True := Lib.hid trivial
  clear hs
  by_cases h0 : 0 ≤ to
  · have d0 : decide (0 ≤ to) = true := decide_eq_true h0
    have h1 : ¬ to < W.length := fun h => ht ⟨h0, h⟩
    have d1 : decide (to < W.length) = false := decide_eq_false h1
    clear ht
    go_enter Tryz.func59, Tryz.ntmps59
    go_wp2_with (first
      | (clear T1; refine wpList_boxB rfl 99 (.tmp 1) rfl (edK e) rfl HS.out ?_; intro wa ge hs; replace HS := Lib.hid hs; have cw := HS.out.cell 1 rfl (k := 0) rfl; clear hs))
    exact bodyPost_end (results_none rfl _ _ _) rfl ⟨rfl, HS.out.drop⟩
  · have d0 : decide (0 ≤ to) = false := decide_eq_false h0
    clear ht
    go_enter Tryz.func59, Tryz.ntmps59
    go_wp2_with (first
      | (clear T1; refine wpList_boxB rfl 99 (.tmp 1) rfl (edK e) rfl HS.out ?_; intro wa ge hs; replace HS := Lib.hid hs; have cw := HS.out.cell 1 rfl (k := 0) rfl; clear hs))
    exact bodyPost_end (results_none rfl _ _ _) rfl ⟨rfl, HS.out.drop⟩
set_option maxHeartbeats 8000000 in
set_option maxRecDepth 100000 in
theorem add_yes (to : Nat) (e : Ed) (gw : Nat) (v : Value) (W : List (List Ed)) (es : List Ed) {w0 w : World} {l : List Asn} (ht : W[to]? = some es) (_hW : W.length ≤ 100000) (hes : es.length ≤ 100000) (hs : Sep w0 w (blk gw 92 [v] :: waysO v W :: l)) :
    Calls Tryz.prog 59 #[.int .i64 (to : Int), .agg #[.int .i64 e.1, .int .i64 e.2], .pointer (some ⟨gw, 0, none⟩)] w fun r w' => r = .returned (.tuple #[]) ∧ Sep w0 w' (blk gw 92 [v] :: waysO v (W.set to (es ++ [e])) :: l) := by
  have HS := Lib.hid hs
  have T1 : Hid True := Lib.hid trivial
  have HT := Lib.hid ht
  have hlt := some_lt ht
  have d1 : decide ((to : Int) < W.length) = true := decide_eq_true (by omega)
  have d0 : decide (0 ≤ (to : Int)) = true := decide_eq_true (by omega)
  obtain ⟨ao, cap, hv⟩ := rowA_form (hs.rd 1 rfl)
  subst hv
  clear hs ht
  go_enter Tryz.func59, Tryz.ntmps59
  go_wp2_with (first
    | (clear T1; refine wpList_boxB rfl 99 (.tmp 1) rfl (edK e) rfl HS.out ?_; intro wa ge hs; replace HS := Lib.hid hs; have cw := HS.out.cell 1 rfl (k := 0) rfl; clear hs))
  obtain ⟨b, cap', c, hv, hcl, hrg, hs⟩ := HS.out.openAt 2 rfl HT.out
  simp only [Value.slice.injEq, true_and] at hv
  obtain ⟨rfl, rfl⟩ := hv
  obtain ⟨vi, hs⟩ := hs.un
  obtain ⟨hc, hs⟩ := hs.split.said
  subst hc
  obtain ⟨ia, ic, hvi⟩ := rowA_form hs.hd
  subst hvi
  have S0 : (wa.drew.cell? ⟨gw, 0, none⟩ = some (.slice (some ⟨b, 0, none⟩) W.length cap) ∧ wa.drew.cell? ⟨b, to * 1, none⟩ = some (.slice ia es.length ic)) ∧ HasC wa.drew ge 99 (edK e) := ⟨⟨cw, by have := hrg 0 _ rfl; rw [Nat.add_zero] at this; exact this⟩, HasC.new (HS.out.has 0 rfl) ((New.refl wa).drew)⟩
  have hS := hs.go ((New.refl wa).drew)
  have hix := fun w => ixRow (P := Tryz.prog) Tryz.underlying92 sizeEs b to W.length cap hlt w
  refine wp_region_noPanic ?_
  refine region_late (k := 10) (S := fun w' => (w'.cell? ⟨gw, 0, none⟩ = some (.slice (some ⟨b, 0, none⟩) W.length cap) ∧ w'.cell? ⟨b, to * 1, none⟩ = some (.slice ia es.length ic)) ∧ HasC w' ge 99 (edK e)) (by kernel_rfl) S0 (fun _ => ?_)
  refine late_take (i := 0) (v := .slice (some ⟨b, 0, none⟩) W.length cap) rfl (by kernel_rfl) (by kernel_rfl) (by kernel_rfl) (by kernel_rfl) (fun _ _ _ h => h) (ldV_if rfl 92 Tryz.isAgg92 (.tmp 2) rfl ⟨gw, 0, none⟩ rfl (fun w' h => h.1.1)) S0 ?_
  simp only [List.getElem_toArray, List.getElem_cons_zero, Act.put, List.setIfInBounds_toArray, List.set_cons_zero, List.set_cons_succ]
  refine late_take (i := 1) (v := .int .i64 (to : Int)) rfl (by kernel_rfl) (by kernel_rfl) (by kernel_rfl) (by kernel_rfl) (fun _ _ _ h => h) (Or.inl ⟨rfl, fun _ _ => by go_simp⟩) S0 ?_
  simp only [List.getElem_toArray, List.getElem_cons_zero, List.getElem_cons_succ, Act.put, List.setIfInBounds_toArray, List.set_cons_zero, List.set_cons_succ]
  refine late_take (i := 2) (v := .slice (some ⟨b, 0, none⟩) W.length cap) rfl (by kernel_rfl) (by kernel_rfl) (by kernel_rfl) (by kernel_rfl) (fun _ _ _ h => h) (ldV_if rfl 92 Tryz.isAgg92 (.tmp 2) rfl ⟨gw, 0, none⟩ rfl (fun w' h => h.1.1)) S0 ?_
  simp only [List.getElem_toArray, List.getElem_cons_zero, List.getElem_cons_succ, Act.put, List.setIfInBounds_toArray, List.set_cons_zero, List.set_cons_succ]
  refine late_take (i := 3) (v := .int .i64 (to : Int)) rfl (by kernel_rfl) (by kernel_rfl) (by kernel_rfl) (by kernel_rfl) (fun _ _ _ h => h) (Or.inl ⟨rfl, fun _ _ => by go_simp⟩) S0 ?_
  simp only [List.getElem_toArray, List.getElem_cons_zero, List.getElem_cons_succ, Act.put, List.setIfInBounds_toArray, List.set_cons_zero, List.set_cons_succ]
  refine late_take (i := 4) (v := .pointer (some ⟨b, to * 1, none⟩)) rfl (by kernel_rfl) (by kernel_rfl) (by kernel_rfl) (by kernel_rfl) (fun _ _ _ h => h) (ixV_if rfl 92 (.tmp 15) (.tmp 16) rfl _ _ _ rfl rfl hix) S0 ?_
  simp only [List.getElem_toArray, List.getElem_cons_zero, List.getElem_cons_succ, Act.put, List.setIfInBounds_toArray, List.set_cons_zero, List.set_cons_succ]
  refine late_take (i := 5) (v := .slice ia es.length ic) rfl (by kernel_rfl) (by kernel_rfl) (by kernel_rfl) (by kernel_rfl) (fun _ _ _ h => h) (ldV_if rfl 97 Tryz.isAgg97 (.tmp 17) rfl ⟨b, to * 1, none⟩ rfl (fun w' h => h.1.2)) S0 ?_
  simp only [List.getElem_toArray, List.getElem_cons_zero, List.getElem_cons_succ, Act.put, List.setIfInBounds_toArray, List.set_cons_zero, List.set_cons_succ]
  refine late_take (i := 6) (v := .agg #[.int .i64 e.1, .int .i64 e.2]) rfl (by kernel_rfl) (by kernel_rfl) (by kernel_rfl) (by kernel_rfl) (fun _ _ _ h => h) (yieldsIf_load_mid (by rfl) _ _ rfl ge 0 rfl (edK e) _ (fun w' h => HasC.all h.2) Tryz.underlying99 rfl infoEd2) S0 ?_
  simp only [List.getElem_toArray, List.getElem_cons_zero, List.getElem_cons_succ, Act.put, List.setIfInBounds_toArray, List.set_cons_zero, List.set_cons_succ]
  refine late_forced [7, 8, 9, 10] _ _ _ (by kernel_rfl) ?_
  have hb := hS.new (g := wa.drew.heap.size) (cs := edK e) (ty := 99) (alloc_new _ _) (Nat.le_refl _) (HasC.box wa.drew _ _)
  have hbl := hb.has 0 rfl
  refine LL_val rfl rfl (run_bsB 97 99 (.tmp 19) rfl Tryz.underlying97 infoEd3 (by decide) (by decide) (edK e) (.agg #[.int .i64 e.1, .int .i64 e.2]) rfl rfl rfl) ⟨⟨(alloc_new _ _).cell' S0.1.1, (alloc_new _ _).cell' S0.1.2⟩, S0.2.new (alloc_new _ _)⟩ ?_
  simp only [Act.put, List.setIfInBounds_toArray]
  generalize wa.drew.alloc (.cells (edK e).toArray 99) = wb at hb hbl ⊢
  obtain ⟨v', wc, hr, hd⟩ := run_appA (ty := 97) (P := Tryz.prog) (T := 97) (e := 99) Tryz.underlying97 infoEd3 rfl (by decide) (by decide) (E := leafE edK) (y := e) ((hb.pull 1 rfl).say (p := edK e = edK e) rfl) hes hbl rfl (by simp [edK, Value.oneCell'])
  obtain ⟨oa, oc, hv'⟩ := rowA_form (hd.rd 0 rfl)
  rw [List.length_append, List.length_singleton] at hv'
  subst hv'
  have S1 : (wc.cell? ⟨gw, 0, none⟩ = some (.slice (some ⟨b, 0, none⟩) W.length cap) ∧ wc.cell? ⟨b, to * 1, none⟩ = some (.slice ia es.length ic)) ∧ HasC wc ge 99 (edK e) := ⟨⟨hd.cell 3 rfl rfl, by have := holeA_at (hd.rd 4 rfl) rfl 0 _ rfl; rw [Nat.add_zero] at this; exact this⟩, hd.has 2 rfl⟩
  refine LL_val rfl rfl (run_appO (.tmp 18) (.tmp 20) 97 rfl rfl rfl hr) S1 ?_
  simp only [Act.put]
  refine LL_val (v := .pointer (some ⟨b, to * 1, none⟩)) rfl rfl (by unfold execOp; simp only [Act.eval]; simp [hix]) S1 ?_
  simp only [Act.put]
  obtain ⟨wd, hr2, hs2⟩ := run_stEl 3 97 b to 0 (.slice oa (es.length + 1) oc) (y := es ++ [e]) (c := [.slice ia es.length ic]) hd.ways rfl rfl (by decide) rfl rfl rfl infoEs1
  refine LL_skip rfl rfl rfl (run_stO 97 (.tmp 22) (.tmp 21) rfl rfl rfl hr2) (fun h => absurd rfl h) ?_
  refine NoPanic.normal ?_
  have HX := Lib.hid hs2.drop.drop
  clear hs2 hr2 hr hd S1
  go_wp2
  exact bodyPost_end (results_none rfl _ _ _) rfl ⟨rfl, HX.out⟩
end Go.Proofs.YtlmnodbhfpgplaaGreatDoor
