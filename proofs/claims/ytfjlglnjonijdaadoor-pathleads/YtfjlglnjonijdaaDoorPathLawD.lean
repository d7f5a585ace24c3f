/-
  'PathLeads': a path from a place is the one that the document says, or the error is told: true, for every input.
-/
import Derived.Test.YtfjlglnjonijdaaDoorRefPath
import Derived.Test.YtfjlglnjonijdaaDoorPathK
import Derived.Test.YtfjlglnjonijdaaDoorEnvEq
namespace Go.Proofs.YtfjlglnjonijdaaDoor
open Go.RowKit

theorem ldPt_if {ops : Array Oper} {S : World → Prop} {op : Oper} {act : Act} (hw : Region.wanted op (yielded ops act.tmps) = true) (a : Operand) (ho : op.op = .load 27 a) (g : Nat) (hx : act.eval a = .pointer (some ⟨g, 1, none⟩)) {to : Int} {t : Tb} {n : Int} (h : ∀ w, S w → HasP w g to t n) :
    YieldsIf Tryd.prog ops S op (.agg (cellsT t)) act := by
  have := yieldsIf_load_mid hw _ a ho g 1 hx (cellsT t).toList _ (fun w hw => HasP.tb (h w hw)) Tryd.underlying27 rfl (by rw [cellsT_len]; exact infoTb)
  rwa [Array.toArray_toList] at this
/-- A block that came later than the row's. -/
theorem ElAt.kept2 {w0 w w' : World} {ao : Option Addr} {n cap g : Nat} {f : Nat → List Value} (h0 : ElAt w0 (.slice ao n cap) n f) (hl : ∀ i, (f i).length = 2) (h : ElAt w (.slice ao n cap) n f) (hk : Kept g w w') (hg : w0.heap.size ≤ g) : ElAt w' (.slice ao n cap) n f := by
  obtain ⟨a1, c1, e1, h1⟩ := h0
  obtain ⟨a2, c2, e2, h2⟩ := h
  simp only [Value.slice.injEq, true_and] at e1 e2
  refine ⟨ao, cap, rfl, fun i hi => ?_⟩
  obtain ⟨b, off, e3, h3⟩ := h1 i hi
  obtain ⟨b', off', e4, h4⟩ := h2 i hi
  rw [← e1.1] at e3
  rw [← e2.1] at e4
  rw [e3] at e4
  simp only [Option.some.injEq, Addr.mk.injEq] at e4
  obtain ⟨rfl, rfl, _⟩ := e4
  refine ⟨b, off, e3, fun j u hu => ?_⟩
  have hlt : b < w0.heap.size := by
    have hp : 0 < (f i).length := by rw [hl i]; decide
    have hc := h3 0 _ (List.getElem?_eq_getElem hp)
    unfold World.cell? at hc
    cases hb : w0.heap[b]? with
    | none => simp only [hb] at hc; simp at hc
    | some o => exact heap_lt hb
  have := h4 j u hu
  unfold World.cell? at this ⊢
  simp only [hk.other b (by omega)]
  exact this
theorem wpQuiet_ldRs {ops : Array Oper} {C : World → Prop} {Q : Act → Prop} {op : Oper} {rest : List Oper} {act : Act} (hw : Region.wanted op (yielded ops act.tmps) = true) (p : Operand) (ho : op.op = .load 49 p)
    (b o : Nat) (hx : act.eval p = .pointer (some ⟨b, o, none⟩)) {x : Sr} (h : ∀ w, C w → w.rangeAt b o (rcells x))
    (hk : wpQuiet Tryd.prog ops C Q rest (act.put op.dst (.agg #[.int .i64 (refS x).1, .int .i64 (refS x).2]))) : wpQuiet Tryd.prog ops C Q (op :: rest) act :=
  wpQuiet_valG hw _ (fun w hw => by
    unfold execOp
    have := run_loadAt_mid (P := Tryd.prog) w b o 49 (rcells x) _ (h w hw) Tryd.underlying49 rfl sizeR2
    simp only [ho, hx, this, Sem.run_bind, Sem.run_pure, Result.andThen_ok]
    rfl) hk
theorem eqIn_rs (d : Nat) (x y : Int) (w : World) : (Op.equalIn (d + 2) 49 (.agg #[.int .i64 x, .int .i64 y]) (.agg #[.int .i64 x, .int .i64 y])).run Tryd.prog w = .ok true w := by
  have hS : Tryd.prog.underlying 49 = some (.struct (Tryd.prog.fieldsOf 49)) := by kernel_rfl
  rw [run_equalIn_agg w (d + 1) 49 _ _ hS (by kernel_rfl)]
  simp only [Program.fieldsOf, Tryd.underlying49]
  have u3 := Tryd.underlying2
  have a3 := Tryd.isAgg2
  have u4 := Tryd.underlying3
  have a4 := Tryd.isAgg3
  go_simp
set_option maxHeartbeats 2000000 in
set_option maxRecDepth 100000 in
theorem refSameT_any (v u : Value) (t : Tb) (w : World) (h : ElAt w v 24 (fun i => rcells (t i))) (hl : ElAt w u 24 (fun i => rcells (t i))) :
    Calls Tryd.prog 11 #[v, u] w fun e w' => e = .returned (.bool true) ∧ New w w' := by
  obtain ⟨ao, cap, rfl⟩ := h.form
  obtain ⟨bo, dap, rfl⟩ := hl.form
  have HH := Lib.hid h
  have HL := Lib.hid hl
  clear h hl
  go_enter Tryd.func11, Tryd.ntmps11
  go_wp2
  go_loopw [5] (fun iv wr => ∃ k : Nat, iv = .int .i64 k ∧ k ≤ 24 ∧ Hid (New w wr)) (fun iv _ => 24 - (intOf iv).toNat)
  case atStart => exact ⟨0, rfl, by omega, Lib.hid (New.refl _)⟩
  case round =>
    obtain ⟨k, rfl, hk, R3⟩ := hrel
    by_cases hk24 : k < 24
    · obtain ⟨b, o, hix, hrg⟩ := HH.out.ix 34 Tryd.underlying34 sizeR hk24
      obtain ⟨b2, o2, hix2, hrg2⟩ := HL.out.ix 34 Tryd.underlying34 sizeR hk24
      have HR := Lib.hid hrg
      have HR2 := Lib.hid hrg2
      have i24 : (k : Int) < 24 := by omega
      have hq : ∀ w, (binOp .neq 49 (.agg #[.int .i64 (refS (t k)).1, .int .i64 (refS (t k)).2]) (.agg #[.int .i64 (refS (t k)).1, .int .i64 (refS (t k)).2])).run Tryd.prog w = .ok (.bool false) w := fun w => by rw [run_neq_struct, show (10000 : Nat) = 9998 + 2 from rfl, eqIn_rs 9998 _ _ w]; simp
      clear hrg hrg2
      go_wp2_with fail
      have hne := newW_any wr
      refine wp_region_new (New.refl wr) (by kernel_rfl) (by kernel_rfl) ?_
      repeat (first
        | (refine wpQuiet_ldRs rfl (.tmp 19) rfl b o rfl (x := t k) (by rintro w' ⟨y, rfl⟩; exact HR.out _ (R3.out.trans y.property)) ?_; simp only [Act.put, List.setIfInBounds_toArray, List.set_cons_zero, List.set_cons_succ])
        | (refine wpQuiet_ldRs rfl (.tmp 23) rfl b2 o2 rfl (x := t k) (by rintro w' ⟨y, rfl⟩; exact HR2.out _ (R3.out.trans y.property)) ?_; simp only [Act.put, List.setIfInBounds_toArray, List.set_cons_zero, List.set_cons_succ])
        | go_big_quiet_step (first | fail))
      refine wpQuiet_nil ?_
      intro w5 hn5
      go_wp2
      go_roundw
      case rel => exact ⟨k + 1, by go_num, hk24, Lib.hid (R3.out.trans hn5)⟩
      case measure => simp [intOf]; omega
    · obtain rfl : k = 24 := by omega
      go_wp2
      go_ret
      exact ⟨rfl, R3.out⟩
set_option maxHeartbeats 16000000 in
set_option maxRecDepth 100000 in
theorem pathLeads_walk (v : Value) (f : List I) (p : Int) (w : World) (hf : FunAt w v f) (hl : Laid w) :
    Calls Tryd.prog 3 #[v, .int .i64 p] w fun e w' => e = .returned (.bool true) ∧ New w w' := by
  obtain ⟨ao, fc, rfl⟩ := hf.form
  have HL := Lib.hid hl
  have HF := Lib.hid hf
  clear hl hf
  cases d3 : decide ((300 : Int) < (f.length : Int)) with
  | true =>
    go_enter Tryd.func3, Tryd.ntmps3
    go_wp2_with (go_at_call 7; refine (knows_from _ HL.out (New.refl w)).mono ?_; rintro e wk ⟨rfl, hnk⟩)
    go_ret
    exact ⟨rfl, hnk⟩
  | false =>
    have T1 : Hid True := Lib.hid trivial
    have T2 : Hid True := Lib.hid trivial
    have T3 : Hid True := Lib.hid trivial
    have T4 : Hid True := Lib.hid trivial
    have T5 : Hid True := Lib.hid trivial
    have T6 : Hid True := Lib.hid trivial
    cases hi : inP f p with
    | false =>
      have HI := Lib.hid hi
      have HNO := Lib.hid (inP_no hi)
      clear hi
      go_enter Tryd.func3, Tryd.ntmps3
      go_wp2_with (first
        | (clear T1; go_at_call 8; refine (path_no HL.out (New.refl w) HF.out HNO.out).mono ?_; rintro e w1 ⟨rfl, hn⟩; have N1 := Lib.hid hn; clear hn)
        | (clear T2; refine wpList_alX rfl 29 rfl _ zeroP_run _ rfl ?_; intro w2 g5 hg5 hl5 H5 hn; have A5 : Hid (HasP w2 g5 0 noT 0) := Lib.hid H5; have n5 : w.heap.size ≤ g5 := Nat.le_trans N1.out.size hg5; have N2 := Lib.hid (N1.out.trans hn); clear H5 hn)
        | (clear T3; refine wpList_stP rfl rfl (.tmp 5) (.tmp 16) rfl g5 rfl (to := 0) (t := noT) (n := 0) rfl A5.out ?_; intro w3 B5 k5; have C5 : Hid (HasP w3 g5 0 noT 0) := Lib.hid B5; have N3 := Lib.hid (k5.below _ n5 N2.out); clear B5 k5)
        | (go_at_call 9; refine (fair9_is (New.refl w3) (HF.out.new N3.out) HI.out).mono ?_; rintro e w4 ⟨rfl, hn⟩; have N4 := Lib.hid (N3.out.trans hn); have D5 : Hid (HasP w4 g5 0 noT 0) := Lib.hid (HasC.new C5.out hn); have x0 := HasP.at D5.out; have x1 := HasP.st D5.out; clear hn)
        | (go_at_call 7; refine (knows_from _ HL.out N4.out).mono ?_; rintro e wk ⟨rfl, hnk⟩))
      go_ret
      exact ⟨rfl, hnk⟩
    | true =>
      have HI := Lib.hid hi
      have HIN := Lib.hid (inP_iff.mp hi)
      clear hi
      obtain ⟨o, ho⟩ := wy_ex f p
      obtain ⟨to, HTO⟩ : ∃ to, Hid (toP f p o = to) := ⟨_, Lib.hid rfl⟩
      obtain ⟨tb, HTB⟩ : ∃ tb, Hid (tbP f p o = tb) := ⟨_, Lib.hid rfl⟩
      obtain ⟨st, HST⟩ : ∃ st, Hid (stP o = st) := ⟨_, Lib.hid rfl⟩
      have HO := Lib.hid ho
      clear ho
      go_enter Tryd.func3, Tryd.ntmps3
      go_wp2_with (first
        | (clear T1; go_at_call 8; refine (path_is (q := to) (t := tb) (k := st) HL.out (New.refl w) HF.out HIN.out HO.out HTO.out HTB.out HST.out).mono ?_; rintro e w1 ⟨rfl, hn⟩; have N1 := Lib.hid hn; clear hn)
        | (clear T2; refine wpList_alX rfl 29 rfl _ zeroP_run _ rfl ?_; intro w2 g5 hg5 hl5 H5 hn; have B5 : Hid (HasP w2 g5 0 noT 0) := Lib.hid H5; have n5 : w.heap.size ≤ g5 := Nat.le_trans N1.out.size hg5; have N2 := Lib.hid (N1.out.trans hn); clear H5 hn)
        | (clear T3; refine wpList_stP rfl rfl (.tmp 5) (.tmp 16) rfl g5 rfl (to := to) (t := tb) (n := st) rfl B5.out ?_; intro w3 h5 k5; have C5 : Hid (HasP w3 g5 to tb st) := Lib.hid h5; have N3 := Lib.hid (k5.below _ n5 N2.out); clear h5 k5)
        | (go_at_call 9; refine (fair9_is (New.refl w3) (HF.out.new N3.out) HI.out).mono ?_; rintro e w4 ⟨rfl, hn⟩; have N4 := Lib.hid (N3.out.trans hn); have D5 : Hid (HasP w4 g5 to tb st) := Lib.hid (HasC.new C5.out hn); clear hn)
        | (clear T4; go_at_call 10; refine (refFrom_is (q := to) (t := tb) (k := st) N4.out (HF.out.new N4.out) HIN.out HO.out HTO.out HTB.out HST.out).mono ?_; rintro e w4a ⟨ro, rc, rfl, he, hn⟩; have RA := Lib.hid he; have N4a := Lib.hid (N4.out.trans hn); have E5 : Hid (HasP w4a g5 to tb st) := Lib.hid (HasC.new D5.out hn); clear he hn)
        | (clear T5; refine wpList_alX rfl 36 rfl _ zeroRp_run _ rfl ?_; intro w4b g7 hg7 hl7 H7 hn; have B7 : Hid (HasRp w4b g7 0 (.slice none 0 0) 0) := Lib.hid H7; have n7 : w.heap.size ≤ g7 := Nat.le_trans N4a.out.size hg7; have N4b := Lib.hid (N4a.out.trans hn); have F5 : Hid (HasP w4b g5 to tb st) := Lib.hid (HasC.new E5.out hn); have d57 : g5 ≠ g7 := Nat.ne_of_lt (Nat.lt_of_lt_of_le (HasC.lt E5.out) hg7); have RB := Lib.hid (RA.out.new hn); have HB7 : Hid (w4a.heap.size ≤ g7) := Lib.hid hg7; clear H7 hn)
        | (clear T6; refine wpList_stRp rfl rfl (.tmp 7) (.tmp 39) rfl g7 rfl to st ro 24 rc rfl B7.out ?_; intro w5 h7 k7; have R7 : Hid (HasRp w5 g7 to (.slice ro 24 rc) st) := Lib.hid h7; have A5 : Hid (HasP w5 g5 to tb st) := Lib.hid (HasC.kept F5.out k7 d57); have RE : Hid (ElAt w5 (.slice ro 24 rc) 24 (fun i => rcells (tb i))) := Lib.hid (ElAt.kept2 RA.out (fun _ => rfl) RB.out k7 HB7.out); have N5 := Lib.hid (k7.below _ n7 N4b.out); clear h7 k7))
      have S0 : Hid (New w5 w5.drew) := Lib.hid ((New.refl w5).drew)
      have qt : (to == to) = true := by simp
      have qs : (st == st) = true := by simp
      refine wp_region_noPanic ?_
      refine wp_region_held_drew (S := fun w' => New w5 w') (by kernel_rfl) S0.out (fun _ => ?_)
      refine wpAnyH_take (i := 0) (v := .pointer (some ⟨g5, 0, none⟩)) rfl (by kernel_rfl) (by kernel_rfl) (by kernel_rfl) (fun _ _ _ h => h) (Or.inl ⟨rfl, fun _ _ => by go_simp⟩) S0.out ?_
      simp only [List.getElem_toArray, List.getElem_cons_zero, Act.put, List.setIfInBounds_toArray, List.set_cons_zero, List.set_cons_succ]
      refine wpAnyH_take (i := 1) (v := .int .i64 to) rfl (by kernel_rfl) (by kernel_rfl) (by kernel_rfl) (fun _ _ _ h => h) (ldV_if rfl 3 Tryd.isAgg3 (.tmp 40) rfl ⟨g5, 0, none⟩ rfl (fun w' h => HasP.at (HasC.new A5.out h))) S0.out ?_
      simp only [List.getElem_toArray, List.getElem_cons_zero, List.getElem_cons_succ, Act.put, List.setIfInBounds_toArray, List.set_cons_zero, List.set_cons_succ]
      refine wpAnyH_take (i := 2) (v := .pointer (some ⟨g7, 0, none⟩)) rfl (by kernel_rfl) (by kernel_rfl) (by kernel_rfl) (fun _ _ _ h => h) (Or.inl ⟨rfl, fun _ _ => by go_simp⟩) S0.out ?_
      simp only [List.getElem_toArray, List.getElem_cons_zero, List.getElem_cons_succ, Act.put, List.setIfInBounds_toArray, List.set_cons_zero, List.set_cons_succ]
      refine wpAnyH_take (i := 3) (v := .int .i64 to) rfl (by kernel_rfl) (by kernel_rfl) (by kernel_rfl) (fun _ _ _ h => h) (ldV_if rfl 3 Tryd.isAgg3 (.tmp 42) rfl ⟨g7, 0, none⟩ rfl (fun w' h => HasC.cell (HasC.new R7.out h) rfl)) S0.out ?_
      simp only [List.getElem_toArray, List.getElem_cons_zero, List.getElem_cons_succ, Act.put, List.setIfInBounds_toArray, List.set_cons_zero, List.set_cons_succ]
      refine wpAnyH_take (i := 4) (v := .bool true) rfl (by kernel_rfl) (by kernel_rfl) (by kernel_rfl) (fun _ _ _ h => h) (Or.inl ⟨rfl, fun _ _ => by go_simp⟩) S0.out ?_
      simp only [List.getElem_toArray, List.getElem_cons_zero, List.getElem_cons_succ, Act.put, List.setIfInBounds_toArray, List.set_cons_zero, List.set_cons_succ]
      refine wpAnyH_take (i := 5) (v := .bool true) rfl (by kernel_rfl) (by kernel_rfl) (by kernel_rfl) (fun _ _ _ h => h) (Or.inl ⟨rfl, fun _ _ => by go_simp⟩) S0.out ?_
      simp only [List.getElem_toArray, List.getElem_cons_zero, List.getElem_cons_succ, Act.put, List.setIfInBounds_toArray, List.set_cons_zero, List.set_cons_succ]
      refine wpAnyH_take (i := 6) (v := .pointer (some ⟨g5, 25, none⟩)) rfl (by kernel_rfl) (by kernel_rfl) (by kernel_rfl) (fun _ _ _ h => h) (Or.inl ⟨rfl, fun _ _ => by go_simp⟩) S0.out ?_
      simp only [List.getElem_toArray, List.getElem_cons_zero, List.getElem_cons_succ, Act.put, List.setIfInBounds_toArray, List.set_cons_zero, List.set_cons_succ]
      refine wpAnyH_take (i := 7) (v := .int .i64 st) rfl (by kernel_rfl) (by kernel_rfl) (by kernel_rfl) (fun _ _ _ h => h) (ldV_if rfl 3 Tryd.isAgg3 (.tmp 46) rfl ⟨g5, 25, none⟩ rfl (fun w' h => HasP.st (HasC.new A5.out h))) S0.out ?_
      simp only [List.getElem_toArray, List.getElem_cons_zero, List.getElem_cons_succ, Act.put, List.setIfInBounds_toArray, List.set_cons_zero, List.set_cons_succ]
      refine wpAnyH_take (i := 8) (v := .pointer (some ⟨g7, 2, none⟩)) rfl (by kernel_rfl) (by kernel_rfl) (by kernel_rfl) (fun _ _ _ h => h) (Or.inl ⟨rfl, fun _ _ => by go_simp⟩) S0.out ?_
      simp only [List.getElem_toArray, List.getElem_cons_zero, List.getElem_cons_succ, Act.put, List.setIfInBounds_toArray, List.set_cons_zero, List.set_cons_succ]
      refine wpAnyH_take (i := 9) (v := .int .i64 st) rfl (by kernel_rfl) (by kernel_rfl) (by kernel_rfl) (fun _ _ _ h => h) (ldV_if rfl 3 Tryd.isAgg3 (.tmp 48) rfl ⟨g7, 2, none⟩ rfl (fun w' h => HasC.cell (HasC.new R7.out h) rfl)) S0.out ?_
      simp only [List.getElem_toArray, List.getElem_cons_zero, List.getElem_cons_succ, Act.put, List.setIfInBounds_toArray, List.set_cons_zero, List.set_cons_succ]
      refine wpAnyH_take (i := 10) (v := .bool true) rfl (by kernel_rfl) (by kernel_rfl) (by kernel_rfl) (fun _ _ _ h => h) (Or.inl ⟨rfl, fun _ _ => by go_simp⟩) S0.out ?_
      simp only [List.getElem_toArray, List.getElem_cons_zero, List.getElem_cons_succ, Act.put, List.setIfInBounds_toArray, List.set_cons_zero, List.set_cons_succ]
      refine wpAnyH_take (i := 11) (v := .bool true) rfl (by kernel_rfl) (by kernel_rfl) (by kernel_rfl) (fun _ _ _ h => h) (Or.inl ⟨rfl, fun _ _ => by go_simp⟩) S0.out ?_
      simp only [List.getElem_toArray, List.getElem_cons_zero, List.getElem_cons_succ, Act.put, List.setIfInBounds_toArray, List.set_cons_zero, List.set_cons_succ]
      refine wpAnyH_take (i := 12) (v := .bool true) rfl (by kernel_rfl) (by kernel_rfl) (by kernel_rfl) (fun _ _ _ h => h) (Or.inl ⟨rfl, fun _ _ => by go_simp⟩) S0.out ?_
      simp only [List.getElem_toArray, List.getElem_cons_zero, List.getElem_cons_succ, Act.put, List.setIfInBounds_toArray, List.set_cons_zero, List.set_cons_succ]
      refine wpAnyH_take (i := 13) (v := .pointer (some ⟨g5, 1, none⟩)) rfl (by kernel_rfl) (by kernel_rfl) (by kernel_rfl) (fun _ _ _ h => h) (Or.inl ⟨rfl, fun _ _ => by go_simp⟩) S0.out ?_
      simp only [List.getElem_toArray, List.getElem_cons_zero, List.getElem_cons_succ, Act.put, List.setIfInBounds_toArray, List.set_cons_zero, List.set_cons_succ]
      refine wpAnyH_take (i := 14) (v := .agg (cellsT tb)) rfl (by kernel_rfl) (by kernel_rfl) (by kernel_rfl) (fun _ _ _ h => h) (ldPt_if rfl (.tmp 53) rfl g5 rfl (fun w' h => HasC.new A5.out h)) S0.out ?_
      simp only [List.getElem_toArray, List.getElem_cons_zero, List.getElem_cons_succ, Act.put, List.setIfInBounds_toArray, List.set_cons_zero, List.set_cons_succ]
      refine wpAnyH_take (i := 16) (v := .pointer (some ⟨g7, 1, none⟩)) rfl (by kernel_rfl) (by kernel_rfl) (by kernel_rfl) (fun _ _ _ h => h) (Or.inl ⟨rfl, fun _ _ => by go_simp⟩) S0.out ?_
      simp only [List.getElem_toArray, List.getElem_cons_zero, List.getElem_cons_succ, Act.put, List.setIfInBounds_toArray, List.set_cons_zero, List.set_cons_succ]
      refine wpAnyH_take (i := 17) (v := .slice ro 24 rc) rfl (by kernel_rfl) (by kernel_rfl) (by kernel_rfl) (fun _ _ _ h => h) (ldV_if rfl 34 Tryd.isAgg34 (.tmp 56) rfl ⟨g7, 1, none⟩ rfl (fun w' h => HasC.cell (HasC.new R7.out h) rfl)) S0.out ?_
      simp only [List.getElem_toArray, List.getElem_cons_zero, List.getElem_cons_succ, Act.put, List.setIfInBounds_toArray, List.set_cons_zero, List.set_cons_succ]
      refine wpAnyH_forced [15, 18, 19, 20, 21, 22, 23, 24, 25, 26, 27] _ _ _ S0.out (by kernel_rfl) (by simp) ?_
      simp only [List.map_cons, List.map_nil, Array.getD_eq_getD_getElem?, List.getElem?_toArray, List.getElem?_cons_succ, List.getElem?_cons_zero, Option.getD_some]
      refine wpLS_call rfl 12 #[.agg (cellsT tb)] (by go_simp) ?_
      refine (asT_any tb _).mono ?_
      rintro e w6 ⟨va, rfl, ha, hn⟩
      have N6 := Lib.hid (S0.out.trans hn)
      have HA := Lib.hid ha
      clear hn ha
      refine ⟨_, rfl, N6.out, ?_⟩
      simp only [Act.put, List.setIfInBounds_toArray, List.set_cons_zero, List.set_cons_succ]
      refine wpLS_call rfl 11 #[va, .slice ro 24 rc] (by go_simp) ?_
      refine (refSameT_any va _ tb _ HA.out (RE.out.new N6.out)).mono ?_
      rintro e w7 ⟨rfl, hn⟩
      have N7 := Lib.hid (N6.out.trans hn)
      clear hn
      refine ⟨_, rfl, N7.out, ?_⟩
      simp only [Act.put, List.setIfInBounds_toArray, List.set_cons_zero, List.set_cons_succ]
      refine wpLS_value rfl (.bool true) N7.out (by go_simp) ?_
      simp only [Act.put, List.setIfInBounds_toArray, List.set_cons_zero, List.set_cons_succ]
      refine wpLS_value rfl (.bool true) N7.out (by go_simp) ?_
      simp only [Act.put, List.setIfInBounds_toArray, List.set_cons_zero, List.set_cons_succ]
      refine wpLS_value rfl (.int .i64 0) N7.out (by go_simp) ?_
      simp only [Act.put, List.setIfInBounds_toArray, List.set_cons_zero, List.set_cons_succ]
      refine wpLS_value rfl (.bool true) N7.out (by go_simp) ?_
      simp only [Act.put, List.setIfInBounds_toArray, List.set_cons_zero, List.set_cons_succ]
      refine wpLS_value rfl (.bool true) N7.out (by go_simp) ?_
      simp only [Act.put, List.setIfInBounds_toArray, List.set_cons_zero, List.set_cons_succ]
      refine wpLS_value rfl (.bool true) N7.out (by go_simp) ?_
      simp only [Act.put, List.setIfInBounds_toArray, List.set_cons_zero, List.set_cons_succ]
      refine wpLS_call rfl 7 #[] (by go_simp) ?_
      refine (knows_any _ (HL.out.new (N5.out.trans N7.out))).mono ?_
      rintro e w8 ⟨rfl, hn⟩
      have N8 := Lib.hid (N7.out.trans hn)
      clear hn
      refine ⟨_, rfl, N8.out, ?_⟩
      simp only [Act.put, List.setIfInBounds_toArray, List.set_cons_zero, List.set_cons_succ]
      refine wpLS_value rfl (.bool true) N8.out (by go_simp) ?_
      simp only [Act.put, List.setIfInBounds_toArray, List.set_cons_zero, List.set_cons_succ]
      refine wpLS_value rfl (.bool true) N8.out (by go_simp) ?_
      simp only [Act.put, List.setIfInBounds_toArray, List.set_cons_zero, List.set_cons_succ]
      refine wpLS_nil ?_
      refine NoPanic.normal ?_
      go_wp2
      go_ret
      exact ⟨rfl, N5.out.trans N8.out⟩
theorem pathLeads_law (v : Value) (f : List I) (p : Int) (w : World) (hf : FunAt w v f) (_hi : ∀ x ∈ f, In64I x) (_hn : f.length ≤ maxLen) (_hp : In64 p) (hl : Laid w) :
    Calls Tryd.prog 3 #[v, .int .i64 p] w fun e w' => e = .returned (.bool true) ∧ New w w' := pathLeads_walk v f p w hf hl
end Go.Proofs.YtfjlglnjonijdaaDoor
