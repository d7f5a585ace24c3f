/-
  'EnvFills': what places have by a table is what the document says: true, for every input.
-/
import Derived.Test.YthdbehalbcoibaaEnvLawA
import Derived.Test.YthdbehalbcoibaaEnvRefB
import Derived.Test.YthdbehalbcoibaaOrder3
namespace Go.Proofs.Ythdbehalbcoibaa
open Go.RowKit

theorem ldT_if {ops : Array Oper} {S : World → Prop} {op : Oper} {a : Act} (hw : Region.wanted op (yielded ops a.tmps) = true) (p : Operand) (ho : op.op = .load 28 p) (g : Nat) (hx : a.eval p = .pointer (some ⟨g, 0, none⟩)) {t : Tb} (h : ∀ w, S w → HasT w g t) :
    YieldsIf Try.prog ops S op (.agg (cellsT t)) a := .inl ⟨hw, fun w hw' => by
  unfold execOp
  have := run_loadVar_row (P := Try.prog) w g _ 28 _ _ _ (h w hw') Try.underlying28 rfl (by rw [cellsT_size]; exact infoT)
  simp only [ho, hx, Instr.loadAt, Instr.sureAddr, Sem.run_bind, Sem.run_pure, Result.andThen_ok, this]⟩
theorem ldW_if {ops : Array Oper} {S : World → Prop} {op : Oper} {a : Act} (hw : Region.wanted op (yielded ops a.tmps) = true) (p : Operand) (ho : op.op = .load 32 p) (g : Nat) (hx : a.eval p = .pointer (some ⟨g, 0, none⟩)) {t : Ws} (h : ∀ w, S w → HasW w g t) :
    YieldsIf Try.prog ops S op (.agg (cellsW t)) a := .inl ⟨hw, fun w hw' => by
  unfold execOp
  have := run_loadVar_row (P := Try.prog) w g _ 32 _ _ _ (h w hw') Try.underlying32 rfl (by rw [cellsW_size]; exact infoW)
  simp only [ho, hx, Instr.loadAt, Instr.sureAddr, Sem.run_bind, Sem.run_pure, Result.andThen_ok, this]⟩
set_option maxHeartbeats 4000000 in
set_option maxRecDepth 100000 in
theorem envFills_in (ks ns : List Int) (bs : List Bool) (ls : List Int) (v1 v2 v3 v4 : Value) (w : World) (h1 : RowAt w v1 (ks.map (.int .u8))) (h2 : RowAt w v2 (ns.map (.int .i64))) (h3 : RowAt w v3 (bs.map .bool)) (h4 : RowAt w v4 (ls.map (.int .i64))) :
    Calls Try.prog 3 #[v1, v2, v3, v4] w fun e w' => e = .returned (.bool true) ∧ New w w' := by
  have H1 := Lib.hid h1
  have H2 := Lib.hid h2
  have H3 := Lib.hid h3
  have H4 := Lib.hid h4
  have HN := Lib.hid (New.refl w)
  clear h1 h2 h3 h4
  go_enter Try.func3, Try.ntmps3
  go_wp2_with (first
    | (go_at_call 7; refine (of_any ks ns _ _ _ (H1.out.new HN.out) (H2.out.new HN.out)).mono ?_; rintro e w1 ⟨rfl, hn⟩; replace HN := Lib.hid (HN.out.trans hn); clear hn; generalize ofT ks ns = T)
    | (go_at_call 8; refine (words_any bs ls _ _ _ (H3.out.new HN.out) (H4.out.new HN.out)).mono ?_; rintro e w2 ⟨rfl, hn⟩; replace HN := Lib.hid (HN.out.trans hn); clear hn; generalize wordsT bs ls = W)
    | (refine wpList_alT rfl rfl ?_; intro wa g1 q1 q2 hz hn; have HT := Lib.hid hz; have r1 : w.heap.size ≤ g1 := Nat.le_trans HN.out.size q1; replace HN := Lib.hid (HN.out.trans hn); clear hz hn q1 q2)
    | (refine wpList_alW rfl rfl ?_; intro wa g2 q1 q2 hz hn; have HW := Lib.hid hz; have r2 : g1 < g2 := Nat.lt_of_lt_of_le (heap_lt HT.out) q1; replace HT := Lib.hid (HT.out.new hn); replace HN := Lib.hid (HN.out.trans hn); clear hz hn q1 q2)
    | (refine wpList_stTk rfl rfl (.tmp 9) (.tmp 13) rfl g1 rfl T rfl HT.out ?_; intro wb hu hk; replace HT := Lib.hid hu; replace HW := Lib.hid (hk.W HW.out (by omega)); replace HN := Lib.hid (hk.below _ r1 HN.out); clear hu hk)
    | (refine wpList_stWk rfl rfl (.tmp 10) (.tmp 16) rfl g2 rfl W rfl HW.out ?_; intro wx hu hk; replace HW := Lib.hid hu; replace HT := Lib.hid (hk.T HT.out (by omega)); replace HN := Lib.hid (hk.below _ (by omega) HN.out); clear hu hk))
  have CT : Hid (∀ w', New wx w' → HasT w' g1 T) := Lib.hid (fun w' hn => HT.out.new hn)
  have CW : Hid (∀ w', New wx w' → HasW w' g2 W) := Lib.hid (fun w' hn => HW.out.new hn)
  refine wp_region_noPanic ?_
  refine wp_region_held_drew (S := fun w' => New wx w') (by kernel_rfl) ((New.refl wx).drew) (fun _ => ?_)
  refine wpAnyH_take (i := 0) rfl (by kernel_rfl) (by kernel_rfl) (by kernel_rfl) (fun _ _ _ h => h) (ldT_if rfl (.tmp 9) rfl g1 rfl CT.out) ((New.refl wx).drew) ?_
  simp only [List.getElem_toArray, List.getElem_cons_zero, Act.put, List.setIfInBounds_toArray, List.set_cons_zero, List.set_cons_succ]
  refine wpAnyH_take (i := 1) rfl (by kernel_rfl) (by kernel_rfl) (by kernel_rfl) (fun _ _ _ h => h) (ldW_if rfl (.tmp 10) rfl g2 rfl CW.out) ((New.refl wx).drew) ?_
  simp only [List.getElem_toArray, List.getElem_cons_zero, List.getElem_cons_succ, Act.put, List.setIfInBounds_toArray, List.set_cons_zero, List.set_cons_succ]
  refine wpAnyH_take (i := 4) rfl (by kernel_rfl) (by kernel_rfl) (by kernel_rfl) (fun _ _ _ h => h) (ldT_if rfl (.tmp 9) rfl g1 rfl CT.out) ((New.refl wx).drew) ?_
  simp only [List.getElem_toArray, List.getElem_cons_zero, List.getElem_cons_succ, Act.put, List.setIfInBounds_toArray, List.set_cons_zero, List.set_cons_succ]
  refine wpAnyH_take (i := 6) rfl (by kernel_rfl) (by kernel_rfl) (by kernel_rfl) (fun _ _ _ h => h) (ldW_if rfl (.tmp 10) rfl g2 rfl CW.out) ((New.refl wx).drew) ?_
  simp only [List.getElem_toArray, List.getElem_cons_zero, List.getElem_cons_succ, Act.put, List.setIfInBounds_toArray, List.set_cons_zero, List.set_cons_succ]
  refine wpAnyH_forced [2, 3, 5, 7, 8, 9, 10, 11, 12, 13] _ _ _ ((New.refl wx).drew) (by kernel_rfl) (by simp) ?_
  simp only [List.map_cons, List.map_nil, Array.getD_eq_getD_getElem?, List.getElem?_toArray, List.getElem?_cons_succ, List.getElem?_cons_zero, Option.getD_some]
  refine wpLS_call rfl 11 #[.agg (cellsT T), .agg (cellsW W)] (by go_simp) ?_
  refine (fill_any T W _).mono ?_
  rintro e w1 ⟨rfl, hn⟩
  have N1 := Lib.hid ((New.drew (New.refl wx)).trans hn)
  clear hn
  refine ⟨_, rfl, N1.out, ?_⟩
  simp only [Act.put, List.setIfInBounds_toArray, List.set_cons_zero, List.set_cons_succ]
  refine wpLS_call rfl 10 #[.agg (cellsW (fil T W))] (by go_simp) ?_
  refine (row_any (fil T W) _).mono ?_
  rintro e w2 ⟨va, rfl, ha, hn⟩
  have N2 := Lib.hid (N1.out.trans hn)
  have HA := Lib.hid ha
  clear hn ha
  refine ⟨_, rfl, N2.out, ?_⟩
  simp only [Act.put, List.setIfInBounds_toArray, List.set_cons_zero, List.set_cons_succ]
  refine wpLS_call rfl 13 #[.agg (cellsT T)] (by go_simp) ?_
  refine (as_any T _).mono ?_
  rintro e w3 ⟨vb, rfl, hb, hn⟩
  have N3 := Lib.hid (N2.out.trans hn)
  have HB := Lib.hid hb
  replace HA := Lib.hid (HA.out.new hn)
  clear hn hb
  refine ⟨_, rfl, N3.out, ?_⟩
  simp only [Act.put, List.setIfInBounds_toArray, List.set_cons_zero, List.set_cons_succ]
  refine wpLS_call rfl 10 #[.agg (cellsW W)] (by go_simp) ?_
  refine (row_any W _).mono ?_
  rintro e w4 ⟨vc, rfl, hc, hn⟩
  have N4 := Lib.hid (N3.out.trans hn)
  have HC := Lib.hid hc
  replace HA := Lib.hid (HA.out.new hn)
  replace HB := Lib.hid (HB.out.new hn)
  clear hn hc
  refine ⟨_, rfl, N4.out, ?_⟩
  simp only [Act.put, List.setIfInBounds_toArray, List.set_cons_zero, List.set_cons_succ]
  refine wpLS_call rfl 12 #[vb, vc] (by go_simp) ?_
  refine (refFill_any vb vc T W _ HB.out HC.out).mono ?_
  rintro e w5 ⟨vd, rfl, hd, hn⟩
  have N5 := Lib.hid (N4.out.trans hn)
  have HD := Lib.hid hd
  replace HA := Lib.hid (HA.out.new hn)
  clear hn hd
  refine ⟨_, rfl, N5.out, ?_⟩
  simp only [Act.put, List.setIfInBounds_toArray, List.set_cons_zero, List.set_cons_succ]
  refine wpLS_call rfl 9 #[va, vd] (by go_simp) ?_
  refine (sameWords_any va vd (fil T W) _ HA.out HD.out).mono ?_
  rintro e w6 ⟨rfl, hn⟩
  have N6 := Lib.hid (N5.out.trans hn)
  clear hn
  refine ⟨_, rfl, N6.out, ?_⟩
  simp only [Act.put, List.setIfInBounds_toArray, List.set_cons_zero, List.set_cons_succ]
  refine wpLS_value rfl (.bool true) N6.out (by go_simp) ?_
  simp only [Act.put, List.setIfInBounds_toArray, List.set_cons_zero, List.set_cons_succ]
  refine wpLS_call rfl 14 #[] (by go_simp) ?_
  refine (knows_any _).mono ?_
  rintro e w7 ⟨rfl, hn⟩
  have N7 := Lib.hid (N6.out.trans hn)
  clear hn
  refine ⟨_, rfl, N7.out, ?_⟩
  simp only [Act.put, List.setIfInBounds_toArray, List.set_cons_zero, List.set_cons_succ]
  refine wpLS_value rfl (.bool true) N7.out (by go_simp) ?_
  simp only [Act.put, List.setIfInBounds_toArray, List.set_cons_zero, List.set_cons_succ]
  refine wpLS_value rfl (.bool true) N7.out (by go_simp) ?_
  simp only [Act.put, List.setIfInBounds_toArray, List.set_cons_zero, List.set_cons_succ]
  refine wpLS_nil ?_
  refine NoPanic.normal ?_
  go_wp2
  go_ret
  exact ⟨rfl, HN.out.trans N7.out⟩
theorem envFills_law (v1 : Value) (ks : List Int) (v2 : Value) (ns : List Int) (v3 : Value) (bs : List Bool) (v4 : Value) (ls : List Int) (w : World) (h1 : RowAt w v1 (ks.map (.int .u8))) (h2 : RowAt w v2 (ns.map (.int .i64))) (h3 : RowAt w v3 (bs.map .bool)) (h4 : RowAt w v4 (ls.map (.int .i64))) :
    Calls Try.prog 3 #[v1, v2, v3, v4] w fun e w' => e = .returned (.bool true) ∧ New w w' := envFills_in ks ns bs ls v1 v2 v3 v4 w h1 h2 h3 h4
end Go.Proofs.Ythdbehalbcoibaa
