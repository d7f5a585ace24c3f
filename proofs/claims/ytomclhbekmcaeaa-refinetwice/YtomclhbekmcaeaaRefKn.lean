/-
  Layer 12: the contract of the laws' knows.
-/
import Derived.Test.YtomclhbekmcaeaaRefC
import Derived.Test.YtomclhbekmcaeaaSepTwo
namespace Go.Proofs.Ytomclhbekmcaeaa
open Go.RowKit

/-! The document's examples. -/
def exA : List Rw := [⟨1, [(0, 1)]⟩, ⟨1, [(0, 0)]⟩, ⟨2, []⟩]
def exB : List Rw := [⟨1, [(0, 2)]⟩, ⟨1, [(0, 0)]⟩, ⟨2, []⟩]
theorem exA_cls : clsL exA = [0, 0, 1] := by
  have h := refG_0 exA
  rw [← tbl_cls (refG_end h (by decide))]
  decide
theorem exB_cls : clsL exB = [0, 1, 2] := by
  have h := refG_next (refG_0 exB)
  rw [← tbl_cls (refG_end h (by decide))]
  decide
theorem infoRw3 : (Try.prog.info? 38).map (fun i => (i.zero, i.size, i.bytes)) = some (some (.agg #[.int .i64 0, .slice none 0 0]), 2, 32) := by kernel_rfl
theorem infoRf3 : (Try.prog.info? 40).map (fun i => (i.zero, i.size, i.bytes)) = some (some (.agg #[.int .i64 0, .int .i64 0]), 2, 16) := by kernel_rfl
theorem build_Rf1 (b : Int) (w : World) : (Instr.build 40 #[(1, .int .i64 b)]).run Try.prog w = .ok (.agg (refK (0, b)).toArray) w := run_build w _ _ _ (by kernel_rfl)
theorem build_Rw1 (x : Rw) (w : World) : (Instr.build 38 #[(0, .int .i64 x.c)]).run Try.prog w = .ok (.agg (rwK x (.slice none 0 0)).toArray) w := run_build w _ _ _ (by kernel_rfl)
theorem build_Rw2 (x : Rw) (b : Nat) (w : World) : (Instr.build 38 #[(0, .int .i64 x.c), (1, .slice (some ⟨b, 0, none⟩) 1 1)]).run Try.prog w = .ok (.agg (rwK x (.slice (some ⟨b, 0, none⟩) 1 1)).toArray) w := run_build w _ _ _ (by kernel_rfl)
section
variable {ops : Array Oper} {rest : List Oper} {op : Oper} {act : Act} {w0 w : World} {Q : Exit → Act → World → Prop} {l : List Asn}
theorem wpList_bs3 (hgd : op.guard = none) (x y z : Operand) (ho : op.op = .buildSlice 22 3 #[(0, x), (1, y), (2, z)]) (p q r : Rw) (u v t : Value) (hx : act.eval x = .agg (rwK p u).toArray) (hy : act.eval y = .agg (rwK q v).toArray) (hz : act.eval z = .agg (rwK r t).toArray) (h : Sep w0 w l)
    (hk : ∀ w' b, Sep w0 w' (blk b 38 (rwK p u ++ rwK q v ++ rwK r t) :: l) → wpList Try.prog ops Q rest (act.put op.dst (.slice (some ⟨b, 0, none⟩) 3 3)) w') : wpList Try.prog ops Q (op :: rest) act w := by
  obtain ⟨i0, k1, k2, k3, k4⟩ := info_parts infoRw3
  refine wpList_buildSlice hgd 22 38 3 _ ho (rwK p u ++ rwK q v ++ rwK r t).toArray i0 _ Try.underlying22 k1 k2 (by rw [k3]; omega) (by rw [k3]; omega) ?_ (hk _ _ (h.new (alloc_new _ _) (Nat.le_refl _) (HasC.box w _ _)))
  rw [k3]
  simp only [List.map_toArray, List.map_cons, List.map_nil, hx, hy, hz]
  have hr6 : Array.range (3 * 2) = #[0, 1, 2, 3, 4, 5] := rfl
  rw [hr6]
  simp [Instr.fill, rwK, Value.cells]
end
theorem refs_one {w : World} {b : Nat} {ty : TypeId} {r : Rf} (h : HasC w b ty (refK r)) : RefsAt w (.slice (some ⟨b, 0, none⟩) 1 1) [r] := by
  refine ⟨_, _, rfl, fun i x hx => ?_⟩
  have hi := some_lt hx
  obtain rfl : i = 0 := by simpa using hi
  obtain rfl : r = x := by simpa using hx
  exact ⟨b, 0, refK r, rfl, rfl, HasC.all h, rfl⟩
theorem rows_three {w : World} {b : Nat} {ty : TypeId} {p q r : Rw} {u v t : Value} (h : HasC w b ty (rwK p u ++ rwK q v ++ rwK r t)) (hu : RefsAt w u p.to) (hv : RefsAt w v q.to) (ht : RefsAt w t r.to) : RowsAt w (.slice (some ⟨b, 0, none⟩) 3 3) [p, q, r] := by
  refine ⟨_, _, rfl, fun i x hx => ?_⟩
  have hi : i < 3 := some_lt hx
  have hc := HasC.all h
  have cut : ∀ (k : Nat) (c : List Value), (∀ j y, c[j]? = some y → (rwK p u ++ rwK q v ++ rwK r t)[k + j]? = some y) → w.rangeAt b (0 + k) c := fun k c hcc j y hy => by
    have := hc (k + j) y (hcc j y hy)
    rwa [← Nat.add_assoc] at this
  match i, hi with
  | 0, _ =>
    obtain rfl : p = x := by simpa using hx
    refine ⟨b, 0, rwK p u, rfl, rfl, cut 0 _ fun j y hy => ?_, u, rfl, hu⟩
    match j, hy with
    | 0, hy => exact hy
    | 1, hy => exact hy
  | 1, _ =>
    obtain rfl : q = x := by simpa using hx
    refine ⟨b, 0, rwK q v, rfl, rfl, cut 2 _ fun j y hy => ?_, v, rfl, hv⟩
    match j, hy with
    | 0, hy => exact hy
    | 1, hy => exact hy
  | 2, _ =>
    obtain rfl : r = x := by simpa using hx
    refine ⟨b, 0, rwK r t, rfl, rfl, cut 4 _ fun j y hy => ?_, t, rfl, ht⟩
    match j, hy with
    | 0, hy => exact hy
    | 1, hy => exact hy
theorem apB_nil : apB [] 0 1 = true := by
  unfold apB
  rw [if_neg (by decide), if_neg (by simp)]
set_option maxHeartbeats 16000000 in
set_option maxRecDepth 100000 in
theorem knows12_any (w : World) : Calls Try.prog 10 #[] w fun e w' => e = .returned (.bool true) ∧ New w w' := by
  have HS := Lib.hid (Sep.start w)
  have T1 : Hid True := Lib.hid trivial
  have T2 : Hid True := Lib.hid trivial
  have T3 : Hid True := Lib.hid trivial
  have T4 : Hid True := Lib.hid trivial
  have T5 : Hid True := Lib.hid trivial
  have T6 : Hid True := Lib.hid trivial
  have T7 : Hid True := Lib.hid trivial
  have T8 : Hid True := Lib.hid trivial
  have T9 : Hid True := Lib.hid trivial
  have T10 : Hid True := Lib.hid trivial
  have T11 : Hid True := Lib.hid trivial
  have T12 : Hid True := Lib.hid trivial
  have T13 : Hid True := Lib.hid trivial
  have T14 : Hid True := Lib.hid trivial
  have T15 : Hid True := Lib.hid trivial
  have T16 : Hid True := Lib.hid trivial
  have T17 : Hid True := Lib.hid trivial
  have T18 : Hid True := Lib.hid trivial
  have T19 : Hid True := Lib.hid trivial
  go_enter Try.func10, Try.ntmps10
  go_wp2_with (first
    | (clear T1; refine wpList_bd1 (a := .int .i64 1) rfl 40 1 (.const (.int .i64 1)) rfl rfl (build_Rf1 1) ?_)
    | (clear T2; refine wpList_bsB (by rfl) 36 40 (.tmp 3) (by rfl) Try.underlying36 infoRf3 (by decide) (by decide) (refK (0, 1)) (.agg (refK (0, 1)).toArray) (by rfl) (by rfl) (by rfl) HS.out ?_; intro w1 ab1 hs; replace HS := Lib.hid hs; clear hs)
    | (clear T3; refine wpList_bd2 (a := .int .i64 1) (b := .slice (some ⟨ab1, 0, none⟩) 1 1) (by rfl) 38 0 1 (.const (.int .i64 1)) (.tmp 4) (by rfl) (by rfl) (by rfl) (build_Rw2 ⟨1, [(0, 1)]⟩ ab1) ?_)
    | (clear T4; refine wpList_bd1 (a := .int .i64 0) rfl 40 1 (.const (.int .i64 0)) rfl rfl (build_Rf1 0) ?_)
    | (clear T5; refine wpList_bsB (by rfl) 36 40 (.tmp 6) (by rfl) Try.underlying36 infoRf3 (by decide) (by decide) (refK (0, 0)) (.agg (refK (0, 0)).toArray) (by rfl) (by rfl) (by rfl) HS.out ?_; intro w2 ab2 hs; replace HS := Lib.hid hs; clear hs)
    | (clear T6; refine wpList_bd2 (a := .int .i64 1) (b := .slice (some ⟨ab2, 0, none⟩) 1 1) (by rfl) 38 0 1 (.const (.int .i64 1)) (.tmp 7) (by rfl) (by rfl) (by rfl) (build_Rw2 ⟨1, [(0, 0)]⟩ ab2) ?_)
    | (clear T7; refine wpList_bd1 (a := .int .i64 2) rfl 38 0 (.const (.int .i64 2)) rfl rfl (build_Rw1 ⟨2, []⟩) ?_)
    | (clear T8; refine wpList_bs3 (by rfl) (.tmp 5) (.tmp 8) (.tmp 9) (by rfl) ⟨1, [(0, 1)]⟩ ⟨1, [(0, 0)]⟩ ⟨2, []⟩ (.slice (some ⟨ab1, 0, none⟩) 1 1) (.slice (some ⟨ab2, 0, none⟩) 1 1) (.slice none 0 0) (by rfl) (by rfl) (by rfl) HS.out ?_; intro w3 ab3 hs; replace HS := Lib.hid hs; clear hs; have HRA : Hid (RowsAt w3 (.slice (some ⟨ab3, 0, none⟩) 3 3) exA) := Lib.hid (rows_three (HS.out.has 0 rfl) (refs_one (HS.out.has 2 rfl)) (refs_one (HS.out.has 1 rfl)) (refs_nil _ _ _)))
    | (clear T9; go_at_call 11; refine (classes_any _ _ _ exA _ HRA.out (by decide) (by decide)).mono ?_; rw [exA_cls]; rintro e w4 ⟨av, rfl, hs⟩; obtain ⟨aa, ac, hv⟩ := rowA_form hs.hd; replace hv : av = .slice aa 3 ac := hv; subst hv; replace HS := Lib.hid (HS.out.call hs); clear hs)
    | (clear T10; refine wpList_bd1 (a := .int .i64 2) rfl 40 1 (.const (.int .i64 2)) rfl rfl (build_Rf1 2) ?_)
    | (clear T11; refine wpList_bsB (by rfl) 36 40 (.tmp 12) (by rfl) Try.underlying36 infoRf3 (by decide) (by decide) (refK (0, 2)) (.agg (refK (0, 2)).toArray) (by rfl) (by rfl) (by rfl) HS.out ?_; intro x1 bb1 hs; replace HS := Lib.hid hs; clear hs)
    | (clear T12; refine wpList_bd2 (a := .int .i64 1) (b := .slice (some ⟨bb1, 0, none⟩) 1 1) (by rfl) 38 0 1 (.const (.int .i64 1)) (.tmp 13) (by rfl) (by rfl) (by rfl) (build_Rw2 ⟨1, [(0, 2)]⟩ bb1) ?_)
    | (clear T13; refine wpList_bd1 (a := .int .i64 0) rfl 40 1 (.const (.int .i64 0)) rfl rfl (build_Rf1 0) ?_)
    | (clear T14; refine wpList_bsB (by rfl) 36 40 (.tmp 15) (by rfl) Try.underlying36 infoRf3 (by decide) (by decide) (refK (0, 0)) (.agg (refK (0, 0)).toArray) (by rfl) (by rfl) (by rfl) HS.out ?_; intro x2 bb2 hs; replace HS := Lib.hid hs; clear hs)
    | (clear T15; refine wpList_bd2 (a := .int .i64 1) (b := .slice (some ⟨bb2, 0, none⟩) 1 1) (by rfl) 38 0 1 (.const (.int .i64 1)) (.tmp 16) (by rfl) (by rfl) (by rfl) (build_Rw2 ⟨1, [(0, 0)]⟩ bb2) ?_)
    | (clear T16; refine wpList_bd1 (a := .int .i64 2) rfl 38 0 (.const (.int .i64 2)) rfl rfl (build_Rw1 ⟨2, []⟩) ?_)
    | (clear T17; refine wpList_bs3 (by rfl) (.tmp 14) (.tmp 17) (.tmp 18) (by rfl) ⟨1, [(0, 2)]⟩ ⟨1, [(0, 0)]⟩ ⟨2, []⟩ (.slice (some ⟨bb1, 0, none⟩) 1 1) (.slice (some ⟨bb2, 0, none⟩) 1 1) (.slice none 0 0) (by rfl) (by rfl) (by rfl) HS.out ?_; intro x3 bb3 hs; replace HS := Lib.hid hs; clear hs; have HRB : Hid (RowsAt x3 (.slice (some ⟨bb3, 0, none⟩) 3 3) exB) := Lib.hid (rows_three (HS.out.has 0 rfl) (refs_one (HS.out.has 2 rfl)) (refs_one (HS.out.has 1 rfl)) (refs_nil _ _ _)))
    | (clear T18; go_at_call 11; refine (classes_any _ _ _ exB _ HRB.out (by decide) (by decide)).mono ?_; rw [exB_cls]; rintro e x4 ⟨bv, rfl, hs⟩; obtain ⟨ba, bc, hv⟩ := rowA_form hs.hd; replace hv : bv = .slice ba 3 bc := hv; subst hv; replace HS := Lib.hid (HS.out.call hs); clear hs; have zA := HS.out.rd 4 rfl; have zB := HS.out.rd 0 rfl; obtain ⟨pA0, jA0, cA0⟩ := int_ix (int_rd zA) (i := 0) (by decide); obtain ⟨pA1, jA1, cA1⟩ := int_ix (int_rd zA) (i := 1) (by decide); obtain ⟨pA2, jA2, cA2⟩ := int_ix (int_rd zA) (i := 2) (by decide); obtain ⟨pB0, jB0, cB0⟩ := int_ix (int_rd zB) (i := 0) (by decide); obtain ⟨pB1, jB1, cB1⟩ := int_ix (int_rd zB) (i := 1) (by decide); obtain ⟨pB2, jB2, cB2⟩ := int_ix (int_rd zB) (i := 2) (by decide); replace jA0 : ∀ w', (Instr.indexAt 25 _ (.int .i64 0)).run Try.prog w' = .ok _ w' := jA0; replace cA0 := cA0 _ (New.refl _); replace jA1 : ∀ w', (Instr.indexAt 25 _ (.int .i64 1)).run Try.prog w' = .ok _ w' := jA1; replace cA1 := cA1 _ (New.refl _); replace jA2 : ∀ w', (Instr.indexAt 25 _ (.int .i64 2)).run Try.prog w' = .ok _ w' := jA2; replace cA2 := cA2 _ (New.refl _); replace jB0 : ∀ w', (Instr.indexAt 25 _ (.int .i64 0)).run Try.prog w' = .ok _ w' := jB0; replace cB0 := cB0 _ (New.refl _); replace jB1 : ∀ w', (Instr.indexAt 25 _ (.int .i64 1)).run Try.prog w' = .ok _ w' := jB1; replace cB1 := cB1 _ (New.refl _); replace jB2 : ∀ w', (Instr.indexAt 25 _ (.int .i64 2)).run Try.prog w' = .ok _ w' := jB2; replace cB2 := cB2 _ (New.refl _); clear zA zB)
    | (clear T19; go_at_call 14; refine (apart_any none 0 0 [] 0 1 _ (rows_nil _ _ _) (by decide) (by decide)).mono ?_; rw [apB_nil]; rintro e y1 ⟨rfl, hn⟩; replace HS := Lib.hid (HS.out.go hn); clear hn))
  go_ret
  exact ⟨rfl, HS.out.nw⟩
theorem knows_from12 {w0 : World} (w : World) (h : New w0 w) : Calls Try.prog 10 #[] w fun e w' => e = .returned (.bool true) ∧ New w0 w' :=
  (knows12_any w).mono fun _ _ ⟨he, hw⟩ => ⟨he, h.trans hw⟩
end Go.Proofs.Ytomclhbekmcaeaa
