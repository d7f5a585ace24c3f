/-
  'RefineLike': things of one colour that lead to the same can't be told apart: true, for every input.
-/
import Derived.Test.YtomclhbekmcaeaaRefGr
import Derived.Test.YtomclhbekmcaeaaRefKn
import Derived.Test.YtomclhbekmcaeaaRefB
import Derived.Test.YtomclhbekmcaeaaQuietAg
namespace Go.Proofs.Ytomclhbekmcaeaa
open Go.RowKit

set_option maxHeartbeats 16000000 in
set_option maxRecDepth 100000 in
theorem refineLike_walk (la : Option Addr) (n lc : Nat) (l : List Rw) (i k : Int) (w : World) (hr : RowsAt w (.slice la n lc) l) (hm : n ≤ maxLen) :
    Calls Try.prog 7 #[.slice la n lc, .int .i64 i, .int .i64 k] w fun e w' => e = .returned (.bool true) ∧ New w w' := by
  have hl := Els.len hr
  have HX := Lib.hid hr
  have HN := Lib.hid hl
  clear hr hl
  by_cases hgr : n ≤ 60 ∧ ∀ x ∈ l, x.to.length ≤ 20
  case neg =>
    have HGT : Hid (∀ w', New w w' → Calls Try.prog 9 #[.slice la n lc] w' fun e w2 => e = .returned (.bool true) ∧ New w w2) := Lib.hid fun w' hn => (great12_any la n lc l w' (HX.out.nw hn) hm).mono fun e w2 ⟨b, h1, h2, h3⟩ => ⟨by rw [h1, show b = true by cases b with | true => rfl | false => exact absurd (h2.mp rfl) hgr], hn.trans h3⟩
    clear hgr
    go_enter Try.func7, Try.ntmps7
    go_wp2_with fail
    have hne := newW_any w
    refine wp_region_new (New.refl w) (by kernel_rfl) (by kernel_rfl) ?_
    repeat (go_big_quiet_step (first | (go_at_call 9; exact quiet_new (HGT.out _ (Subtype.property _)))))
    refine wpQuiet_nil ?_
    intro w1 hn1
    go_wp2_with (go_at_call 10; refine (knows_from12 _ hn1).mono ?_; rintro e wk ⟨rfl, hnk⟩)
    go_ret
    exact ⟨rfl, hnk⟩
  have HGT : Hid (∀ w', New w w' → Calls Try.prog 9 #[.slice la n lc] w' fun e w2 => e = .returned (.bool false) ∧ New w w2) := Lib.hid fun w' hn => (great12_any la n lc l w' (HX.out.nw hn) hm).mono fun e w2 ⟨b, h1, h2, h3⟩ => ⟨by rw [h1, h2.mpr hgr], hn.trans h3⟩
  have HTO : Hid (∀ x ∈ l, x.to.length ≤ 10000) := Lib.hid fun x hx => Nat.le_trans (hgr.2 x hx) (by decide)
  have hn2 : n ≤ 10000 := by omega
  clear hgr
  by_cases h1 : i < 0
  · have d1 : decide (i < 0) = true := decide_eq_true h1
    clear h1
    go_enter Try.func7, Try.ntmps7
    go_wp2_with fail
    have hne := newW_any w
    refine wp_region_new (New.refl w) (by kernel_rfl) (by kernel_rfl) ?_
    repeat (go_big_quiet_step (first | (go_at_call 9; exact quiet_new (HGT.out _ (Subtype.property _)))))
    refine wpQuiet_nil ?_
    intro w1 hn1
    go_wp2_with (go_at_call 10; refine (knows_from12 _ hn1).mono ?_; rintro e wk ⟨rfl, hnk⟩)
    go_ret
    exact ⟨rfl, hnk⟩
  have d1 : decide (i < 0) = false := decide_eq_false h1
  by_cases h2 : k < 0
  · have d2 : decide (k < 0) = true := decide_eq_true h2
    clear h1 h2
    go_enter Try.func7, Try.ntmps7
    go_wp2_with fail
    have hne := newW_any w
    refine wp_region_new (New.refl w) (by kernel_rfl) (by kernel_rfl) ?_
    repeat (go_big_quiet_step (first | (go_at_call 9; exact quiet_new (HGT.out _ (Subtype.property _)))))
    refine wpQuiet_nil ?_
    intro w1 hn1
    go_wp2_with (go_at_call 10; refine (knows_from12 _ hn1).mono ?_; rintro e wk ⟨rfl, hnk⟩)
    go_ret
    exact ⟨rfl, hnk⟩
  have d2 : decide (k < 0) = false := decide_eq_false h2
  by_cases h3 : (n : Int) ≤ i
  · have d3 : decide ((n : Int) ≤ i) = true := decide_eq_true h3
    clear h1 h2 h3
    go_enter Try.func7, Try.ntmps7
    go_wp2_with fail
    have hne := newW_any w
    refine wp_region_new (New.refl w) (by kernel_rfl) (by kernel_rfl) ?_
    repeat (go_big_quiet_step (first | (go_at_call 9; exact quiet_new (HGT.out _ (Subtype.property _)))))
    refine wpQuiet_nil ?_
    intro w1 hn1
    go_wp2_with (go_at_call 10; refine (knows_from12 _ hn1).mono ?_; rintro e wk ⟨rfl, hnk⟩)
    go_ret
    exact ⟨rfl, hnk⟩
  have d3 : decide ((n : Int) ≤ i) = false := decide_eq_false h3
  by_cases h4 : (n : Int) ≤ k
  · have d4 : decide ((n : Int) ≤ k) = true := decide_eq_true h4
    clear h1 h2 h3 h4
    go_enter Try.func7, Try.ntmps7
    go_wp2_with fail
    have hne := newW_any w
    refine wp_region_new (New.refl w) (by kernel_rfl) (by kernel_rfl) ?_
    repeat (go_big_quiet_step (first | (go_at_call 9; exact quiet_new (HGT.out _ (Subtype.property _)))))
    refine wpQuiet_nil ?_
    intro w1 hn1
    go_wp2_with (go_at_call 10; refine (knows_from12 _ hn1).mono ?_; rintro e wk ⟨rfl, hnk⟩)
    go_ret
    exact ⟨rfl, hnk⟩
  have d4 : decide ((n : Int) ≤ k) = false := decide_eq_false h4
  obtain ⟨a, rfl⟩ : ∃ a : Nat, i = (a : Int) := ⟨i.toNat, by omega⟩
  obtain ⟨b, rfl⟩ : ∃ b : Nat, k = (b : Int) := ⟨k.toNat, by omega⟩
  have han : a < n := by omega
  have hbn : b < n := by omega
  have d5 : decide (n ≤ a) = false := decide_eq_false (by omega)
  have d6 : decide (n ≤ b) = false := decide_eq_false (by omega)
  clear h1 h2 h3 h4
  obtain ⟨x, hx⟩ : ∃ x, l[a]? = some x := ⟨_, List.getElem?_eq_getElem (by rw [HN.out]; exact han)⟩
  obtain ⟨y, hy⟩ : ∃ y, l[b]? = some y := ⟨_, List.getElem?_eq_getElem (by rw [HN.out]; exact hbn)⟩
  obtain ⟨b1, o1, ra, rc, i1, g1, f1⟩ := RowsAt.ix (P := Try.prog) HX.out 22 Try.underlying22 sizeRw hx
  obtain ⟨b2, o2, sa, sc, i2, g2, f2⟩ := RowsAt.ix (P := Try.prog) HX.out 22 Try.underlying22 sizeRw hy
  have HXK := Lib.hid (rwA_at hx)
  have HYK := Lib.hid (rwA_at hy)
  have hM := HTO.out x (List.mem_of_getElem? hx)
  obtain ⟨M, HM⟩ : ∃ M, Hid (x.to.length = M) := ⟨_, Lib.hid rfl⟩
  obtain ⟨L, HL⟩ : ∃ L, Hid (y.to.length = L) := ⟨_, Lib.hid rfl⟩
  rw [HM.out] at g1 f1 hM
  rw [HL.out] at g2 f2
  have HG1 := Lib.hid g1
  have HG2 := Lib.hid g2
  have HF1 := Lib.hid f1
  have HF2 := Lib.hid f2
  have V1 : ∀ z : NewW w, z.val.cell? ⟨b1, o1, none⟩ = some (.int .i64 x.c) := fun z => by have := HG1.out _ z.property 0 _ rfl; rwa [Nat.add_zero] at this
  have V2 : ∀ z : NewW w, z.val.cell? ⟨b1, o1 + 1, none⟩ = some (.slice ra M rc) := fun z => HG1.out _ z.property 1 _ rfl
  have V3 : ∀ z : NewW w, z.val.cell? ⟨b2, o2, none⟩ = some (.int .i64 y.c) := fun z => by have := HG2.out _ z.property 0 _ rfl; rwa [Nat.add_zero] at this
  have V4 : ∀ z : NewW w, z.val.cell? ⟨b2, o2 + 1, none⟩ = some (.slice sa L sc) := fun z => HG2.out _ z.property 1 _ rfl
  clear hx hy g1 g2 f1 f2
  by_cases hxc : x.c = y.c
  case neg =>
    have q1 : (x.c != y.c) = true := by simp [hxc]
    clear hxc
    go_enter Try.func7, Try.ntmps7
    go_wp2_with fail
    have hne := newW_any w
    refine wp_region_new (New.refl w) (by kernel_rfl) (by kernel_rfl) ?_
    repeat (go_big_quiet_step (first | (go_at_call 9; exact quiet_new (HGT.out _ (Subtype.property _)))))
    refine wpQuiet_nil ?_
    intro w1 hn1
    go_wp2_with (go_at_call 10; refine (knows_from12 _ hn1).mono ?_; rintro e wk ⟨rfl, hnk⟩)
    go_ret
    exact ⟨rfl, hnk⟩
  have q1 : (x.c != y.c) = false := by simp [hxc]
  have HXC := Lib.hid hxc
  clear hxc
  by_cases hML : M = L
  case neg =>
    have q2 : ((M : Int) != (L : Int)) = true := by simp; omega
    clear hML
    go_enter Try.func7, Try.ntmps7
    go_wp2_with fail
    have hne := newW_any w
    refine wp_region_new (New.refl w) (by kernel_rfl) (by kernel_rfl) ?_
    repeat (go_big_quiet_step (first | (go_at_call 9; exact quiet_new (HGT.out _ (Subtype.property _)))))
    refine wpQuiet_nil ?_
    intro w1 hn1
    go_wp2_with (go_at_call 10; refine (knows_from12 _ hn1).mono ?_; rintro e wk ⟨rfl, hnk⟩)
    go_ret
    exact ⟨rfl, hnk⟩
  subst hML
  have q2 : ((M : Int) != (M : Int)) = false := by simp
  go_enter Try.func7, Try.ntmps7
  go_wp2_with fail
  have hne := newW_any w
  refine wp_region_new (New.refl w) (by kernel_rfl) (by kernel_rfl) ?_
  repeat (go_big_quiet_step (first | (go_at_call 9; exact quiet_new (HGT.out _ (Subtype.property _)))))
  refine wpQuiet_nil ?_
  intro w1 hn1
  have HW1 := Lib.hid hn1
  clear V1 V2 V3 V4 hne hn1
  go_wp2_with fail
  go_loopw [7] (fun mv wr => ∃ m : Nat, mv = .int .i64 (m : Int) ∧ m ≤ M ∧ Hid (∀ j < m, x.to[j]? = y.to[j]?) ∧ Hid (New w wr)) (fun mv _ => M - (intOf mv).toNat)
  case atStart => exact ⟨0, rfl, by omega, Lib.hid (fun _ h => absurd h (Nat.not_lt_zero _)), HW1⟩
  case round =>
    clear HW1
    obtain ⟨m, rfl, hm, HLS, HW⟩ := hrel
    have y1 := HG1.out _ HW.out 1 _ rfl
    by_cases hmM : m < M
    · obtain ⟨r, hr⟩ : ∃ r, x.to[m]? = some r := ⟨_, List.getElem?_eq_getElem (by rw [HM.out]; exact hmM)⟩
      obtain ⟨s, hs⟩ : ∃ s, y.to[m]? = some s := ⟨_, List.getElem?_eq_getElem (by rw [HL.out]; exact hmM)⟩
      obtain ⟨b3, o3, i3, g3⟩ := RefsAt.ix (P := Try.prog) HF1.out 36 Try.underlying36 sizeRf hr
      obtain ⟨b4, o4, i4, g4⟩ := RefsAt.ix (P := Try.prog) HF2.out 36 Try.underlying36 sizeRf hs
      have V1 : ∀ z : NewW wr, z.val.cell? ⟨b1, o1 + 1, none⟩ = some (.slice ra M rc) := fun z => HG1.out _ (HW.out.trans z.property) 1 _ rfl
      have V2 : ∀ z : NewW wr, z.val.cell? ⟨b2, o2 + 1, none⟩ = some (.slice sa M sc) := fun z => HG2.out _ (HW.out.trans z.property) 1 _ rfl
      have HG3 := Lib.hid g3
      have HG4 := Lib.hid g4
      have hq := neq_rf r s
      by_cases hrs : r = s
      case neg =>
        rw [decide_eq_false hrs] at hq
        replace hq : ∀ w, (binOp .neq 40 (.agg (refK r).toArray) (.agg (refK s).toArray)).run Try.prog w = .ok (.bool true) w := hq
        clear hrs hr hs g3 g4
        go_wp2_with fail
        have hne := newW_any wr
        refine wp_region_new (New.refl wr) (by kernel_rfl) (by kernel_rfl) ?_
        have T1 : Hid True := Lib.hid trivial
        have T2 : Hid True := Lib.hid trivial
        repeat (first
          | (clear T1; refine wpQuiet_ldAg (by rfl) 40 (.tmp 76) (by rfl) b3 o3 (by rfl) (refK r) _ (by rintro w' ⟨y, rfl⟩; exact HG3.out _ (HW.out.trans y.property)) Try.underlying40 rfl infoRf12 ?_; simp only [Act.put, List.setIfInBounds_toArray, List.set_cons_zero, List.set_cons_succ])
          | (clear T2; refine wpQuiet_ldAg (by rfl) 40 (.tmp 84) (by rfl) b4 o4 (by rfl) (refK s) _ (by rintro w' ⟨y, rfl⟩; exact HG4.out _ (HW.out.trans y.property)) Try.underlying40 rfl infoRf12 ?_; simp only [Act.put, List.setIfInBounds_toArray, List.set_cons_zero, List.set_cons_succ])
          | go_big_quiet_step (fail))
        refine wpQuiet_nil ?_
        intro w9 hn9
        go_wp2_with (go_at_call 10; refine (knows_from12 _ (HW.out.trans hn9)).mono ?_; rintro e wk ⟨rfl, hnk⟩)
        go_ret
        exact ⟨rfl, hnk⟩
      rw [decide_eq_true hrs] at hq
      replace hq : ∀ w, (binOp .neq 40 (.agg (refK r).toArray) (.agg (refK s).toArray)).run Try.prog w = .ok (.bool false) w := hq
      have HLS2 : Hid (∀ j < m + 1, x.to[j]? = y.to[j]?) := Lib.hid fun j hj => by
        by_cases e : j < m
        · exact HLS.out j e
        · obtain rfl : j = m := by omega
          rw [hr, hs, hrs]
      clear hrs hr hs g3 g4
      go_wp2_with fail
      have hne := newW_any wr
      refine wp_region_new (New.refl wr) (by kernel_rfl) (by kernel_rfl) ?_
      have T1 : Hid True := Lib.hid trivial
      have T2 : Hid True := Lib.hid trivial
      repeat (first
        | (clear T1; refine wpQuiet_ldAg (by rfl) 40 (.tmp 76) (by rfl) b3 o3 (by rfl) (refK r) _ (by rintro w' ⟨y, rfl⟩; exact HG3.out _ (HW.out.trans y.property)) Try.underlying40 rfl infoRf12 ?_; simp only [Act.put, List.setIfInBounds_toArray, List.set_cons_zero, List.set_cons_succ])
        | (clear T2; refine wpQuiet_ldAg (by rfl) 40 (.tmp 84) (by rfl) b4 o4 (by rfl) (refK s) _ (by rintro w' ⟨y, rfl⟩; exact HG4.out _ (HW.out.trans y.property)) Try.underlying40 rfl infoRf12 ?_; simp only [Act.put, List.setIfInBounds_toArray, List.set_cons_zero, List.set_cons_succ])
        | go_big_quiet_step (fail))
      refine wpQuiet_nil ?_
      intro w9 hn9
      go_wp2_with fail
      go_roundw
      case rel => exact ⟨m + 1, by go_num, by omega, HLS2, Lib.hid (HW.out.trans hn9)⟩
      case measure => simp [intOf]; omega
    · have HSM : Hid ((clsL l).getD a 0 = (clsL l).getD b 0) := Lib.hid (by
        refine (clsL_eq (by rw [HN.out]; exact han) (by rw [HN.out]; exact hbn)).mpr (same_like (by rw [HN.out]; exact han) (by rw [HN.out]; exact hbn) (by rw [HXK.out, HYK.out]; exact HXC.out) ?_)
        rw [HXK.out, HYK.out]
        apply List.ext_getElem?
        intro j
        by_cases e : j < m
        · exact HLS.out j e
        · rw [List.getElem?_eq_none (by rw [HM.out]; omega), List.getElem?_eq_none (by rw [HL.out]; omega)])
      have HS := Lib.hid (Sep.of_new HW.out)
      have q3 : ((n : Int) == (n : Int)) = true := by simp
      have A1 : Hid True := Lib.hid trivial
      go_wp2_with (clear A1; go_at_call 11; refine (classes_any la n lc l _ (HX.out.nw HS.out.nw) hn2 HTO.out).mono ?_; rintro e w3 ⟨v, rfl, hs⟩; obtain ⟨ca, cc, hv⟩ := rowA_form hs.hd; rw [clsL_len, HN.out] at hv; subst hv; replace HS := Lib.hid (HS.out.call hs); clear hs)
      obtain ⟨c1, j1, e1⟩ := int_ix (int_rd (HS.out.rd 0 rfl)) han
      obtain ⟨c2, j2, e2⟩ := int_ix (int_rd (HS.out.rd 0 rfl)) hbn
      obtain ⟨xx, HXX⟩ : ∃ xx, Hid ((clsL l).getD b 0 = xx) := ⟨_, Lib.hid rfl⟩
      rw [HSM.out, HXX.out] at e1
      rw [HXX.out] at e2
      have V1 : ∀ z : NewW w3, z.val.cell? c1 = some (.int .i64 xx) := fun z => e1 _ z.property
      have V2 : ∀ z : NewW w3, z.val.cell? c2 = some (.int .i64 xx) := fun z => e2 _ z.property
      have q4 : (xx == xx) = true := by simp
      clear e1 e2
      go_wp2_with fail
      have hne := newW_any w3
      refine wp_region_new (New.refl w3) (by kernel_rfl) (by kernel_rfl) ?_
      repeat (go_big_quiet_step (first | (go_at_call 10; exact quiet_new (knows_from12 _ (Subtype.property _)))))
      refine wpQuiet_nil ?_
      intro w9 hn9
      go_wp2_with fail
      go_ret
      exact ⟨rfl, HS.out.nw.trans hn9⟩
theorem refineLike_law (v0 : Value) (l : List Rw) (i k : Int) (w : World) (hr : RowsAt w v0 l) (hm : l.length ≤ maxLen) : Calls Try.prog 7 #[v0, .int .i64 i, .int .i64 k] w fun e w' => e = .returned (.bool true) ∧ New w w' := by
  obtain ⟨la, lc, rfl⟩ := Els.form hr
  exact refineLike_walk la _ lc l i k w hr hm
end Go.Proofs.Ytomclhbekmcaeaa
