/-
  'RefineClasses': the classes of things are those that the document says: true, for every input.
-/
import Derived.Test.YtomclhbekmcaeaaRefGr
import Derived.Test.YtomclhbekmcaeaaRefKn
import Derived.Test.YtomclhbekmcaeaaRefCls
namespace Go.Proofs.Ytomclhbekmcaeaa
open Go.RowKit

set_option maxHeartbeats 16000000 in
set_option maxRecDepth 100000 in
theorem refineClasses_walk (la : Option Addr) (n lc : Nat) (l : List Rw) (w : World) (hr : RowsAt w (.slice la n lc) l) (hm : n ≤ maxLen) :
    Calls Try.prog 3 #[.slice la n lc] w fun e w' => e = .returned (.bool true) ∧ New w w' := by
  have hl := Els.len hr
  have HX := Lib.hid hr
  have HN := Lib.hid hl
  have HS := Lib.hid (Sep.start w)
  clear hr hl
  by_cases hgr : n ≤ 60 ∧ ∀ x ∈ l, x.to.length ≤ 20
  case neg =>
    have HG := Lib.hid hgr
    clear hgr
    have T1 : Hid True := Lib.hid trivial
    have T2 : Hid True := Lib.hid trivial
    go_enter Try.func3, Try.ntmps3
    go_wp2_with (first
      | (clear T1; go_at_call 9; refine (great12_any la n lc l _ (HX.out.nw HS.out.nw) hm).mono ?_; rintro e w1 ⟨bb, rfl, hb, hn1⟩; obtain rfl : bb = true := (by cases bb with | true => rfl | false => exact absurd (hb.mp rfl) HG.out); replace HS := Lib.hid (HS.out.go hn1); clear hb hn1)
      | (clear T2; go_at_call 10; refine (knows_from12 _ HS.out.nw).mono ?_; rintro e wk ⟨rfl, hnk⟩))
    go_ret
    exact ⟨rfl, hnk⟩
  have HTO : Hid (∀ x ∈ l, x.to.length ≤ 10000) := Lib.hid fun x hx => Nat.le_trans (hgr.2 x hx) (by decide)
  have hn2 : n ≤ 10000 := by omega
  have HG := Lib.hid hgr
  clear hgr
  have q0 : ((n : Int) != (n : Int)) = false := by simp
  have T1 : Hid True := Lib.hid trivial
  have T2 : Hid True := Lib.hid trivial
  have T3 : Hid True := Lib.hid trivial
  have T4 : Hid True := Lib.hid trivial
  go_enter Try.func3, Try.ntmps3
  go_wp2_with (first
    | (clear T1; go_at_call 9; refine (great12_any la n lc l _ (HX.out.nw HS.out.nw) hm).mono ?_; rintro e w1 ⟨bb, rfl, hb, hn1⟩; obtain rfl : bb = false := hb.mpr HG.out; replace HS := Lib.hid (HS.out.go hn1); clear hb hn1)
    | (clear T2; go_at_call 11; refine (classes_any la n lc l _ (HX.out.nw HS.out.nw) hn2 HTO.out).mono ?_; rintro e w3 ⟨v, rfl, hs⟩; obtain ⟨ca, cc, hv⟩ := rowA_form hs.hd; rw [clsL_len, HN.out] at hv; subst hv; replace HS := Lib.hid (HS.out.call hs); clear hs)
    | (clear T3; go_at_call 13; refine (asRows_any la n lc l _ (HX.out.nw HS.out.nw) hn2 HTO.out).mono ?_; rintro e w4 ⟨v, rfl, hs⟩; obtain ⟨qa, qc, hv⟩ := rowA_form hs.hd; rw [HN.out] at hv; subst hv; have HQ := Lib.hid (rows_rd hs.hd); replace HS := Lib.hid (HS.out.call hs); clear hs)
    | (clear T4; go_at_call 12; refine (refClasses_any qa n qc l _ HQ.out hn2 HTO.out).mono ?_; rintro e w5 ⟨v, rfl, hs⟩; obtain ⟨da, dc, hv⟩ := rowA_form hs.hd; rw [clsL_len, HN.out] at hv; subst hv; replace HS := Lib.hid (HS.out.call hs); clear hs))
  have HA := Lib.hid (int_rd (HS.out.rd 2 rfl))
  have HB := Lib.hid (int_rd (HS.out.rd 0 rfl))
  have N5 := Lib.hid HS.out.nw
  clear HS
  go_loopw [5] (fun kv wr => ∃ k : Nat, kv = .int .i64 (k : Int) ∧ k ≤ n ∧ Hid (New w5 wr)) (fun kv _ => n - (intOf kv).toNat)
  case atStart => exact ⟨0, rfl, by omega, Lib.hid (New.refl _)⟩
  case round =>
    obtain ⟨k, rfl, hk, HW⟩ := hrel
    by_cases hkn : k < n
    · obtain ⟨a1, i1, c1⟩ := int_ix HA.out hkn
      obtain ⟨a2, i2, c2⟩ := int_ix HB.out hkn
      obtain ⟨x, HXX⟩ : ∃ x, Hid ((clsL l).getD k 0 = x) := ⟨_, Lib.hid rfl⟩
      rw [HXX.out] at c1 c2
      have V1 : ∀ z : NewW wr, z.val.cell? a1 = some (.int .i64 x) := fun z => c1 _ (HW.out.trans z.property)
      have V2 : ∀ z : NewW wr, z.val.cell? a2 = some (.int .i64 x) := fun z => c2 _ (HW.out.trans z.property)
      have q1 : (x != x) = false := by simp
      clear c1 c2
      go_wp2_with fail
      have hne := newW_any wr
      refine wp_region_new (New.refl wr) (by kernel_rfl) (by kernel_rfl) ?_
      repeat (go_big_quiet_step (fail))
      refine wpQuiet_nil ?_
      intro w6 hn6
      go_wp2_with fail
      go_roundw
      case rel => exact ⟨k + 1, by go_num, by omega, Lib.hid (HW.out.trans hn6)⟩
      case measure => simp [intOf]; omega
    · have HZ := Lib.hid (N5.out.trans HW.out)
      go_wp2_with (go_at_call 10; refine (knows_from12 _ HZ.out).mono ?_; rintro e wk ⟨rfl, hnk⟩)
      go_ret
      exact ⟨rfl, hnk⟩
theorem refineClasses_law (v0 : Value) (l : List Rw) (w : World) (hr : RowsAt w v0 l) (hm : l.length ≤ maxLen) : Calls Try.prog 3 #[v0] w fun e w' => e = .returned (.bool true) ∧ New w w' := by
  obtain ⟨la, lc, rfl⟩ := Els.form hr
  exact refineClasses_walk la _ lc l w hr hm
end Go.Proofs.Ytomclhbekmcaeaa
