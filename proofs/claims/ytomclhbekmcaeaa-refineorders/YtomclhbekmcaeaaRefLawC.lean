/-
  'RefineOrders': which things can be told apart is the same in both orders, and goes on: true, for every input.
-/
import Derived.Test.YtomclhbekmcaeaaRefGr
import Derived.Test.YtomclhbekmcaeaaRefKn
namespace Go.Proofs.Ytomclhbekmcaeaa
open Go.RowKit

theorem apB_refl (l : List Rw) (i : Int) : apB l i i = false := if_pos rfl
theorem apB_false {l : List Rw} {i k : Int} : apB l i k = false ↔ i = k ∨ ((0 ≤ i ∧ i < l.length) ∧ (0 ≤ k ∧ k < l.length) ∧ Same2 l i.toNat k.toNat) := by
  unfold apB
  by_cases h : i = k
  · simp [h]
  · rw [if_neg h]
    by_cases h2 : (0 ≤ i ∧ i < l.length) ∧ 0 ≤ k ∧ k < l.length
    · rw [if_pos h2, Bool.not_eq_false']
      constructor
      · intro e
        exact .inr ⟨h2.1, h2.2, smB_iff.mp e⟩
      · rintro (e | e)
        · exact absurd e h
        · exact smB_iff.mpr e.2.2
    · rw [if_neg h2]
      constructor
      · intro e
        cases e
      · rintro (e | e)
        · exact absurd e h
        · exact absurd ⟨e.1, e.2.1⟩ h2
theorem apB_symm (l : List Rw) (i k : Int) : apB l i k = apB l k i := by
  have : apB l i k = false ↔ apB l k i = false := by
    rw [apB_false, apB_false]
    constructor
    · rintro (e | ⟨a, b, c⟩)
      · exact .inl e.symm
      · exact .inr ⟨b, a, same_symm c⟩
    · rintro (e | ⟨a, b, c⟩)
      · exact .inl e.symm
      · exact .inr ⟨b, a, same_symm c⟩
  cases h1 : apB l i k <;> cases h2 : apB l k i <;> simp_all
theorem apB_trans (l : List Rw) (i j k : Int) (h1 : apB l i j = false) (h2 : apB l j k = false) : apB l i k = false := by
  rcases apB_false.mp h1 with rfl | ⟨a, b, c⟩
  · exact h2
  · rcases apB_false.mp h2 with rfl | ⟨d, e, f⟩
    · exact h1
    · exact apB_false.mpr (.inr ⟨a, e, same_trans c f⟩)
set_option maxHeartbeats 16000000 in
set_option maxRecDepth 100000 in
theorem refineOrders_walk (la : Option Addr) (n lc : Nat) (l : List Rw) (i j k : Int) (w : World) (hr : RowsAt w (.slice la n lc) l) (hm : n ≤ maxLen) :
    Calls Try.prog 6 #[.slice la n lc, .int .i64 i, .int .i64 j, .int .i64 k] w fun e w' => e = .returned (.bool true) ∧ New w w' := by
  have hl := Els.len hr
  have HX := Lib.hid hr
  have HN := Lib.hid hl
  have HS := Lib.hid (Sep.start w)
  clear hr hl
  by_cases hgr : n ≤ 60 ∧ ∀ x ∈ l, x.to.length ≤ 20
  case neg =>
    have HG := Lib.hid hgr
    clear hgr
    have T1 : Hid True := Lib.hid trivial
    have T2 : Hid True := Lib.hid trivial
    go_enter Try.func6, Try.ntmps6
    go_wp2_with (first
      | (clear T1; go_at_call 9; refine (great12_any la n lc l _ (HX.out.nw HS.out.nw) hm).mono ?_; rintro e w1 ⟨bb, rfl, hb, hn1⟩; obtain rfl : bb = true := (by cases bb with | true => rfl | false => exact absurd (hb.mp rfl) HG.out); replace HS := Lib.hid (HS.out.go hn1); clear hb hn1)
      | (clear T2; go_at_call 10; refine (knows_from12 _ HS.out.nw).mono ?_; rintro e wk ⟨rfl, hnk⟩))
    go_ret
    exact ⟨rfl, hnk⟩
  have HTO : Hid (∀ x ∈ l, x.to.length ≤ 10000) := Lib.hid fun x hx => Nat.le_trans (hgr.2 x hx) (by decide)
  have hn2 : n ≤ 10000 := by omega
  have HG := Lib.hid hgr
  clear hgr
  obtain ⟨a, HA⟩ : ∃ a, Hid (apB l i j = a) := ⟨_, Lib.hid rfl⟩
  obtain ⟨b, HB⟩ : ∃ b, Hid (apB l j k = b) := ⟨_, Lib.hid rfl⟩
  obtain ⟨c, HC⟩ : ∃ c, Hid (apB l i k = c) := ⟨_, Lib.hid rfl⟩
  have HII : Hid (apB l i i = false) := Lib.hid (apB_refl l i)
  have HJI : Hid (apB l j i = a) := Lib.hid (by rw [← HA.out]; exact apB_symm l j i)
  have HTR : Hid (a = false → b = false → c = false) := Lib.hid (by rw [← HA.out, ← HB.out, ← HC.out]; exact apB_trans l i j k)
  cases a with
  | true =>
    have A1 : Hid True := Lib.hid trivial
    have A2 : Hid True := Lib.hid trivial
    have A3 : Hid True := Lib.hid trivial
    have A4 : Hid True := Lib.hid trivial
    have A5 : Hid True := Lib.hid trivial
    have A6 : Hid True := Lib.hid trivial
    have A7 : Hid True := Lib.hid trivial
    go_enter Try.func6, Try.ntmps6
    go_wp2_with (first
      | (clear A1; go_at_call 9; refine (great12_any la n lc l _ (HX.out.nw HS.out.nw) hm).mono ?_; rintro e w1 ⟨bb, rfl, hb, hn1⟩; obtain rfl : bb = false := hb.mpr HG.out; replace HS := Lib.hid (HS.out.go hn1); clear hb hn1)
      | (clear A2; go_at_call 14; refine (apart_any la n lc l i j _ (HX.out.nw HS.out.nw) hn2 HTO.out).mono ?_; rw [HA.out]; rintro e w2 ⟨rfl, hn⟩; replace HS := Lib.hid (HS.out.go hn); clear hn)
      | (clear A3; go_at_call 14; refine (apart_any la n lc l j k _ (HX.out.nw HS.out.nw) hn2 HTO.out).mono ?_; rw [HB.out]; rintro e w2 ⟨rfl, hn⟩; replace HS := Lib.hid (HS.out.go hn); clear hn)
      | (clear A4; go_at_call 14; refine (apart_any la n lc l i k _ (HX.out.nw HS.out.nw) hn2 HTO.out).mono ?_; rw [HC.out]; rintro e w2 ⟨rfl, hn⟩; replace HS := Lib.hid (HS.out.go hn); clear hn)
      | (clear A5; go_at_call 14; refine (apart_any la n lc l i i _ (HX.out.nw HS.out.nw) hn2 HTO.out).mono ?_; rw [HII.out]; rintro e w2 ⟨rfl, hn⟩; replace HS := Lib.hid (HS.out.go hn); clear hn)
      | (clear A6; go_at_call 14; refine (apart_any la n lc l j i _ (HX.out.nw HS.out.nw) hn2 HTO.out).mono ?_; rw [HJI.out]; rintro e w2 ⟨rfl, hn⟩; replace HS := Lib.hid (HS.out.go hn); clear hn)
      | (clear A7; go_at_call 10; refine (knows_from12 _ HS.out.nw).mono ?_; rintro e wk ⟨rfl, hnk⟩))
    go_ret
    exact ⟨rfl, hnk⟩
  | false =>
    cases b with
    | true =>
      have B1 : Hid True := Lib.hid trivial
      have B2 : Hid True := Lib.hid trivial
      have B3 : Hid True := Lib.hid trivial
      have B4 : Hid True := Lib.hid trivial
      have B5 : Hid True := Lib.hid trivial
      have B6 : Hid True := Lib.hid trivial
      have B7 : Hid True := Lib.hid trivial
      go_enter Try.func6, Try.ntmps6
      go_wp2_with (first
        | (clear B1; go_at_call 9; refine (great12_any la n lc l _ (HX.out.nw HS.out.nw) hm).mono ?_; rintro e w1 ⟨bb, rfl, hb, hn1⟩; obtain rfl : bb = false := hb.mpr HG.out; replace HS := Lib.hid (HS.out.go hn1); clear hb hn1)
        | (clear B2; go_at_call 14; refine (apart_any la n lc l i j _ (HX.out.nw HS.out.nw) hn2 HTO.out).mono ?_; rw [HA.out]; rintro e w2 ⟨rfl, hn⟩; replace HS := Lib.hid (HS.out.go hn); clear hn)
        | (clear B3; go_at_call 14; refine (apart_any la n lc l j k _ (HX.out.nw HS.out.nw) hn2 HTO.out).mono ?_; rw [HB.out]; rintro e w2 ⟨rfl, hn⟩; replace HS := Lib.hid (HS.out.go hn); clear hn)
        | (clear B4; go_at_call 14; refine (apart_any la n lc l i k _ (HX.out.nw HS.out.nw) hn2 HTO.out).mono ?_; rw [HC.out]; rintro e w2 ⟨rfl, hn⟩; replace HS := Lib.hid (HS.out.go hn); clear hn)
        | (clear B5; go_at_call 14; refine (apart_any la n lc l i i _ (HX.out.nw HS.out.nw) hn2 HTO.out).mono ?_; rw [HII.out]; rintro e w2 ⟨rfl, hn⟩; replace HS := Lib.hid (HS.out.go hn); clear hn)
        | (clear B6; go_at_call 14; refine (apart_any la n lc l j i _ (HX.out.nw HS.out.nw) hn2 HTO.out).mono ?_; rw [HJI.out]; rintro e w2 ⟨rfl, hn⟩; replace HS := Lib.hid (HS.out.go hn); clear hn)
        | (clear B7; go_at_call 10; refine (knows_from12 _ HS.out.nw).mono ?_; rintro e wk ⟨rfl, hnk⟩))
      go_ret
      exact ⟨rfl, hnk⟩
    | false =>
      obtain rfl : c = false := HTR.out rfl rfl
      have C1 : Hid True := Lib.hid trivial
      have C2 : Hid True := Lib.hid trivial
      have C3 : Hid True := Lib.hid trivial
      have C4 : Hid True := Lib.hid trivial
      have C5 : Hid True := Lib.hid trivial
      have C6 : Hid True := Lib.hid trivial
      have C7 : Hid True := Lib.hid trivial
      go_enter Try.func6, Try.ntmps6
      go_wp2_with (first
        | (clear C1; go_at_call 9; refine (great12_any la n lc l _ (HX.out.nw HS.out.nw) hm).mono ?_; rintro e w1 ⟨bb, rfl, hb, hn1⟩; obtain rfl : bb = false := hb.mpr HG.out; replace HS := Lib.hid (HS.out.go hn1); clear hb hn1)
        | (clear C2; go_at_call 14; refine (apart_any la n lc l i j _ (HX.out.nw HS.out.nw) hn2 HTO.out).mono ?_; rw [HA.out]; rintro e w2 ⟨rfl, hn⟩; replace HS := Lib.hid (HS.out.go hn); clear hn)
        | (clear C3; go_at_call 14; refine (apart_any la n lc l j k _ (HX.out.nw HS.out.nw) hn2 HTO.out).mono ?_; rw [HB.out]; rintro e w2 ⟨rfl, hn⟩; replace HS := Lib.hid (HS.out.go hn); clear hn)
        | (clear C4; go_at_call 14; refine (apart_any la n lc l i k _ (HX.out.nw HS.out.nw) hn2 HTO.out).mono ?_; rw [HC.out]; rintro e w2 ⟨rfl, hn⟩; replace HS := Lib.hid (HS.out.go hn); clear hn)
        | (clear C5; go_at_call 14; refine (apart_any la n lc l i i _ (HX.out.nw HS.out.nw) hn2 HTO.out).mono ?_; rw [HII.out]; rintro e w2 ⟨rfl, hn⟩; replace HS := Lib.hid (HS.out.go hn); clear hn)
        | (clear C6; go_at_call 14; refine (apart_any la n lc l j i _ (HX.out.nw HS.out.nw) hn2 HTO.out).mono ?_; rw [HJI.out]; rintro e w2 ⟨rfl, hn⟩; replace HS := Lib.hid (HS.out.go hn); clear hn)
        | (clear C7; go_at_call 10; refine (knows_from12 _ HS.out.nw).mono ?_; rintro e wk ⟨rfl, hnk⟩))
      go_ret
      exact ⟨rfl, hnk⟩
theorem refineOrders_law (v0 : Value) (l : List Rw) (i j k : Int) (w : World) (hr : RowsAt w v0 l) (hm : l.length ≤ maxLen) : Calls Try.prog 6 #[v0, .int .i64 i, .int .i64 j, .int .i64 k] w fun e w' => e = .returned (.bool true) ∧ New w w' := by
  obtain ⟨la, lc, rfl⟩ := Els.form hr
  exact refineOrders_walk la _ lc l i j k w hr hm
end Go.Proofs.Ytomclhbekmcaeaa
