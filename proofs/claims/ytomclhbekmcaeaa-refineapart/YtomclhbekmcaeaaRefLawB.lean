/-
  'RefineApart': which two things can be told apart is what the document says: true, for every input.
-/
import Derived.Test.YtomclhbekmcaeaaRefGr
import Derived.Test.YtomclhbekmcaeaaRefKn
import Derived.Test.YtomclhbekmcaeaaRefF
namespace Go.Proofs.Ytomclhbekmcaeaa
open Go.RowKit

theorem apB_false' {l : List Rw} {i k : Int} : apB l i k = false ↔ i = k ∨ apB l i k = false := ⟨.inr, fun h => h.elim (fun e => if_pos e) id⟩
set_option maxHeartbeats 16000000 in
set_option maxRecDepth 100000 in
theorem refineApart_walk (la : Option Addr) (n lc : Nat) (l : List Rw) (i k : Int) (w : World) (hr : RowsAt w (.slice la n lc) l) (hm : n ≤ maxLen) :
    Calls Try.prog 4 #[.slice la n lc, .int .i64 i, .int .i64 k] w fun e w' => e = .returned (.bool true) ∧ New w w' := by
  have hl := Els.len hr
  have HX := Lib.hid hr
  have HN := Lib.hid hl
  have HS := Lib.hid (Sep.start w)
  clear hr hl
  by_cases hgr : n ≤ 60 ∧ ∀ x ∈ l, x.to.length ≤ 20
  case neg =>
    have HG := Lib.hid hgr
    clear hgr
    have T1 : Hid True := Lib.hid trivial
    have T2 : Hid True := Lib.hid trivial
    go_enter Try.func4, Try.ntmps4
    go_wp2_with (first
      | (clear T1; go_at_call 9; refine (great12_any la n lc l _ (HX.out.nw HS.out.nw) hm).mono ?_; rintro e w1 ⟨bb, rfl, hb, hn1⟩; obtain rfl : bb = true := (by cases bb with | true => rfl | false => exact absurd (hb.mp rfl) HG.out); replace HS := Lib.hid (HS.out.go hn1); clear hb hn1)
      | (clear T2; go_at_call 10; refine (knows_from12 _ HS.out.nw).mono ?_; rintro e wk ⟨rfl, hnk⟩))
    go_ret
    exact ⟨rfl, hnk⟩
  have HTO : Hid (∀ x ∈ l, x.to.length ≤ 10000) := Lib.hid fun x hx => Nat.le_trans (hgr.2 x hx) (by decide)
  have hn2 : n ≤ 10000 := by omega
  have HG := Lib.hid hgr
  clear hgr
  by_cases h1 : i < 0
  · have d1 : decide (i < 0) = true := decide_eq_true h1
    by_cases hik : i = k
    · have HAP : Hid (apB l i k = false) := Lib.hid (apB_false'.mpr (.inl hik))
      have q0 : (i != k) = false := by simp [hik]
      clear hik
      have A1 : Hid True := Lib.hid trivial
      have A2 : Hid True := Lib.hid trivial
      have A3 : Hid True := Lib.hid trivial
      go_enter Try.func4, Try.ntmps4
      go_wp2_with (first
        | (clear A1; go_at_call 9; refine (great12_any la n lc l _ (HX.out.nw HS.out.nw) hm).mono ?_; rintro e w1 ⟨bb, rfl, hb, hn1⟩; obtain rfl : bb = false := hb.mpr HG.out; replace HS := Lib.hid (HS.out.go hn1); clear hb hn1)
        | (clear A2; go_at_call 14; refine (apart_any la n lc l i k _ (HX.out.nw HS.out.nw) hn2 HTO.out).mono ?_; rw [HAP.out]; rintro e w2 ⟨rfl, hn⟩; replace HS := Lib.hid (HS.out.go hn); clear hn)
        | (clear A3; go_at_call 10; refine (knows_from12 _ HS.out.nw).mono ?_; rintro e wk ⟨rfl, hnk⟩))
      go_ret
      exact ⟨rfl, hnk⟩
    · have HAP : Hid (apB l i k = true) := Lib.hid (by unfold apB; rw [if_neg hik, HN.out, if_neg (by rintro ⟨⟨u1, u2⟩, u3, u4⟩; exact absurd h1 (by omega))])
      have q0 : (i != k) = true := by simp [hik]
      clear hik
      have An1 : Hid True := Lib.hid trivial
      have An2 : Hid True := Lib.hid trivial
      have An3 : Hid True := Lib.hid trivial
      go_enter Try.func4, Try.ntmps4
      go_wp2_with (first
        | (clear An1; go_at_call 9; refine (great12_any la n lc l _ (HX.out.nw HS.out.nw) hm).mono ?_; rintro e w1 ⟨bb, rfl, hb, hn1⟩; obtain rfl : bb = false := hb.mpr HG.out; replace HS := Lib.hid (HS.out.go hn1); clear hb hn1)
        | (clear An2; go_at_call 14; refine (apart_any la n lc l i k _ (HX.out.nw HS.out.nw) hn2 HTO.out).mono ?_; rw [HAP.out]; rintro e w2 ⟨rfl, hn⟩; replace HS := Lib.hid (HS.out.go hn); clear hn)
        | (clear An3; go_at_call 10; refine (knows_from12 _ HS.out.nw).mono ?_; rintro e wk ⟨rfl, hnk⟩))
      go_ret
      exact ⟨rfl, hnk⟩
  have d1 : decide (i < 0) = false := decide_eq_false h1
  by_cases h2 : k < 0
  · have d2 : decide (k < 0) = true := decide_eq_true h2
    by_cases hik : i = k
    · have HAP : Hid (apB l i k = false) := Lib.hid (apB_false'.mpr (.inl hik))
      have q0 : (i != k) = false := by simp [hik]
      clear hik
      have B1 : Hid True := Lib.hid trivial
      have B2 : Hid True := Lib.hid trivial
      have B3 : Hid True := Lib.hid trivial
      go_enter Try.func4, Try.ntmps4
      go_wp2_with (first
        | (clear B1; go_at_call 9; refine (great12_any la n lc l _ (HX.out.nw HS.out.nw) hm).mono ?_; rintro e w1 ⟨bb, rfl, hb, hn1⟩; obtain rfl : bb = false := hb.mpr HG.out; replace HS := Lib.hid (HS.out.go hn1); clear hb hn1)
        | (clear B2; go_at_call 14; refine (apart_any la n lc l i k _ (HX.out.nw HS.out.nw) hn2 HTO.out).mono ?_; rw [HAP.out]; rintro e w2 ⟨rfl, hn⟩; replace HS := Lib.hid (HS.out.go hn); clear hn)
        | (clear B3; go_at_call 10; refine (knows_from12 _ HS.out.nw).mono ?_; rintro e wk ⟨rfl, hnk⟩))
      go_ret
      exact ⟨rfl, hnk⟩
    · have HAP : Hid (apB l i k = true) := Lib.hid (by unfold apB; rw [if_neg hik, HN.out, if_neg (by rintro ⟨⟨u1, u2⟩, u3, u4⟩; exact absurd h2 (by omega))])
      have q0 : (i != k) = true := by simp [hik]
      clear hik
      have Bn1 : Hid True := Lib.hid trivial
      have Bn2 : Hid True := Lib.hid trivial
      have Bn3 : Hid True := Lib.hid trivial
      go_enter Try.func4, Try.ntmps4
      go_wp2_with (first
        | (clear Bn1; go_at_call 9; refine (great12_any la n lc l _ (HX.out.nw HS.out.nw) hm).mono ?_; rintro e w1 ⟨bb, rfl, hb, hn1⟩; obtain rfl : bb = false := hb.mpr HG.out; replace HS := Lib.hid (HS.out.go hn1); clear hb hn1)
        | (clear Bn2; go_at_call 14; refine (apart_any la n lc l i k _ (HX.out.nw HS.out.nw) hn2 HTO.out).mono ?_; rw [HAP.out]; rintro e w2 ⟨rfl, hn⟩; replace HS := Lib.hid (HS.out.go hn); clear hn)
        | (clear Bn3; go_at_call 10; refine (knows_from12 _ HS.out.nw).mono ?_; rintro e wk ⟨rfl, hnk⟩))
      go_ret
      exact ⟨rfl, hnk⟩
  have d2 : decide (k < 0) = false := decide_eq_false h2
  by_cases h3 : (n : Int) ≤ i
  · have d3 : decide ((n : Int) ≤ i) = true := decide_eq_true h3
    by_cases hik : i = k
    · have HAP : Hid (apB l i k = false) := Lib.hid (apB_false'.mpr (.inl hik))
      have q0 : (i != k) = false := by simp [hik]
      clear hik
      have C1 : Hid True := Lib.hid trivial
      have C2 : Hid True := Lib.hid trivial
      have C3 : Hid True := Lib.hid trivial
      go_enter Try.func4, Try.ntmps4
      go_wp2_with (first
        | (clear C1; go_at_call 9; refine (great12_any la n lc l _ (HX.out.nw HS.out.nw) hm).mono ?_; rintro e w1 ⟨bb, rfl, hb, hn1⟩; obtain rfl : bb = false := hb.mpr HG.out; replace HS := Lib.hid (HS.out.go hn1); clear hb hn1)
        | (clear C2; go_at_call 14; refine (apart_any la n lc l i k _ (HX.out.nw HS.out.nw) hn2 HTO.out).mono ?_; rw [HAP.out]; rintro e w2 ⟨rfl, hn⟩; replace HS := Lib.hid (HS.out.go hn); clear hn)
        | (clear C3; go_at_call 10; refine (knows_from12 _ HS.out.nw).mono ?_; rintro e wk ⟨rfl, hnk⟩))
      go_ret
      exact ⟨rfl, hnk⟩
    · have HAP : Hid (apB l i k = true) := Lib.hid (by unfold apB; rw [if_neg hik, HN.out, if_neg (by rintro ⟨⟨u1, u2⟩, u3, u4⟩; exact absurd h3 (by omega))])
      have q0 : (i != k) = true := by simp [hik]
      clear hik
      have Cn1 : Hid True := Lib.hid trivial
      have Cn2 : Hid True := Lib.hid trivial
      have Cn3 : Hid True := Lib.hid trivial
      go_enter Try.func4, Try.ntmps4
      go_wp2_with (first
        | (clear Cn1; go_at_call 9; refine (great12_any la n lc l _ (HX.out.nw HS.out.nw) hm).mono ?_; rintro e w1 ⟨bb, rfl, hb, hn1⟩; obtain rfl : bb = false := hb.mpr HG.out; replace HS := Lib.hid (HS.out.go hn1); clear hb hn1)
        | (clear Cn2; go_at_call 14; refine (apart_any la n lc l i k _ (HX.out.nw HS.out.nw) hn2 HTO.out).mono ?_; rw [HAP.out]; rintro e w2 ⟨rfl, hn⟩; replace HS := Lib.hid (HS.out.go hn); clear hn)
        | (clear Cn3; go_at_call 10; refine (knows_from12 _ HS.out.nw).mono ?_; rintro e wk ⟨rfl, hnk⟩))
      go_ret
      exact ⟨rfl, hnk⟩
  have d3 : decide ((n : Int) ≤ i) = false := decide_eq_false h3
  by_cases h4 : (n : Int) ≤ k
  · have d4 : decide ((n : Int) ≤ k) = true := decide_eq_true h4
    by_cases hik : i = k
    · have HAP : Hid (apB l i k = false) := Lib.hid (apB_false'.mpr (.inl hik))
      have q0 : (i != k) = false := by simp [hik]
      clear hik
      have D1 : Hid True := Lib.hid trivial
      have D2 : Hid True := Lib.hid trivial
      have D3 : Hid True := Lib.hid trivial
      go_enter Try.func4, Try.ntmps4
      go_wp2_with (first
        | (clear D1; go_at_call 9; refine (great12_any la n lc l _ (HX.out.nw HS.out.nw) hm).mono ?_; rintro e w1 ⟨bb, rfl, hb, hn1⟩; obtain rfl : bb = false := hb.mpr HG.out; replace HS := Lib.hid (HS.out.go hn1); clear hb hn1)
        | (clear D2; go_at_call 14; refine (apart_any la n lc l i k _ (HX.out.nw HS.out.nw) hn2 HTO.out).mono ?_; rw [HAP.out]; rintro e w2 ⟨rfl, hn⟩; replace HS := Lib.hid (HS.out.go hn); clear hn)
        | (clear D3; go_at_call 10; refine (knows_from12 _ HS.out.nw).mono ?_; rintro e wk ⟨rfl, hnk⟩))
      go_ret
      exact ⟨rfl, hnk⟩
    · have HAP : Hid (apB l i k = true) := Lib.hid (by unfold apB; rw [if_neg hik, HN.out, if_neg (by rintro ⟨⟨u1, u2⟩, u3, u4⟩; exact absurd h4 (by omega))])
      have q0 : (i != k) = true := by simp [hik]
      clear hik
      have Dn1 : Hid True := Lib.hid trivial
      have Dn2 : Hid True := Lib.hid trivial
      have Dn3 : Hid True := Lib.hid trivial
      go_enter Try.func4, Try.ntmps4
      go_wp2_with (first
        | (clear Dn1; go_at_call 9; refine (great12_any la n lc l _ (HX.out.nw HS.out.nw) hm).mono ?_; rintro e w1 ⟨bb, rfl, hb, hn1⟩; obtain rfl : bb = false := hb.mpr HG.out; replace HS := Lib.hid (HS.out.go hn1); clear hb hn1)
        | (clear Dn2; go_at_call 14; refine (apart_any la n lc l i k _ (HX.out.nw HS.out.nw) hn2 HTO.out).mono ?_; rw [HAP.out]; rintro e w2 ⟨rfl, hn⟩; replace HS := Lib.hid (HS.out.go hn); clear hn)
        | (clear Dn3; go_at_call 10; refine (knows_from12 _ HS.out.nw).mono ?_; rintro e wk ⟨rfl, hnk⟩))
      go_ret
      exact ⟨rfl, hnk⟩
  have d4 : decide ((n : Int) ≤ k) = false := decide_eq_false h4
  obtain ⟨a, rfl⟩ : ∃ a : Nat, i = (a : Int) := ⟨i.toNat, by omega⟩
  obtain ⟨b, rfl⟩ : ∃ b : Nat, k = (b : Int) := ⟨k.toNat, by omega⟩
  have han : a < n := by omega
  have hbn : b < n := by omega
  obtain ⟨q, HAP⟩ : ∃ q, Hid (apB l a b = q) := ⟨_, Lib.hid rfl⟩
  have HQ2 : Hid ((!smB l a b) = q) := Lib.hid (by
    rw [← HAP.out]
    unfold apB
    by_cases e : (a : Int) = (b : Int)
    · have e2 : a = b := by omega
      subst e2
      rw [if_pos rfl, smB_iff.mpr (same_refl (by rw [HN.out]; exact han))]
      rfl
    · rw [if_neg e, HN.out, if_pos ⟨⟨by omega, by omega⟩, by omega, by omega⟩, Int.toNat_natCast, Int.toNat_natCast])
  have qq : (q == q) = true := by simp
  clear h1 h2 h3 h4
  have T1 : Hid True := Lib.hid trivial
  have T2 : Hid True := Lib.hid trivial
  have T3 : Hid True := Lib.hid trivial
  have T4 : Hid True := Lib.hid trivial
  have T5 : Hid True := Lib.hid trivial
  go_enter Try.func4, Try.ntmps4
  go_wp2_with (first
    | (clear T1; go_at_call 9; refine (great12_any la n lc l _ (HX.out.nw HS.out.nw) hm).mono ?_; rintro e w1 ⟨bb, rfl, hb, hn1⟩; obtain rfl : bb = false := hb.mpr HG.out; replace HS := Lib.hid (HS.out.go hn1); clear hb hn1)
    | (clear T2; go_at_call 14; refine (apart_any la n lc l a b _ (HX.out.nw HS.out.nw) hn2 HTO.out).mono ?_; rw [HAP.out]; rintro e w2 ⟨rfl, hn⟩; replace HS := Lib.hid (HS.out.go hn); clear hn)
    | (clear T3; go_at_call 13; refine (asRows_any la n lc l _ (HX.out.nw HS.out.nw) hn2 HTO.out).mono ?_; rintro e w4 ⟨v, rfl, hs⟩; obtain ⟨qa, qc, hv⟩ := rowA_form hs.hd; rw [HN.out] at hv; subst hv; have HQ := Lib.hid (rows_rd hs.hd); replace HS := Lib.hid (HS.out.call hs); clear hs)
    | (clear T4; go_at_call 15; refine (table_any qa n qc l _ HQ.out hn2 HTO.out).mono ?_; rintro e w5 ⟨v, rfl, hs⟩; obtain ⟨ta, tc, hv⟩ := rowA_form hs.hd; rw [tabG_len] at hv; subst hv; obtain ⟨c1, p1, xa, xc, c2, p2, i5, r5, i6, r6⟩ := tabG_ix hs.hd han hbn; rw [HQ2.out] at r6; have y5 := r5 _ (New.refl _); have y6 := r6 _ (New.refl _); replace HS := Lib.hid (HS.out.call hs); clear hs r5 r6)
    | (clear T5; go_at_call 10; refine (knows_from12 _ HS.out.nw).mono ?_; rintro e wk ⟨rfl, hnk⟩))
  go_ret
  exact ⟨rfl, hnk⟩
theorem refineApart_law (v0 : Value) (l : List Rw) (i k : Int) (w : World) (hr : RowsAt w v0 l) (hm : l.length ≤ maxLen) : Calls Try.prog 4 #[v0, .int .i64 i, .int .i64 k] w fun e w' => e = .returned (.bool true) ∧ New w w' := by
  obtain ⟨la, lc, rfl⟩ := Els.form hr
  exact refineApart_walk la _ lc l i k w hr hm
end Go.Proofs.Ytomclhbekmcaeaa
