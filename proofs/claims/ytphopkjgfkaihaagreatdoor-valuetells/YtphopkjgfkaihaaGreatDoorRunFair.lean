/-
  The reference's Right and Fair of a case: what layers 8 and 11 use.
-/
import Derived.Test.YtphopkjgfkaihaaGreatDoorRunBegin
import Derived.Test.YtphopkjgfkaihaaGreatDoorRefAsmA
namespace Go.Proofs.YtphopkjgfkaihaaGreatDoor
open Go.RowKit

set_option maxHeartbeats 16000000 in
theorem rRight_any (rs : Nat → Int) (h a : Sl) (n : Int) (w : World) :
    Calls Tryz.prog 49 #[.agg (caC rs h a n).toArray] w fun e w' => e = .returned (.bool (caseN h.n a.n n)) ∧ New w w' := by
  obtain ⟨ho, hn, hc⟩ := h
  obtain ⟨ao, an, ac⟩ := a
  obtain ⟨b, HB⟩ : ∃ b, Hid (caseN hn an n = b) := ⟨_, Lib.hid rfl⟩
  rw [HB.out]
  by_cases c1 : (hn : Int) ≤ 16
  · by_cases c2 : (an : Int) ≤ 5000
    · by_cases c3 : 0 ≤ n
      · by_cases c4 : n ≤ 5000
        · have e : true = b := by rw [← HB.out]; exact (decide_eq_true ⟨by omega, by omega, c3, c4⟩).symm
          subst e
          have T1 : Hid True := Lib.hid trivial
          go_enter Tryz.func49, Tryz.ntmps49
          go_wp2_with (first
            | (clear T1; refine wpList_boxX rfl 69 (.tmp 0) rfl (caC rs ⟨ho, hn, hc⟩ ⟨ao, an, ac⟩ n) rfl ?_; intro w1 g1 hg1 hl1 H1 hn1; have k1 := HasK.hp H1; have k2 := HasK.an H1; have k3 := HasK.fuel H1; have HS := Lib.hid H1; clear H1))
          go_ret
          exact ⟨ret_bool rfl, hn1⟩
        · have e : false = b := by rw [← HB.out]; exact (decide_eq_false (by omega)).symm
          subst e
          have T1 : Hid True := Lib.hid trivial
          go_enter Tryz.func49, Tryz.ntmps49
          go_wp2_with (first
            | (clear T1; refine wpList_boxX rfl 69 (.tmp 0) rfl (caC rs ⟨ho, hn, hc⟩ ⟨ao, an, ac⟩ n) rfl ?_; intro w1 g1 hg1 hl1 H1 hn1; have k1 := HasK.hp H1; have k2 := HasK.an H1; have k3 := HasK.fuel H1; have HS := Lib.hid H1; clear H1))
          go_ret
          exact ⟨ret_bool rfl, hn1⟩
      · have e : false = b := by rw [← HB.out]; exact (decide_eq_false (by omega)).symm
        subst e
        have T1 : Hid True := Lib.hid trivial
        go_enter Tryz.func49, Tryz.ntmps49
        go_wp2_with (first
          | (clear T1; refine wpList_boxX rfl 69 (.tmp 0) rfl (caC rs ⟨ho, hn, hc⟩ ⟨ao, an, ac⟩ n) rfl ?_; intro w1 g1 hg1 hl1 H1 hn1; have k1 := HasK.hp H1; have k2 := HasK.an H1; have k3 := HasK.fuel H1; have HS := Lib.hid H1; clear H1))
        go_ret
        exact ⟨ret_bool rfl, hn1⟩
    · have e : false = b := by rw [← HB.out]; exact (decide_eq_false (by omega)).symm
      subst e
      have T1 : Hid True := Lib.hid trivial
      go_enter Tryz.func49, Tryz.ntmps49
      go_wp2_with (first
        | (clear T1; refine wpList_boxX rfl 69 (.tmp 0) rfl (caC rs ⟨ho, hn, hc⟩ ⟨ao, an, ac⟩ n) rfl ?_; intro w1 g1 hg1 hl1 H1 hn1; have k1 := HasK.hp H1; have k2 := HasK.an H1; have k3 := HasK.fuel H1; have HS := Lib.hid H1; clear H1))
      go_ret
      exact ⟨ret_bool rfl, hn1⟩
  · have e : false = b := by rw [← HB.out]; exact (decide_eq_false (by omega)).symm
    subst e
    have T1 : Hid True := Lib.hid trivial
    go_enter Tryz.func49, Tryz.ntmps49
    go_wp2_with (first
      | (clear T1; refine wpList_boxX rfl 69 (.tmp 0) rfl (caC rs ⟨ho, hn, hc⟩ ⟨ao, an, ac⟩ n) rfl ?_; intro w1 g1 hg1 hl1 H1 hn1; have k1 := HasK.hp H1; have k2 := HasK.an H1; have k3 := HasK.fuel H1; have HS := Lib.hid H1; clear H1))
    go_ret
    exact ⟨ret_bool rfl, hn1⟩
/-- May it be run? -/
def fairB (f : List I) (zs az : List Int) (n : Int) : Bool := ((chkF f).2 == 0) && caseN zs.length az.length n
theorem fair_iff {f : List I} {zs az : List Int} {n : Int} : fairB f zs az n = true ↔ (chkF f).2 = 0 ∧ zs.length ≤ 16 ∧ az.length ≤ 5000 ∧ 0 ≤ n ∧ n ≤ 5000 := by
  unfold fairB caseN
  rw [Bool.and_eq_true, decide_eq_true_iff, beq_iff_eq]
set_option maxHeartbeats 2000000 in
theorem fair_in (fo : Option Addr) (fn fc : Nat) (f : List I) (rs : Nat → Int) (h a : Sl) (n : Int) (zs az : List Int) (w : World) (hf : FunAt w (.slice fo fn fc) f) (hh : h.n = zs.length) (ha : a.n = az.length) :
    Calls Tryz.prog 24 #[.slice fo fn fc, .agg (caC rs h a n).toArray] w fun e w' => e = .returned (.bool (fairB f zs az n)) ∧ New w w' := by
  have HF := Lib.hid hf
  have HC : Hid (caseN h.n a.n n = caseN zs.length az.length n) := Lib.hid (by rw [hh, ha])
  clear hf hh ha
  have T1 : Hid True := Lib.hid trivial
  have T2 : Hid True := Lib.hid trivial
  cases q1 : ((chkF f).2 == 0) with
  | true =>
    have HB : Hid (fairB f zs az n = caseN zs.length az.length n) := Lib.hid (by unfold fairB; rw [q1, Bool.true_and])
    go_enter Tryz.func24, Tryz.ntmps24
    go_wp2_with (first
      | (go_at_call 10; refine (rasmRight_any _ f _ (HF.out.new hn1)).mono ?_; rw [q1]; rintro e w2 ⟨rfl, hn2⟩; replace HK : Hid (HasK w2 g3 rs h a n) := Lib.hid (HasC.new HK.out hn2))
      | (go_at_call 49; refine (rRight_any rs h a n _).mono ?_; rw [HC.out]; rintro e w3 ⟨rfl, hn3⟩)
      | (clear T1; refine wpList_boxX rfl 69 (.tmp 1) rfl (caC rs h a n) rfl ?_; intro w1 g3 hg1 hl1 H1 hn1; have HK : Hid (HasK w1 g3 rs h a n) := Lib.hid H1; clear H1)
      | (clear T2; refine wpList_ldK (by rfl) (.tmp 3) rfl g3 rfl HK.out ?_))
    go_ret
    exact ⟨ret_bool HB.out.symm, (hn1.trans hn2).trans hn3⟩
  | false =>
    have HB : Hid (fairB f zs az n = false) := Lib.hid (by unfold fairB; rw [q1, Bool.false_and])
    clear T2
    go_enter Tryz.func24, Tryz.ntmps24
    go_wp2_with (first
      | (go_at_call 10; refine (rasmRight_any _ f _ (HF.out.new hn1)).mono ?_; rw [q1]; rintro e w2 ⟨rfl, hn2⟩)
      | (clear T1; refine wpList_boxX rfl 69 (.tmp 1) rfl (caC rs h a n) rfl ?_; intro w1 g3 hg1 hl1 H1 hn1; have HK : Hid (HasK w1 g3 rs h a n) := Lib.hid H1; clear H1))
    go_ret
    exact ⟨ret_bool HB.out.symm, hn1.trans hn2⟩
theorem fair_is {w0 : World} {v : Value} {f : List I} {rs : Nat → Int} {h a : Sl} {n : Int} {zs az : List Int} {w : World} (_h : New w0 w) (hf : FunAt w v f) (hh : Hp w (svS h) zs) (ha : Hp w (svS a) az) {b : Bool} (hb : fairB f zs az n = b) :
    Calls Tryz.prog 24 #[v, .agg (caC rs h a n).toArray] w fun e w' => e = .returned (.bool b) ∧ New w w' := by
  obtain ⟨ao, cap, rfl⟩ := hf.form
  have := fair_in ao f.length cap f rs h a n zs az w hf (Hp.len hh) (Hp.len ha)
  rw [hb] at this
  exact this
end Go.Proofs.YtphopkjgfkaihaaGreatDoor
