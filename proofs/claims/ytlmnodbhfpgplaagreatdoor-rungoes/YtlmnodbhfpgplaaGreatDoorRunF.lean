/-
  What layer 8's laws use: Run with its answers as parameters; the law's Great, the reference's Right and Fair.
-/
import Derived.Test.YtlmnodbhfpgplaaGreatDoorRunD
import Derived.Test.YtlmnodbhfpgplaaGreatDoorStepH
import Derived.Test.YtlmnodbhfpgplaaGreatDoorRefAsmA
namespace Go.Proofs.YtlmnodbhfpgplaaGreatDoor
open Go.RowKit

theorem run_is {w0 : World} {v : Value} {f : List I} {rs : Nat → Int} {h a : Sl} {n : Int} {zs az : List Int} {w : World} (hl : Laid w0) (h0 : New w0 w) (hf : FunAt w v f) (hh : Hp w (svS h) zs) (ha : Hp w (svS a) az) (hr : (chkF f).2 = 0) (hz : zs.length ≤ 16) (hal : az.length ≤ 5000) (hn : 0 ≤ n ∧ n ≤ 5000)
    {es : List Ev} {how val st wk p2 q2 : Int} {oh z2 : List Int} {l2 : Ws} (hR : runR f rs zs az n.toNat = (⟨es, how, val, oh, st, wk⟩, ⟨l2, z2, p2, q2⟩)) :
    Calls Tryz.prog 8 #[v, .agg (caC rs h a n).toArray] w fun e w' => ∃ (ev so s' : Sl), e = .returned (.tuple #[.agg (trC ev how val so st wk).toArray, .agg (cellsS l2 s' p2 q2).toArray, .int .i64 0]) ∧ EvAt w' (svS ev) es ∧ Hp w' (svS so) oh ∧ Hp w' (svS s') z2 ∧ New w w' ∧ Fresh w.heap.size (svS ev) es ∧ Fresh w.heap.size (svS so) oh ∧ Fresh w.heap.size (svS s') z2 ∧ ev.n ≤ ev.c := by
  obtain ⟨ao, cap, rfl⟩ := hf.form
  have := run_in rs h a n.toNat f zs az ao _ cap w (hl.new h0) hf hh ha hr hz hal (by omega)
  rw [show ((n.toNat : Nat) : Int) = n by omega, hR] at this
  exact this
/-- The law's bound. -/
def grR (f h a : Nat) (n : Int) : Bool := decide (300 < f ∨ 100 < h ∨ 1000 < a ∨ (1000 < n ∧ n ≤ 5000))
set_option maxHeartbeats 16000000 in
theorem gr_any (fo : Option Addr) (fn fc : Nat) (rs : Nat → Int) (h a : Sl) (n : Int) (w : World) :
    Calls Tryz.prog 5 #[.slice fo fn fc, .agg (caC rs h a n).toArray] w fun e w' => e = .returned (.bool (grR fn h.n a.n n)) ∧ New w w' := by
  obtain ⟨ho, hn, hc⟩ := h
  obtain ⟨ao, an, ac⟩ := a
  obtain ⟨b, HB⟩ : ∃ b, Hid (grR fn hn an n = b) := ⟨_, Lib.hid rfl⟩
  rw [HB.out]
  by_cases c1 : (300 : Int) < (fn : Int)
  · have e : true = b := by rw [← HB.out]; exact (decide_eq_true (.inl (by omega))).symm
    subst e
    have T1 : Hid True := Lib.hid trivial
    go_enter Tryz.func5, Tryz.ntmps5
    go_wp2_with (first
      | (clear T1; refine wpList_boxX rfl 26 (.tmp 1) rfl (caC rs ⟨ho, hn, hc⟩ ⟨ao, an, ac⟩ n) rfl ?_; intro w1 g1 hg1 hl1 H1 hn1; have k1 := HasK.hp H1; have k2 := HasK.an H1; have k3 := HasK.fuel H1; have HS := Lib.hid H1; clear H1))
    go_ret
    exact ⟨ret_bool rfl, hn1⟩
  by_cases c2 : (100 : Int) < (hn : Int)
  · have e : true = b := by rw [← HB.out]; exact (decide_eq_true (.inr (.inl (by omega)))).symm
    subst e
    have T1 : Hid True := Lib.hid trivial
    go_enter Tryz.func5, Tryz.ntmps5
    go_wp2_with (first
      | (clear T1; refine wpList_boxX rfl 26 (.tmp 1) rfl (caC rs ⟨ho, hn, hc⟩ ⟨ao, an, ac⟩ n) rfl ?_; intro w1 g1 hg1 hl1 H1 hn1; have k1 := HasK.hp H1; have k2 := HasK.an H1; have k3 := HasK.fuel H1; have HS := Lib.hid H1; clear H1))
    go_ret
    exact ⟨ret_bool rfl, hn1⟩
  by_cases c3 : (1000 : Int) < (an : Int)
  · have e : true = b := by rw [← HB.out]; exact (decide_eq_true (.inr (.inr (.inl (by omega))))).symm
    subst e
    have T1 : Hid True := Lib.hid trivial
    go_enter Tryz.func5, Tryz.ntmps5
    go_wp2_with (first
      | (clear T1; refine wpList_boxX rfl 26 (.tmp 1) rfl (caC rs ⟨ho, hn, hc⟩ ⟨ao, an, ac⟩ n) rfl ?_; intro w1 g1 hg1 hl1 H1 hn1; have k1 := HasK.hp H1; have k2 := HasK.an H1; have k3 := HasK.fuel H1; have HS := Lib.hid H1; clear H1))
    go_ret
    exact ⟨ret_bool rfl, hn1⟩
  by_cases c4 : 1000 < n
  · by_cases c5 : n ≤ 5000
    · have e : true = b := by rw [← HB.out]; exact (decide_eq_true (.inr (.inr (.inr ⟨c4, c5⟩)))).symm
      subst e
      have T1 : Hid True := Lib.hid trivial
      go_enter Tryz.func5, Tryz.ntmps5
      go_wp2_with (first
        | (clear T1; refine wpList_boxX rfl 26 (.tmp 1) rfl (caC rs ⟨ho, hn, hc⟩ ⟨ao, an, ac⟩ n) rfl ?_; intro w1 g1 hg1 hl1 H1 hn1; have k1 := HasK.hp H1; have k2 := HasK.an H1; have k3 := HasK.fuel H1; have HS := Lib.hid H1; clear H1))
      go_ret
      exact ⟨ret_bool rfl, hn1⟩
    · have e : false = b := by rw [← HB.out]; exact (decide_eq_false (by omega)).symm
      subst e
      have T1 : Hid True := Lib.hid trivial
      go_enter Tryz.func5, Tryz.ntmps5
      go_wp2_with (first
        | (clear T1; refine wpList_boxX rfl 26 (.tmp 1) rfl (caC rs ⟨ho, hn, hc⟩ ⟨ao, an, ac⟩ n) rfl ?_; intro w1 g1 hg1 hl1 H1 hn1; have k1 := HasK.hp H1; have k2 := HasK.an H1; have k3 := HasK.fuel H1; have HS := Lib.hid H1; clear H1))
      go_ret
      exact ⟨ret_bool rfl, hn1⟩
  · have e : false = b := by rw [← HB.out]; exact (decide_eq_false (by omega)).symm
    subst e
    have T1 : Hid True := Lib.hid trivial
    go_enter Tryz.func5, Tryz.ntmps5
    go_wp2_with (first
      | (clear T1; refine wpList_boxX rfl 26 (.tmp 1) rfl (caC rs ⟨ho, hn, hc⟩ ⟨ao, an, ac⟩ n) rfl ?_; intro w1 g1 hg1 hl1 H1 hn1; have k1 := HasK.hp H1; have k2 := HasK.an H1; have k3 := HasK.fuel H1; have HS := Lib.hid H1; clear H1))
    go_ret
    exact ⟨ret_bool rfl, hn1⟩
theorem gr_is {w0 : World} {v : Value} {f : List I} {rs : Nat → Int} {h a : Sl} {n : Int} {zs az : List Int} {w : World} (_h : New w0 w) (hf : FunAt w v f) (hh : Hp w (svS h) zs) (ha : Hp w (svS a) az) {b : Bool} (hb : grR f.length zs.length az.length n = b) :
    Calls Tryz.prog 5 #[v, .agg (caC rs h a n).toArray] w fun e w' => e = .returned (.bool b) ∧ New w w' := by
  obtain ⟨ao, cap, rfl⟩ := hf.form
  have := gr_any ao f.length cap rs h a n w
  rw [Hp.len hh, Hp.len ha, hb] at this
  exact this
set_option maxHeartbeats 16000000 in
theorem rRight_any (rs : Nat → Int) (h a : Sl) (n : Int) (w : World) :
    Calls Tryz.prog 19 #[.agg (caC rs h a n).toArray] w fun e w' => e = .returned (.bool (caseN h.n a.n n)) ∧ New w w' := by
  obtain ⟨ho, hn, hc⟩ := h
  obtain ⟨ao, an, ac⟩ := a
  obtain ⟨b, HB⟩ : ∃ b, Hid (caseN hn an n = b) := ⟨_, Lib.hid rfl⟩
  rw [HB.out]
  by_cases c1 : (hn : Int) ≤ 16
  · by_cases c2 : (an : Int) ≤ 5000
    · by_cases c3 : 0 ≤ n
      · by_cases c4 : n ≤ 5000
        · have e : true = b := by rw [← HB.out]; exact (decide_eq_true ⟨by omega, by omega, c3, c4⟩).symm
          subst e
          have T1 : Hid True := Lib.hid trivial
          go_enter Tryz.func19, Tryz.ntmps19
          go_wp2_with (first
            | (clear T1; refine wpList_boxX rfl 26 (.tmp 0) rfl (caC rs ⟨ho, hn, hc⟩ ⟨ao, an, ac⟩ n) rfl ?_; intro w1 g1 hg1 hl1 H1 hn1; have k1 := HasK.hp H1; have k2 := HasK.an H1; have k3 := HasK.fuel H1; have HS := Lib.hid H1; clear H1))
          go_ret
          exact ⟨ret_bool rfl, hn1⟩
        · have e : false = b := by rw [← HB.out]; exact (decide_eq_false (by omega)).symm
          subst e
          have T1 : Hid True := Lib.hid trivial
          go_enter Tryz.func19, Tryz.ntmps19
          go_wp2_with (first
            | (clear T1; refine wpList_boxX rfl 26 (.tmp 0) rfl (caC rs ⟨ho, hn, hc⟩ ⟨ao, an, ac⟩ n) rfl ?_; intro w1 g1 hg1 hl1 H1 hn1; have k1 := HasK.hp H1; have k2 := HasK.an H1; have k3 := HasK.fuel H1; have HS := Lib.hid H1; clear H1))
          go_ret
          exact ⟨ret_bool rfl, hn1⟩
      · have e : false = b := by rw [← HB.out]; exact (decide_eq_false (by omega)).symm
        subst e
        have T1 : Hid True := Lib.hid trivial
        go_enter Tryz.func19, Tryz.ntmps19
        go_wp2_with (first
          | (clear T1; refine wpList_boxX rfl 26 (.tmp 0) rfl (caC rs ⟨ho, hn, hc⟩ ⟨ao, an, ac⟩ n) rfl ?_; intro w1 g1 hg1 hl1 H1 hn1; have k1 := HasK.hp H1; have k2 := HasK.an H1; have k3 := HasK.fuel H1; have HS := Lib.hid H1; clear H1))
        go_ret
        exact ⟨ret_bool rfl, hn1⟩
    · have e : false = b := by rw [← HB.out]; exact (decide_eq_false (by omega)).symm
      subst e
      have T1 : Hid True := Lib.hid trivial
      go_enter Tryz.func19, Tryz.ntmps19
      go_wp2_with (first
        | (clear T1; refine wpList_boxX rfl 26 (.tmp 0) rfl (caC rs ⟨ho, hn, hc⟩ ⟨ao, an, ac⟩ n) rfl ?_; intro w1 g1 hg1 hl1 H1 hn1; have k1 := HasK.hp H1; have k2 := HasK.an H1; have k3 := HasK.fuel H1; have HS := Lib.hid H1; clear H1))
      go_ret
      exact ⟨ret_bool rfl, hn1⟩
  · have e : false = b := by rw [← HB.out]; exact (decide_eq_false (by omega)).symm
    subst e
    have T1 : Hid True := Lib.hid trivial
    go_enter Tryz.func19, Tryz.ntmps19
    go_wp2_with (first
      | (clear T1; refine wpList_boxX rfl 26 (.tmp 0) rfl (caC rs ⟨ho, hn, hc⟩ ⟨ao, an, ac⟩ n) rfl ?_; intro w1 g1 hg1 hl1 H1 hn1; have k1 := HasK.hp H1; have k2 := HasK.an H1; have k3 := HasK.fuel H1; have HS := Lib.hid H1; clear H1))
    go_ret
    exact ⟨ret_bool rfl, hn1⟩
/-- May it be run? -/
def fairB (f : List I) (zs az : List Int) (n : Int) : Bool := ((chkF f).2 == 0) && caseN zs.length az.length n
theorem fair_iff {f : List I} {zs az : List Int} {n : Int} : fairB f zs az n = true ↔ (chkF f).2 = 0 ∧ zs.length ≤ 16 ∧ az.length ≤ 5000 ∧ 0 ≤ n ∧ n ≤ 5000 := by
  unfold fairB caseN
  rw [Bool.and_eq_true, decide_eq_true_iff, beq_iff_eq]
set_option maxHeartbeats 2000000 in
theorem fair_in (fo : Option Addr) (fn fc : Nat) (f : List I) (rs : Nat → Int) (h a : Sl) (n : Int) (zs az : List Int) (w : World) (hf : FunAt w (.slice fo fn fc) f) (hh : h.n = zs.length) (ha : a.n = az.length) :
    Calls Tryz.prog 6 #[.slice fo fn fc, .agg (caC rs h a n).toArray] w fun e w' => e = .returned (.bool (fairB f zs az n)) ∧ New w w' := by
  have HF := Lib.hid hf
  have HC : Hid (caseN h.n a.n n = caseN zs.length az.length n) := Lib.hid (by rw [hh, ha])
  clear hf hh ha
  have T1 : Hid True := Lib.hid trivial
  have T2 : Hid True := Lib.hid trivial
  cases q1 : ((chkF f).2 == 0) with
  | true =>
    have HB : Hid (fairB f zs az n = caseN zs.length az.length n) := Lib.hid (by unfold fairB; rw [q1, Bool.true_and])
    go_enter Tryz.func6, Tryz.ntmps6
    go_wp2_with (first
      | (go_at_call 13; refine (rasmRight_any _ f _ (HF.out.new hn1)).mono ?_; rw [q1]; rintro e w2 ⟨rfl, hn2⟩; replace HK : Hid (HasK w2 g3 rs h a n) := Lib.hid (HasC.new HK.out hn2))
      | (go_at_call 19; refine (rRight_any rs h a n _).mono ?_; rw [HC.out]; rintro e w3 ⟨rfl, hn3⟩)
      | (clear T1; refine wpList_boxX rfl 26 (.tmp 1) rfl (caC rs h a n) rfl ?_; intro w1 g3 hg1 hl1 H1 hn1; have HK : Hid (HasK w1 g3 rs h a n) := Lib.hid H1; clear H1)
      | (clear T2; refine wpList_ldK (by rfl) (.tmp 3) rfl g3 rfl HK.out ?_))
    go_ret
    exact ⟨ret_bool HB.out.symm, (hn1.trans hn2).trans hn3⟩
  | false =>
    have HB : Hid (fairB f zs az n = false) := Lib.hid (by unfold fairB; rw [q1, Bool.false_and])
    clear T2
    go_enter Tryz.func6, Tryz.ntmps6
    go_wp2_with (first
      | (go_at_call 13; refine (rasmRight_any _ f _ (HF.out.new hn1)).mono ?_; rw [q1]; rintro e w2 ⟨rfl, hn2⟩)
      | (clear T1; refine wpList_boxX rfl 26 (.tmp 1) rfl (caC rs h a n) rfl ?_; intro w1 g3 hg1 hl1 H1 hn1; have HK : Hid (HasK w1 g3 rs h a n) := Lib.hid H1; clear H1))
    go_ret
    exact ⟨ret_bool HB.out.symm, hn1.trans hn2⟩
theorem fair_is {w0 : World} {v : Value} {f : List I} {rs : Nat → Int} {h a : Sl} {n : Int} {zs az : List Int} {w : World} (_h : New w0 w) (hf : FunAt w v f) (hh : Hp w (svS h) zs) (ha : Hp w (svS a) az) {b : Bool} (hb : fairB f zs az n = b) :
    Calls Tryz.prog 6 #[v, .agg (caC rs h a n).toArray] w fun e w' => e = .returned (.bool b) ∧ New w w' := by
  obtain ⟨ao, cap, rfl⟩ := hf.form
  have := fair_in ao f.length cap f rs h a n zs az w hf (Hp.len hh) (Hp.len ha)
  rw [hb] at this
  exact this
end Go.Proofs.YtlmnodbhfpgplaaGreatDoor
