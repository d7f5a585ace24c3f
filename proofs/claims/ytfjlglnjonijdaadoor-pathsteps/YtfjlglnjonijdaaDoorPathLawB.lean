/-
  'PathSteps': a path from a place that only moves is the one from where its instruction leads, with that ahead: true, for every input.
-/
import Derived.Test.YtfjlglnjonijdaaDoorPathL
import Derived.Test.YtfjlglnjonijdaaDoorPathK
import Derived.Test.YtfjlglnjonijdaaDoorEnvD
import Derived.Test.YtfjlglnjonijdaaDoorRefMoves
namespace Go.Proofs.YtfjlglnjonijdaaDoor
open Go.RowKit

theorem then_frm {w0 : World} (a b : Tb) (w : World) (h : New w0 w) :
    Calls Tryd.prog 15 #[.agg (cellsT a), .agg (cellsT b)] w fun e w' => e = .returned (.agg (cellsT (thn a b))) ∧ New w0 w' := (then_any a b w).mono fun _ _ ⟨he, hw⟩ => ⟨he, h.trans hw⟩
/-- Which way a place that only moves goes. -/
theorem wy_ahead {f : List I} {p : Int} (hm : mvA f p = true) : ∀ {o : Option Nat}, Wy f (nxA f p) o → Wy f p (o.map (· + 1))
  | some k, h => by
    show Leads f p (k + 1)
    refine ⟨fun j hj => ?_, by rw [it_one]; exact h.2⟩
    cases j with
    | zero => exact hm
    | succ j => rw [it_one]; exact h.1 j (by omega)
  | none, h => fun j => by
    cases j with
    | zero => exact hm
    | succ j => rw [it_one]; exact h j
theorem to_ahead (f : List I) (p : Int) : ∀ o, toP f p (o.map (· + 1)) = toP f (nxA f p) o
  | some k => it_one f p k
  | none => rfl
set_option maxHeartbeats 16000000 in
set_option maxRecDepth 100000 in
theorem pathSteps_out (v : Value) (f : List I) (p : Int) (w : World) (hf : FunAt w v f) (hl : Laid w) (h : f.length ≤ 300 → InF f p → mvA f p = true → False) :
    Calls Tryd.prog 5 #[v, .int .i64 p] w fun e w' => e = .returned (.bool true) ∧ New w w' := by
  obtain ⟨ao, fc, rfl⟩ := hf.form
  have HL := Lib.hid hl
  have HF := Lib.hid hf
  have HH := Lib.hid h
  clear hl hf h
  cases d3 : decide ((300 : Int) < (f.length : Int)) with
  | true =>
    go_enter Tryd.func5, Tryd.ntmps5
    go_wp2_with (go_at_call 7; refine (knows_from _ HL.out (New.refl w)).mono ?_; rintro e wk ⟨rfl, hnk⟩)
    go_ret
    exact ⟨rfl, hnk⟩
  | false =>
    have H3 : Hid (f.length ≤ 300) := Lib.hid (by have := of_decide_eq_false d3; omega)
    cases hi : inP f p with
    | false =>
      have HI := Lib.hid hi
      clear hi
      go_enter Tryd.func5, Tryd.ntmps5
      go_wp2_with (first
        | (go_at_call 9; refine (fair9_is (New.refl w) HF.out HI.out).mono ?_; rintro e w1 ⟨rfl, hn⟩; have N1 := Lib.hid hn; clear hn)
        | (go_at_call 7; refine (knows_from _ HL.out N1.out).mono ?_; rintro e wk ⟨rfl, hnk⟩))
      go_ret
      exact ⟨rfl, hnk⟩
    | true =>
      have HI := Lib.hid hi
      have HIN := Lib.hid (inP_iff.mp hi)
      clear hi
      have p0 := HIN.out.2.1
      obtain ⟨q, HQ⟩ : ∃ q : Nat, Hid (p = (q : Int)) := ⟨p.toNat, Lib.hid (by omega)⟩
      obtain ⟨fb, fo, x, ex, hix, hrg⟩ := FunAt.ix HF.out (i := q) (by have := HIN.out.2.2; have := HQ.out; omega)
      rw [← HQ.out] at hix
      have HX : Hid (insA f p = x) := Lib.hid (by
        rw [HQ.out]
        unfold insA
        rw [Int.toNat_natCast, List.getD_eq_getElem?_getD, ex]
        rfl)
      have HR := Lib.hid hrg
      have HM : Hid (movesB x.op = false) := Lib.hid (by
        cases e : movesB x.op with
        | false => rfl
        | true => exact (HH.out H3.out HIN.out (by unfold mvA; rw [HX.out]; exact e)).elim)
      clear ex hrg p0
      go_enter Tryd.func5, Tryd.ntmps5
      go_wp2_with (first
        | (go_at_call 9; refine (fair9_is (New.refl w) HF.out HI.out).mono ?_; rintro e w1 ⟨rfl, hn⟩; have N1 := Lib.hid hn; clear hn)
        | (refine wpList_ldEG rfl (.tmp 23) rfl fb fo rfl (x := x) (HR.out _ N1.out) ?_)
        | (go_at_call 14; refine (refMoves_any x.op x.d x.a x.b x.n x.t _).mono ?_; rw [HM.out]; rintro e w2 ⟨rfl, hn⟩; have N2 := Lib.hid (N1.out.trans hn); clear hn)
        | (go_at_call 7; refine (knows_from _ HL.out N2.out).mono ?_; rintro e wk ⟨rfl, hnk⟩))
      go_ret
      exact ⟨rfl, hnk⟩
/-- The walk where the instruction only moves, to the place behind it. -/
def StepsTo (f : List I) (q : Nat) (x : I) (to : Int) (tb tb2 : Tb) (st st2 : Int) : Prop :=
  ∃ o o2, InF f (nxA f q) ∧ Wy f (q : Int) o ∧ Wy f (nxA f q) o2 ∧ toP f q o = to ∧ tbP f q o = tb ∧ stP o = st ∧ toP f (nxA f q) o2 = to ∧ tbP f (nxA f q) o2 = tb2 ∧ stP o2 = st2 ∧
    ((to = -1) ∨ (0 ≤ to ∧ 0 ≤ st2 ∧ st2 ≤ 1000 ∧ st = st2 + 1 ∧ goodT tb = true ∧ goodT tb2 = true ∧ tb = thn (aft newT x) tb2))
theorem steps_to {f : List I} {q : Nat} {x : I} (hi : InF f q) (hx : insA f q = x) (hm : movesB x.op = true) : ∃ to tb tb2 st st2, StepsTo f q x to tb tb2 st st2 := by
  have hmv : mvA f q = true := by unfold mvA; rw [hx]; exact hm
  have hn := nx_in hi hmv
  obtain ⟨o2, h2⟩ := wy_ex f (nxA f q)
  refine ⟨_, _, _, _, _, o2.map (· + 1), o2, hn, wy_ahead hmv h2, h2, to_ahead f q o2, rfl, rfl, rfl, rfl, rfl, ?_⟩
  cases o2 with
  | none => exact .inl rfl
  | some k =>
    refine .inr ⟨(it_in hn h2.1).2.1, by show (0 : Int) ≤ (k : Int); omega, ?_, by show ((k + 1 : Nat) : Int) = (k : Int) + 1; omega, good_tb _ _ _, good_tb _ _ _, ?_⟩
    · have := leads_lt hn h2
      have := chk_len hn.1
      show (k : Int) ≤ 1000
      omega
    · show tbA f q (k + 1) = _
      rw [tb_ahead, hx]
      rfl
set_option maxHeartbeats 16000000 in
set_option maxRecDepth 100000 in
theorem pathSteps_in (ao : Option Addr) (n fc : Nat) (f : List I) (q : Nat) (w : World) (hf : FunAt w (.slice ao n fc) f) (hl : Laid w) (h3 : f.length ≤ 300) (hi : InF f q) (hm : mvA f q = true) :
    Calls Tryd.prog 5 #[.slice ao n fc, .int .i64 (q : Int)] w fun e w' => e = .returned (.bool true) ∧ New w w' := by
  have HL := Lib.hid hl
  have HF := Lib.hid hf
  have HLN := Lib.hid hf.len
  have d3 : decide ((300 : Int) < (n : Int)) = false := decide_eq_false (by have := HLN.out; omega)
  have HI : Hid (inP f q = true) := Lib.hid (inP_ok hi)
  have HIN := Lib.hid hi
  have hqn : q < n := by have := hi.2.2; have := HLN.out; omega
  obtain ⟨fb, fo, x, ex, hix, hrg⟩ := FunAt.ix HF.out hqn
  have hx : insA f (q : Int) = x := by
    unfold insA
    rw [Int.toNat_natCast, List.getD_eq_getElem?_getD, ex]
    rfl
  have hmx : movesB x.op = true := by unfold mvA at hm; rw [hx] at hm; exact hm
  have hq200 : q ≤ 300 := by have := HLN.out; omega
  obtain ⟨to, tb, tb2, st, st2, o, o2, s1, s2, s3, s4, s5, s6, s7, s8, s9, sc⟩ := steps_to hi hx hmx
  have HM := Lib.hid hmx
  have HR := Lib.hid hrg
  have HW := Lib.hid s2
  have HTO := Lib.hid s4
  have HTB := Lib.hid s5
  have HST := Lib.hid s6
  have hnx : nxA f (q : Int) = if x.op = 16 then x.t else (q : Int) + 1 := by unfold nxA; rw [hx]
  rw [hnx] at s1 s3 s7 s8
  have HXE := Lib.hid hx
  clear hl hf h3 hi hm ex hrg hx hmx s2 s4 s5 s6 hnx
  have T0 : Hid True := Lib.hid trivial
  have T1 : Hid True := Lib.hid trivial
  have T2 : Hid True := Lib.hid trivial
  have T3 : Hid True := Lib.hid trivial
  have T4 : Hid True := Lib.hid trivial
  have T5 : Hid True := Lib.hid trivial
  have T6 : Hid True := Lib.hid trivial
  have T7 : Hid True := Lib.hid trivial
  have T8 : Hid True := Lib.hid trivial
  have T9 : Hid True := Lib.hid trivial
  by_cases h16 : x.op = 16
  · have q16 : (x.op == 16) = true := beq_of h16
    rw [if_pos h16] at s1 s3 s7 s8
    have HIN2 := Lib.hid s1
    have HW2 := Lib.hid s3
    have HTO2 := Lib.hid s7
    have HTB2 := Lib.hid s8
    have HST2 := Lib.hid s9
    clear s1 s3 s7 s8 s9 h16
    rcases sc with sc | ⟨c1, c2, c3, c4, c5, c6, c7⟩
    · have dn : decide (to < 0) = true := decide_eq_true (by omega)
      clear sc
      go_enter Tryd.func5, Tryd.ntmps5
      go_wp2_with (first
        | (go_at_call 9; refine (fair9_is (New.refl w) HF.out HI.out).mono ?_; rintro e w1 ⟨rfl, hn⟩; have N1 := Lib.hid hn; clear hn)
        | (clear T0; refine wpList_ldEG rfl (.tmp 23) rfl fb fo rfl (x := x) (HR.out _ N1.out) ?_)
        | (go_at_call 14; refine (refMoves_any x.op x.d x.a x.b x.n x.t _).mono ?_; rw [HM.out]; rintro e w2 ⟨rfl, hn⟩; have N2 := Lib.hid (N1.out.trans hn); clear hn)
        | (clear T1; refine wpList_ldEG rfl (.tmp 31) rfl fb fo rfl (x := x) (HR.out _ N2.out) ?_)
        | (clear T2; refine wpList_alHI rfl rfl ?_; intro w3 g5 hg5 hl5 H5 hn; have A5 : Hid (HasI w3 g5 ⟨0, 0, 0, 0, 0, 0⟩) := Lib.hid H5; have n5 : w.heap.size ≤ g5 := Nat.le_trans N2.out.size hg5; have N3 := Lib.hid (N2.out.trans hn); clear H5 hn)
        | (clear T3; refine wpList_stHI rfl rfl (.tmp 5) (.tmp 32) rfl g5 rfl x rfl A5.out ?_; intro w4 B5 k5; have C5 : Hid (HasI w4 g5 x) := Lib.hid B5; have N4 := Lib.hid (k5.below _ n5 N3.out); have x0 := HasC.cell C5.out (k := 0) rfl; have x5 := HasC.cell C5.out (k := 5) rfl; clear B5 k5)
        | (clear T4; go_at_call 8; refine (path_is (q := to) (t := tb) (k := st) HL.out N4.out (HF.out.new N4.out) HIN.out HW.out HTO.out HTB.out HST.out).mono ?_; rintro e w5 ⟨rfl, hn⟩; have N5 := Lib.hid (N4.out.trans hn); have D5 : Hid (HasI w5 g5 x) := Lib.hid (HasC.new C5.out hn); clear hn x0 x5)
        | (clear T5; refine wpList_alX rfl 29 rfl _ zeroP_run _ rfl ?_; intro w6 g7 hg7 hl7 H7 hn; have A7 : Hid (HasP w6 g7 0 noT 0) := Lib.hid H7; have n7 : w.heap.size ≤ g7 := Nat.le_trans N5.out.size hg7; have N6 := Lib.hid (N5.out.trans hn); have E5 : Hid (HasI w6 g5 x) := Lib.hid (HasC.new D5.out hn); have d57 : g5 ≠ g7 := Nat.ne_of_lt (Nat.lt_of_lt_of_le (HasC.lt D5.out) hg7); clear H7 hn)
        | (clear T6; refine wpList_stP rfl rfl (.tmp 7) (.tmp 44) rfl g7 rfl (to := to) (t := tb) (n := st) rfl A7.out ?_; intro w7 B7 k7; have C7 : Hid (HasP w7 g7 to tb st) := Lib.hid B7; have G5 : Hid (HasI w7 g5 x) := Lib.hid (HasC.kept E5.out k7 d57); have N7 := Lib.hid (k7.below _ n7 N6.out); clear B7 k7)
        | (clear T7; go_at_call 8; refine (path_is (q := to) (t := tb2) (k := st2) HL.out N7.out (HF.out.new N7.out) HIN2.out HW2.out HTO2.out HTB2.out HST2.out).mono ?_; rintro e w8 ⟨rfl, hn⟩; have N8 := Lib.hid (N7.out.trans hn); have D7 : Hid (HasP w8 g7 to tb st) := Lib.hid (HasC.new C7.out hn); have K5 : Hid (HasI w8 g5 x) := Lib.hid (HasC.new G5.out hn); clear hn)
        | (clear T8; refine wpList_alX rfl 29 rfl _ zeroP_run _ rfl ?_; intro w9 g9 hg9 hl9 H9 hn; have A9 : Hid (HasP w9 g9 0 noT 0) := Lib.hid H9; have n9 : w.heap.size ≤ g9 := Nat.le_trans N8.out.size hg9; have N9 := Lib.hid (N8.out.trans hn); have L5 : Hid (HasI w9 g5 x) := Lib.hid (HasC.new K5.out hn); have E7 : Hid (HasP w9 g7 to tb st) := Lib.hid (HasC.new D7.out hn); have d59 : g5 ≠ g9 := Nat.ne_of_lt (Nat.lt_of_lt_of_le (HasC.lt K5.out) hg9); have d79 : g7 ≠ g9 := Nat.ne_of_lt (Nat.lt_of_lt_of_le (HasC.lt D7.out) hg9); clear H9 hn)
        | (clear T9; refine wpList_stP rfl rfl (.tmp 9) (.tmp 50) rfl g9 rfl (to := to) (t := tb2) (n := st2) rfl A9.out ?_; intro wa B9 k9; have C9 : Hid (HasP wa g9 to tb2 st2) := Lib.hid B9; have M5 : Hid (HasI wa g5 x) := Lib.hid (HasC.kept L5.out k9 d59); have G7 : Hid (HasP wa g7 to tb st) := Lib.hid (HasC.kept E7.out k9 d79); have NA := Lib.hid (k9.below _ n9 N9.out); have y7 := HasP.at G7.out; have y9 := HasP.at C9.out; clear B9 k9)
        | (go_at_call 7; refine (knows_from _ HL.out NA.out).mono ?_; rintro e wk ⟨rfl, hnk⟩))
      go_ret
      exact ⟨rfl, hnk⟩
    · have dn : decide (to < 0) = false := decide_eq_false (by omega)
      have HC4 := Lib.hid c4
      have HC5 := Lib.hid c5
      have HC6 := Lib.hid c6
      have HC7 := Lib.hid c7
      clear c1 c4 c5 c6 c7
      go_enter Tryd.func5, Tryd.ntmps5
      go_wp2_with (first
        | (go_at_call 9; refine (fair9_is (New.refl w) HF.out HI.out).mono ?_; rintro e w1 ⟨rfl, hn⟩; have N1 := Lib.hid hn; clear hn)
        | (clear T0; refine wpList_ldEG rfl (.tmp 23) rfl fb fo rfl (x := x) (HR.out _ N1.out) ?_)
        | (go_at_call 14; refine (refMoves_any x.op x.d x.a x.b x.n x.t _).mono ?_; rw [HM.out]; rintro e w2 ⟨rfl, hn⟩; have N2 := Lib.hid (N1.out.trans hn); clear hn)
        | (clear T1; refine wpList_ldEG rfl (.tmp 31) rfl fb fo rfl (x := x) (HR.out _ N2.out) ?_)
        | (clear T2; refine wpList_alHI rfl rfl ?_; intro w3 g5 hg5 hl5 H5 hn; have A5 : Hid (HasI w3 g5 ⟨0, 0, 0, 0, 0, 0⟩) := Lib.hid H5; have n5 : w.heap.size ≤ g5 := Nat.le_trans N2.out.size hg5; have N3 := Lib.hid (N2.out.trans hn); clear H5 hn)
        | (clear T3; refine wpList_stHI rfl rfl (.tmp 5) (.tmp 32) rfl g5 rfl x rfl A5.out ?_; intro w4 B5 k5; have C5 : Hid (HasI w4 g5 x) := Lib.hid B5; have N4 := Lib.hid (k5.below _ n5 N3.out); have x0 := HasC.cell C5.out (k := 0) rfl; have x5 := HasC.cell C5.out (k := 5) rfl; clear B5 k5)
        | (clear T4; go_at_call 8; refine (path_is (q := to) (t := tb) (k := st) HL.out N4.out (HF.out.new N4.out) HIN.out HW.out HTO.out HTB.out HST.out).mono ?_; rintro e w5 ⟨rfl, hn⟩; have N5 := Lib.hid (N4.out.trans hn); have D5 : Hid (HasI w5 g5 x) := Lib.hid (HasC.new C5.out hn); clear hn x0 x5)
        | (clear T5; refine wpList_alX rfl 29 rfl _ zeroP_run _ rfl ?_; intro w6 g7 hg7 hl7 H7 hn; have A7 : Hid (HasP w6 g7 0 noT 0) := Lib.hid H7; have n7 : w.heap.size ≤ g7 := Nat.le_trans N5.out.size hg7; have N6 := Lib.hid (N5.out.trans hn); have E5 : Hid (HasI w6 g5 x) := Lib.hid (HasC.new D5.out hn); have d57 : g5 ≠ g7 := Nat.ne_of_lt (Nat.lt_of_lt_of_le (HasC.lt D5.out) hg7); clear H7 hn)
        | (clear T6; refine wpList_stP rfl rfl (.tmp 7) (.tmp 44) rfl g7 rfl (to := to) (t := tb) (n := st) rfl A7.out ?_; intro w7 B7 k7; have C7 : Hid (HasP w7 g7 to tb st) := Lib.hid B7; have G5 : Hid (HasI w7 g5 x) := Lib.hid (HasC.kept E5.out k7 d57); have N7 := Lib.hid (k7.below _ n7 N6.out); clear B7 k7)
        | (clear T7; go_at_call 8; refine (path_is (q := to) (t := tb2) (k := st2) HL.out N7.out (HF.out.new N7.out) HIN2.out HW2.out HTO2.out HTB2.out HST2.out).mono ?_; rintro e w8 ⟨rfl, hn⟩; have N8 := Lib.hid (N7.out.trans hn); have D7 : Hid (HasP w8 g7 to tb st) := Lib.hid (HasC.new C7.out hn); have K5 : Hid (HasI w8 g5 x) := Lib.hid (HasC.new G5.out hn); clear hn)
        | (clear T8; refine wpList_alX rfl 29 rfl _ zeroP_run _ rfl ?_; intro w9 g9 hg9 hl9 H9 hn; have A9 : Hid (HasP w9 g9 0 noT 0) := Lib.hid H9; have n9 : w.heap.size ≤ g9 := Nat.le_trans N8.out.size hg9; have N9 := Lib.hid (N8.out.trans hn); have L5 : Hid (HasI w9 g5 x) := Lib.hid (HasC.new K5.out hn); have E7 : Hid (HasP w9 g7 to tb st) := Lib.hid (HasC.new D7.out hn); have d59 : g5 ≠ g9 := Nat.ne_of_lt (Nat.lt_of_lt_of_le (HasC.lt K5.out) hg9); have d79 : g7 ≠ g9 := Nat.ne_of_lt (Nat.lt_of_lt_of_le (HasC.lt D7.out) hg9); clear H9 hn)
        | (clear T9; refine wpList_stP rfl rfl (.tmp 9) (.tmp 50) rfl g9 rfl (to := to) (t := tb2) (n := st2) rfl A9.out ?_; intro wa B9 k9; have C9 : Hid (HasP wa g9 to tb2 st2) := Lib.hid B9; have M5 : Hid (HasI wa g5 x) := Lib.hid (HasC.kept L5.out k9 d59); have G7 : Hid (HasP wa g7 to tb st) := Lib.hid (HasC.kept E7.out k9 d79); have NA := Lib.hid (k9.below _ n9 N9.out); have y7 := HasP.at G7.out; have y9 := HasP.at C9.out; clear B9 k9))
      have hne := newW_any wa
      refine wp_region_new (New.refl wa) (by kernel_rfl) (by kernel_rfl) ?_
      have d1 : (st == st2 + 1) = true := beq_of HC4.out
      have v1 : ∀ y : NewW wa, y.val.cell? ⟨g7, 25, none⟩ = some (.int .i64 st) := fun y => y.property.cell (HasP.st G7.out)
      have v2 : ∀ y : NewW wa, y.val.cell? ⟨g9, 25, none⟩ = some (.int .i64 st2) := fun y => y.property.cell (HasP.st C9.out)
      have CT : Hid (∀ w', (∃ y : NewW wa, w' = y.val) → HasP w' g7 to tb st) := Lib.hid (by rintro w' ⟨y, rfl⟩; exact HasC.new G7.out y.property)
      have CU : Hid (∀ w', (∃ y : NewW wa, w' = y.val) → HasP w' g9 to tb2 st2) := Lib.hid (by rintro w' ⟨y, rfl⟩; exact HasC.new C9.out y.property)
      have CI : Hid (∀ w', (∃ y : NewW wa, w' = y.val) → HasI w' g5 x) := Lib.hid (by rintro w' ⟨y, rfl⟩; exact HasC.new M5.out y.property)
      have HK : Hid (Laid wa) := Lib.hid (HL.out.new NA.out)
      obtain ⟨e1, e2⟩ := eq_T HC5.out (good_thn (aft newT x) tb2) (fun i _ => by rw [HC7.out])
      clear M5 G7 C9 y7 y9
      repeat (first
        | (refine wpQuiet_ldPt rfl (.tmp 76) rfl g7 rfl CT.out ?_; simp only [Act.put, List.setIfInBounds_toArray, List.set_cons_zero, List.set_cons_succ])
        | (refine wpQuiet_ldPt rfl (.tmp 81) rfl g9 rfl CU.out ?_; simp only [Act.put, List.setIfInBounds_toArray, List.set_cons_zero, List.set_cons_succ])
        | (refine wpQuiet_ldHI rfl (.tmp 5) rfl g5 rfl CI.out ?_; simp only [Act.put, List.setIfInBounds_toArray, List.set_cons_zero, List.set_cons_succ])
        | go_big_quiet_step (first | (go_at_call 13; exact quiet_new (envNew_from _ (Subtype.property _))) | (go_at_call 16; exact quiet_new (after_frm _ x _ (Subtype.property _))) | (go_at_call 15; exact quiet_new (then_frm _ _ _ (Subtype.property _))) | (go_at_call 7; exact quiet_new (knows_from _ HK.out (Subtype.property _)))))
      refine wpQuiet_nil ?_
      intro wb hnb
      go_wp2
      go_ret
      exact ⟨rfl, NA.out.trans hnb⟩
  · have q16 : (x.op == 16) = false := bneq_of h16
    rw [if_neg h16] at s1 s3 s7 s8
    have HIN2 := Lib.hid s1
    have HW2 := Lib.hid s3
    have HTO2 := Lib.hid s7
    have HTB2 := Lib.hid s8
    have HST2 := Lib.hid s9
    clear s1 s3 s7 s8 s9 h16
    rcases sc with sc | ⟨c1, c2, c3, c4, c5, c6, c7⟩
    · have dn : decide (to < 0) = true := decide_eq_true (by omega)
      clear sc
      go_enter Tryd.func5, Tryd.ntmps5
      go_wp2_with (first
        | (go_at_call 9; refine (fair9_is (New.refl w) HF.out HI.out).mono ?_; rintro e w1 ⟨rfl, hn⟩; have N1 := Lib.hid hn; clear hn)
        | (clear T0; refine wpList_ldEG rfl (.tmp 23) rfl fb fo rfl (x := x) (HR.out _ N1.out) ?_)
        | (go_at_call 14; refine (refMoves_any x.op x.d x.a x.b x.n x.t _).mono ?_; rw [HM.out]; rintro e w2 ⟨rfl, hn⟩; have N2 := Lib.hid (N1.out.trans hn); clear hn)
        | (clear T1; refine wpList_ldEG rfl (.tmp 31) rfl fb fo rfl (x := x) (HR.out _ N2.out) ?_)
        | (clear T2; refine wpList_alHI rfl rfl ?_; intro w3 g5 hg5 hl5 H5 hn; have A5 : Hid (HasI w3 g5 ⟨0, 0, 0, 0, 0, 0⟩) := Lib.hid H5; have n5 : w.heap.size ≤ g5 := Nat.le_trans N2.out.size hg5; have N3 := Lib.hid (N2.out.trans hn); clear H5 hn)
        | (clear T3; refine wpList_stHI rfl rfl (.tmp 5) (.tmp 32) rfl g5 rfl x rfl A5.out ?_; intro w4 B5 k5; have C5 : Hid (HasI w4 g5 x) := Lib.hid B5; have N4 := Lib.hid (k5.below _ n5 N3.out); have x0 := HasC.cell C5.out (k := 0) rfl; have x5 := HasC.cell C5.out (k := 5) rfl; clear B5 k5)
        | (clear T4; go_at_call 8; refine (path_is (q := to) (t := tb) (k := st) HL.out N4.out (HF.out.new N4.out) HIN.out HW.out HTO.out HTB.out HST.out).mono ?_; rintro e w5 ⟨rfl, hn⟩; have N5 := Lib.hid (N4.out.trans hn); have D5 : Hid (HasI w5 g5 x) := Lib.hid (HasC.new C5.out hn); clear hn x0 x5)
        | (clear T5; refine wpList_alX rfl 29 rfl _ zeroP_run _ rfl ?_; intro w6 g7 hg7 hl7 H7 hn; have A7 : Hid (HasP w6 g7 0 noT 0) := Lib.hid H7; have n7 : w.heap.size ≤ g7 := Nat.le_trans N5.out.size hg7; have N6 := Lib.hid (N5.out.trans hn); have E5 : Hid (HasI w6 g5 x) := Lib.hid (HasC.new D5.out hn); have d57 : g5 ≠ g7 := Nat.ne_of_lt (Nat.lt_of_lt_of_le (HasC.lt D5.out) hg7); clear H7 hn)
        | (clear T6; refine wpList_stP rfl rfl (.tmp 7) (.tmp 44) rfl g7 rfl (to := to) (t := tb) (n := st) rfl A7.out ?_; intro w7 B7 k7; have C7 : Hid (HasP w7 g7 to tb st) := Lib.hid B7; have G5 : Hid (HasI w7 g5 x) := Lib.hid (HasC.kept E5.out k7 d57); have N7 := Lib.hid (k7.below _ n7 N6.out); clear B7 k7)
        | (clear T7; go_at_call 8; refine (path_is (q := to) (t := tb2) (k := st2) HL.out N7.out (HF.out.new N7.out) HIN2.out HW2.out HTO2.out HTB2.out HST2.out).mono ?_; rintro e w8 ⟨rfl, hn⟩; have N8 := Lib.hid (N7.out.trans hn); have D7 : Hid (HasP w8 g7 to tb st) := Lib.hid (HasC.new C7.out hn); have K5 : Hid (HasI w8 g5 x) := Lib.hid (HasC.new G5.out hn); clear hn)
        | (clear T8; refine wpList_alX rfl 29 rfl _ zeroP_run _ rfl ?_; intro w9 g9 hg9 hl9 H9 hn; have A9 : Hid (HasP w9 g9 0 noT 0) := Lib.hid H9; have n9 : w.heap.size ≤ g9 := Nat.le_trans N8.out.size hg9; have N9 := Lib.hid (N8.out.trans hn); have L5 : Hid (HasI w9 g5 x) := Lib.hid (HasC.new K5.out hn); have E7 : Hid (HasP w9 g7 to tb st) := Lib.hid (HasC.new D7.out hn); have d59 : g5 ≠ g9 := Nat.ne_of_lt (Nat.lt_of_lt_of_le (HasC.lt K5.out) hg9); have d79 : g7 ≠ g9 := Nat.ne_of_lt (Nat.lt_of_lt_of_le (HasC.lt D7.out) hg9); clear H9 hn)
        | (clear T9; refine wpList_stP rfl rfl (.tmp 9) (.tmp 50) rfl g9 rfl (to := to) (t := tb2) (n := st2) rfl A9.out ?_; intro wa B9 k9; have C9 : Hid (HasP wa g9 to tb2 st2) := Lib.hid B9; have M5 : Hid (HasI wa g5 x) := Lib.hid (HasC.kept L5.out k9 d59); have G7 : Hid (HasP wa g7 to tb st) := Lib.hid (HasC.kept E7.out k9 d79); have NA := Lib.hid (k9.below _ n9 N9.out); have y7 := HasP.at G7.out; have y9 := HasP.at C9.out; clear B9 k9)
        | (go_at_call 7; refine (knows_from _ HL.out NA.out).mono ?_; rintro e wk ⟨rfl, hnk⟩))
      go_ret
      exact ⟨rfl, hnk⟩
    · have dn : decide (to < 0) = false := decide_eq_false (by omega)
      have HC4 := Lib.hid c4
      have HC5 := Lib.hid c5
      have HC6 := Lib.hid c6
      have HC7 := Lib.hid c7
      clear c1 c4 c5 c6 c7
      go_enter Tryd.func5, Tryd.ntmps5
      go_wp2_with (first
        | (go_at_call 9; refine (fair9_is (New.refl w) HF.out HI.out).mono ?_; rintro e w1 ⟨rfl, hn⟩; have N1 := Lib.hid hn; clear hn)
        | (clear T0; refine wpList_ldEG rfl (.tmp 23) rfl fb fo rfl (x := x) (HR.out _ N1.out) ?_)
        | (go_at_call 14; refine (refMoves_any x.op x.d x.a x.b x.n x.t _).mono ?_; rw [HM.out]; rintro e w2 ⟨rfl, hn⟩; have N2 := Lib.hid (N1.out.trans hn); clear hn)
        | (clear T1; refine wpList_ldEG rfl (.tmp 31) rfl fb fo rfl (x := x) (HR.out _ N2.out) ?_)
        | (clear T2; refine wpList_alHI rfl rfl ?_; intro w3 g5 hg5 hl5 H5 hn; have A5 : Hid (HasI w3 g5 ⟨0, 0, 0, 0, 0, 0⟩) := Lib.hid H5; have n5 : w.heap.size ≤ g5 := Nat.le_trans N2.out.size hg5; have N3 := Lib.hid (N2.out.trans hn); clear H5 hn)
        | (clear T3; refine wpList_stHI rfl rfl (.tmp 5) (.tmp 32) rfl g5 rfl x rfl A5.out ?_; intro w4 B5 k5; have C5 : Hid (HasI w4 g5 x) := Lib.hid B5; have N4 := Lib.hid (k5.below _ n5 N3.out); have x0 := HasC.cell C5.out (k := 0) rfl; have x5 := HasC.cell C5.out (k := 5) rfl; clear B5 k5)
        | (clear T4; go_at_call 8; refine (path_is (q := to) (t := tb) (k := st) HL.out N4.out (HF.out.new N4.out) HIN.out HW.out HTO.out HTB.out HST.out).mono ?_; rintro e w5 ⟨rfl, hn⟩; have N5 := Lib.hid (N4.out.trans hn); have D5 : Hid (HasI w5 g5 x) := Lib.hid (HasC.new C5.out hn); clear hn x0 x5)
        | (clear T5; refine wpList_alX rfl 29 rfl _ zeroP_run _ rfl ?_; intro w6 g7 hg7 hl7 H7 hn; have A7 : Hid (HasP w6 g7 0 noT 0) := Lib.hid H7; have n7 : w.heap.size ≤ g7 := Nat.le_trans N5.out.size hg7; have N6 := Lib.hid (N5.out.trans hn); have E5 : Hid (HasI w6 g5 x) := Lib.hid (HasC.new D5.out hn); have d57 : g5 ≠ g7 := Nat.ne_of_lt (Nat.lt_of_lt_of_le (HasC.lt D5.out) hg7); clear H7 hn)
        | (clear T6; refine wpList_stP rfl rfl (.tmp 7) (.tmp 44) rfl g7 rfl (to := to) (t := tb) (n := st) rfl A7.out ?_; intro w7 B7 k7; have C7 : Hid (HasP w7 g7 to tb st) := Lib.hid B7; have G5 : Hid (HasI w7 g5 x) := Lib.hid (HasC.kept E5.out k7 d57); have N7 := Lib.hid (k7.below _ n7 N6.out); clear B7 k7)
        | (clear T7; go_at_call 8; refine (path_is (q := to) (t := tb2) (k := st2) HL.out N7.out (HF.out.new N7.out) HIN2.out HW2.out HTO2.out HTB2.out HST2.out).mono ?_; rintro e w8 ⟨rfl, hn⟩; have N8 := Lib.hid (N7.out.trans hn); have D7 : Hid (HasP w8 g7 to tb st) := Lib.hid (HasC.new C7.out hn); have K5 : Hid (HasI w8 g5 x) := Lib.hid (HasC.new G5.out hn); clear hn)
        | (clear T8; refine wpList_alX rfl 29 rfl _ zeroP_run _ rfl ?_; intro w9 g9 hg9 hl9 H9 hn; have A9 : Hid (HasP w9 g9 0 noT 0) := Lib.hid H9; have n9 : w.heap.size ≤ g9 := Nat.le_trans N8.out.size hg9; have N9 := Lib.hid (N8.out.trans hn); have L5 : Hid (HasI w9 g5 x) := Lib.hid (HasC.new K5.out hn); have E7 : Hid (HasP w9 g7 to tb st) := Lib.hid (HasC.new D7.out hn); have d59 : g5 ≠ g9 := Nat.ne_of_lt (Nat.lt_of_lt_of_le (HasC.lt K5.out) hg9); have d79 : g7 ≠ g9 := Nat.ne_of_lt (Nat.lt_of_lt_of_le (HasC.lt D7.out) hg9); clear H9 hn)
        | (clear T9; refine wpList_stP rfl rfl (.tmp 9) (.tmp 50) rfl g9 rfl (to := to) (t := tb2) (n := st2) rfl A9.out ?_; intro wa B9 k9; have C9 : Hid (HasP wa g9 to tb2 st2) := Lib.hid B9; have M5 : Hid (HasI wa g5 x) := Lib.hid (HasC.kept L5.out k9 d59); have G7 : Hid (HasP wa g7 to tb st) := Lib.hid (HasC.kept E7.out k9 d79); have NA := Lib.hid (k9.below _ n9 N9.out); have y7 := HasP.at G7.out; have y9 := HasP.at C9.out; clear B9 k9))
      have hne := newW_any wa
      refine wp_region_new (New.refl wa) (by kernel_rfl) (by kernel_rfl) ?_
      have d1 : (st == st2 + 1) = true := beq_of HC4.out
      have v1 : ∀ y : NewW wa, y.val.cell? ⟨g7, 25, none⟩ = some (.int .i64 st) := fun y => y.property.cell (HasP.st G7.out)
      have v2 : ∀ y : NewW wa, y.val.cell? ⟨g9, 25, none⟩ = some (.int .i64 st2) := fun y => y.property.cell (HasP.st C9.out)
      have CT : Hid (∀ w', (∃ y : NewW wa, w' = y.val) → HasP w' g7 to tb st) := Lib.hid (by rintro w' ⟨y, rfl⟩; exact HasC.new G7.out y.property)
      have CU : Hid (∀ w', (∃ y : NewW wa, w' = y.val) → HasP w' g9 to tb2 st2) := Lib.hid (by rintro w' ⟨y, rfl⟩; exact HasC.new C9.out y.property)
      have CI : Hid (∀ w', (∃ y : NewW wa, w' = y.val) → HasI w' g5 x) := Lib.hid (by rintro w' ⟨y, rfl⟩; exact HasC.new M5.out y.property)
      have HK : Hid (Laid wa) := Lib.hid (HL.out.new NA.out)
      obtain ⟨e1, e2⟩ := eq_T HC5.out (good_thn (aft newT x) tb2) (fun i _ => by rw [HC7.out])
      clear M5 G7 C9 y7 y9
      repeat (first
        | (refine wpQuiet_ldPt rfl (.tmp 76) rfl g7 rfl CT.out ?_; simp only [Act.put, List.setIfInBounds_toArray, List.set_cons_zero, List.set_cons_succ])
        | (refine wpQuiet_ldPt rfl (.tmp 81) rfl g9 rfl CU.out ?_; simp only [Act.put, List.setIfInBounds_toArray, List.set_cons_zero, List.set_cons_succ])
        | (refine wpQuiet_ldHI rfl (.tmp 5) rfl g5 rfl CI.out ?_; simp only [Act.put, List.setIfInBounds_toArray, List.set_cons_zero, List.set_cons_succ])
        | go_big_quiet_step (first | (go_at_call 13; exact quiet_new (envNew_from _ (Subtype.property _))) | (go_at_call 16; exact quiet_new (after_frm _ x _ (Subtype.property _))) | (go_at_call 15; exact quiet_new (then_frm _ _ _ (Subtype.property _))) | (go_at_call 7; exact quiet_new (knows_from _ HK.out (Subtype.property _)))))
      refine wpQuiet_nil ?_
      intro wb hnb
      go_wp2
      go_ret
      exact ⟨rfl, NA.out.trans hnb⟩
theorem pathSteps_law (v : Value) (f : List I) (p : Int) (w : World) (hf : FunAt w v f) (_hi : ∀ x ∈ f, In64I x) (_hn : f.length ≤ maxLen) (_hp : In64 p) (hl : Laid w) :
    Calls Tryd.prog 5 #[v, .int .i64 p] w fun e w' => e = .returned (.bool true) ∧ New w w' := by
  by_cases h : f.length ≤ 300 ∧ InF f p ∧ mvA f p = true
  · obtain ⟨q, rfl⟩ : ∃ q : Nat, p = (q : Int) := ⟨p.toNat, by have := h.2.1.2.1; omega⟩
    obtain ⟨ao, fc, rfl⟩ := hf.form
    exact pathSteps_in ao _ fc f q w hf hl h.1 h.2.1 h.2.2
  · exact pathSteps_out v f p w hf hl fun h1 h2 h3 => h ⟨h1, h2, h3⟩
end Go.Proofs.YtfjlglnjonijdaaDoor
