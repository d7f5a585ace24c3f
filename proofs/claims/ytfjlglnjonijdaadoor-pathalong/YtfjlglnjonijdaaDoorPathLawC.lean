/-
  'PathAlong': each place on the way of a path has a path to where that leads, by as many steps as are left; where one leads nowhere, so does each place on its way: true, for every input.
-/
import Derived.Test.YtfjlglnjonijdaaDoorPathL
import Derived.Test.YtfjlglnjonijdaaDoorPathK
import Derived.Test.YtfjlglnjonijdaaDoorRefMoves
namespace Go.Proofs.YtfjlglnjonijdaaDoor
open Go.RowKit

/-- What is left of a way behind n moves. -/
def restO (n : Nat) : Option Nat → Option Nat
  | some k => some (k - n)
  | none => none
theorem along_le {f : List I} {p : Int} {n k : Nat} (h : Leads f p k) (hm : ∀ j < n, mvA f (itA f p j) = true) : n ≤ k := by
  rcases Nat.lt_or_ge k n with e | e
  · have := hm k e
    rw [h.2] at this
    cases this
  · exact e
theorem along_rest {f : List I} {p : Int} {n : Nat} (hm : ∀ j < n, mvA f (itA f p j) = true) : ∀ {o : Option Nat}, Wy f p o → Wy f (itA f p n) (restO n o) ∧ toP f (itA f p n) (restO n o) = toP f p o
  | some k, h => by
    have hk := along_le h hm
    refine ⟨leads_rest h hk, ?_⟩
    show itA f (itA f p n) (k - n) = itA f p k
    rw [← it_add, show n + (k - n) = k by omega]
  | none, h => ⟨never_rest h n, rfl⟩
theorem along_end {f : List I} {p : Int} {n : Nat} (hi : InF f p) (hm : ∀ j < n, mvA f (itA f p j) = true) (he : f.length ≤ n ∨ mvA f (itA f p n) = false) : ∀ {o : Option Nat}, Wy f p o → o = none ∨ (o = some n)
  | none, _ => .inl rfl
  | some k, h => by
    right
    rcases he with he | he
    · have := full_never hi he hm k
      rw [h.2] at this
      cases this
    · have : Leads f p n := ⟨hm, he⟩
      rw [leads_one h this]
/-- What the walk is told of a path: where it leads, its steps, and of a place on its way. -/
structure Along (f : List I) (p : Int) (o : Option Nat) (to st : Int) (tb : Tb) : Prop where
  wy : Wy f p o
  eto : toP f p o = to
  est : stP o = st
  etb : tbP f p o = tb
  lo : -1 ≤ to
  s0 : 0 ≤ st
  s1 : st ≤ 1000
theorem along_mk {f : List I} {p : Int} (hi : InF f p) : ∃ o to st tb, Along f p o to st tb := by
  obtain ⟨o, ho⟩ := wy_ex f p
  refine ⟨o, _, _, _, ho, rfl, rfl, rfl, ?_, ?_, ?_⟩
  · cases o with
    | none => exact Int.le_refl _
    | some k => have := (it_in hi ho.1).2.1; show -1 ≤ itA f p k; omega
  · cases o with
    | none => exact Int.le_refl _
    | some k => show (0 : Int) ≤ (k : Int); omega
  · cases o with
    | none => show (0 : Int) ≤ 1000; omega
    | some k => have := leads_lt hi ho; have := chk_len hi.1; show (k : Int) ≤ 1000; omega
/-- As many steps as are left. -/
theorem along_st {f : List I} {p : Int} {o : Option Nat} {to st : Int} {tb : Tb} (h : Along f p o to st tb) (hi : InF f p) {n : Nat} (hm : ∀ j < n, mvA f (itA f p j) = true) : to < 0 ∨ (0 ≤ to ∧ stP (restO n o) = st - (n : Int) ∧ (n : Int) ≤ st) := by
  have ht := h.eto
  have hs := h.est
  have hw := h.wy
  cases o with
  | none =>
    left
    rw [← ht]
    show (-1 : Int) < 0
    omega
  | some k =>
    right
    have hk := along_le hw hm
    rw [← ht, ← hs]
    refine ⟨(it_in hi hw.1).2.1, ?_, ?_⟩
    · show ((k - n : Nat) : Int) = (k : Int) - (n : Int)
      omega
    · show (n : Int) ≤ (k : Int)
      omega
set_option maxHeartbeats 16000000 in
set_option maxRecDepth 100000 in
theorem pathAlong_out (v : Value) (f : List I) (p : Int) (w : World) (hf : FunAt w v f) (hl : Laid w) (h : f.length ≤ 300 → InF f p → False) :
    Calls Tryd.prog 6 #[v, .int .i64 p] w fun e w' => e = .returned (.bool true) ∧ New w w' := by
  obtain ⟨ao, fc, rfl⟩ := hf.form
  have HL := Lib.hid hl
  have HF := Lib.hid hf
  have HH := Lib.hid h
  clear hl hf h
  cases d3 : decide ((300 : Int) < (f.length : Int)) with
  | true =>
    go_enter Tryd.func6, Tryd.ntmps6
    go_wp2_with (go_at_call 7; refine (knows_from _ HL.out (New.refl w)).mono ?_; rintro e wk ⟨rfl, hnk⟩)
    go_ret
    exact ⟨rfl, hnk⟩
  | false =>
    have HI : Hid (inP f p = false) := Lib.hid (by
      cases e : inP f p with
      | false => rfl
      | true => exact (HH.out (by have := of_decide_eq_false d3; omega) (inP_iff.mp e)).elim)
    go_enter Tryd.func6, Tryd.ntmps6
    go_wp2_with (first
      | (go_at_call 9; refine (fair9_is (New.refl w) HF.out HI.out).mono ?_; rintro e w1 ⟨rfl, hn⟩; have N1 := Lib.hid hn; clear hn)
      | (go_at_call 7; refine (knows_from _ HL.out N1.out).mono ?_; rintro e wk ⟨rfl, hnk⟩))
    go_ret
    exact ⟨rfl, hnk⟩
set_option maxHeartbeats 16000000 in
set_option maxRecDepth 100000 in
theorem pathAlong_in (ao : Option Addr) (n fc : Nat) (f : List I) (p : Int) (w : World) (hf : FunAt w (.slice ao n fc) f) (hl : Laid w) (h3 : f.length ≤ 300) (hi : InF f p) :
    Calls Tryd.prog 6 #[.slice ao n fc, .int .i64 p] w fun e w' => e = .returned (.bool true) ∧ New w w' := by
  have HL := Lib.hid hl
  have HF := Lib.hid hf
  have HLN := Lib.hid hf.len
  have d3 : decide ((300 : Int) < (n : Int)) = false := decide_eq_false (by have := HLN.out; omega)
  have HI : Hid (inP f p = true) := Lib.hid (inP_ok hi)
  have HIN := Lib.hid hi
  have hn300 : n ≤ 300 := by have := HLN.out; omega
  obtain ⟨o, to, st, tb, ha⟩ := along_mk hi
  have HA := Lib.hid ha
  have s0 := ha.s0
  have s1 := ha.s1
  clear hl hf h3 hi ha
  have T1 : Hid True := Lib.hid trivial
  have T2 : Hid True := Lib.hid trivial
  have T3 : Hid True := Lib.hid trivial
  go_enter Tryd.func6, Tryd.ntmps6
  go_wp2_with (first
    | (go_at_call 9; refine (fair9_is (New.refl w) HF.out HI.out).mono ?_; rintro e w1 ⟨rfl, hn⟩; have N1 := Lib.hid hn; clear hn)
    | (clear T1; go_at_call 8; refine (path_is (q := to) (t := tb) (k := st) HL.out N1.out (HF.out.new N1.out) HIN.out HA.out.wy HA.out.eto HA.out.etb HA.out.est).mono ?_; rintro e w2 ⟨rfl, hn⟩; have N2 := Lib.hid (N1.out.trans hn); clear hn)
    | (clear T2; refine wpList_alX rfl 29 rfl _ zeroP_run _ rfl ?_; intro w3 g5 hg5 hl5 H5 hn; have A5 : Hid (HasP w3 g5 0 noT 0) := Lib.hid H5; have n5 : w.heap.size ≤ g5 := Nat.le_trans N2.out.size hg5; have N3 := Lib.hid (N2.out.trans hn); clear H5 hn)
    | (clear T3; refine wpList_stP rfl rfl (.tmp 5) (.tmp 25) rfl g5 rfl (to := to) (t := tb) (n := st) rfl A5.out ?_; intro w4 B5 k5; have C5 : Hid (HasP w4 g5 to tb st) := Lib.hid B5; have N4 := Lib.hid (k5.below _ n5 N3.out); clear B5 k5))
  go_loopw [7, 8] (fun iv nv wr => ∃ k : Nat, iv = .int .i64 (itA f p k) ∧ nv = .int .i64 (k : Int) ∧ k ≤ n ∧ Hid (HasP wr g5 to tb st) ∧ Hid (New w wr) ∧ Hid (∀ j < k, mvA f (itA f p j) = true)) (fun _ nv _ => n - (intOf nv).toNat)
  case atStart => exact ⟨0, rfl, rfl, by omega, C5, N4, Lib.hid (fun j hj => absurd hj (Nat.not_lt_zero _))⟩
  case round =>
    obtain ⟨k, hiv, rfl, hk, K5, KN, KM⟩ := hrel
    obtain ⟨q, HQ⟩ : ∃ q : Nat, Hid (itA f p k = (q : Int)) := ⟨(itA f p k).toNat, Lib.hid (by have := (it_in HIN.out KM.out).2.1; omega)⟩
    rw [HQ.out] at hiv
    subst hiv
    have hqn : q < n := by have := (it_in HIN.out KM.out).2.2; rw [HQ.out] at this; have := HLN.out; omega
    obtain ⟨fb, fo, x, ex, hix, hrg⟩ := FunAt.ix HF.out hqn
    have HX : Hid (insA f (itA f p k) = x) := Lib.hid (by
      rw [HQ.out]
      unfold insA
      rw [Int.toNat_natCast, List.getD_eq_getElem?_getD, ex]
      rfl)
    have HR := Lib.hid hrg
    have z0 := HasP.at K5.out
    have z1 := HasP.st K5.out
    clear ex hrg
    have fin : ∀ (hend : n ≤ k ∨ mvA f (itA f p k) = false), Hid (to < 0 ∨ (0 ≤ to ∧ (q : Int) = to)) := fun hend => Lib.hid (by
      rcases along_end HIN.out KM.out (hend.imp (fun h => by have := HLN.out; omega) id) HA.out.wy with e | e
      · left
        have := HA.out.eto
        rw [e] at this
        rw [← this]
        show (-1 : Int) < 0
        omega
      · right
        have := HA.out.eto
        rw [e] at this
        have h2 : itA f p k = to := this
        rw [← h2, HQ.out]
        exact ⟨by omega, rfl⟩)
    have U1 : Hid True := Lib.hid trivial
    by_cases hkn : k < n
    · have dk : decide ((k : Int) < (n : Int)) = true := decide_eq_true (by omega)
      cases hm : movesB x.op with
      | false =>
        have HE := fin (.inr (by unfold mvA; rw [HX.out]; exact hm))
        have HM := Lib.hid hm
        clear hm fin
        rcases HE.out with hd | ⟨hd, he⟩
        · have dn : decide (to < 0) = true := decide_eq_true hd
          clear hd
          go_wp2_with (first
            | (clear U1; refine wpList_ldEG rfl (.tmp 37) rfl fb fo rfl (x := x) (HR.out _ KN.out) ?_)
            | (go_at_call 14; refine (refMoves_any x.op x.d x.a x.b x.n x.t _).mono ?_; rw [HM.out]; rintro e w2 ⟨rfl, hn⟩; have NE := Lib.hid (KN.out.trans hn); have z0 := hn.cell z0; have z1 := hn.cell z1; have M5 : Hid (HasP w2 g5 to tb st) := Lib.hid (HasC.new K5.out hn); clear hn)
            | (go_at_call 7; refine (knows_from _ HL.out NE.out).mono ?_; rintro e wk ⟨rfl, hnk⟩))
          go_ret
          exact ⟨rfl, hnk⟩
        · have dn : decide (to < 0) = false := decide_eq_false (by omega)
          have de : ((q : Int) == to) = true := beq_of he
          clear hd he
          go_wp2_with (first
            | (clear U1; refine wpList_ldEG rfl (.tmp 37) rfl fb fo rfl (x := x) (HR.out _ KN.out) ?_)
            | (go_at_call 14; refine (refMoves_any x.op x.d x.a x.b x.n x.t _).mono ?_; rw [HM.out]; rintro e w2 ⟨rfl, hn⟩; have NE := Lib.hid (KN.out.trans hn); have z0 := hn.cell z0; have z1 := hn.cell z1; have M5 : Hid (HasP w2 g5 to tb st) := Lib.hid (HasC.new K5.out hn); clear hn)
            | (go_at_call 7; refine (knows_from _ HL.out NE.out).mono ?_; rintro e wk ⟨rfl, hnk⟩))
          go_ret
          exact ⟨rfl, hnk⟩
      | true =>
        have HM := Lib.hid hm
        have HMV : Hid (mvA f (itA f p k) = true) := Lib.hid (by unfold mvA; rw [HX.out]; exact hm)
        have HIN2 : Hid (InF f (q : Int)) := Lib.hid (by rw [← HQ.out]; exact it_in HIN.out KM.out)
        obtain ⟨r1, r2⟩ := along_rest KM.out HA.out.wy
        rw [HQ.out] at r1 r2
        have HW2 := Lib.hid r1
        have HTO2 : Hid (toP f (q : Int) (restO k o) = to) := Lib.hid (r2.trans HA.out.eto)
        have hst := along_st HA.out HIN.out KM.out
        obtain ⟨st2, HST2⟩ : ∃ st2, Hid (stP (restO k o) = st2) := ⟨_, Lib.hid rfl⟩
        obtain ⟨tb2, HTB2⟩ : ∃ tb2, Hid (tbP f (q : Int) (restO k o) = tb2) := ⟨_, Lib.hid rfl⟩
        have HNX0 : Hid (itA f p (k + 1) = if x.op = 16 then x.t else (q : Int) + 1) := Lib.hid (by
          show nxA f (itA f p k) = _
          unfold nxA
          rw [HX.out, HQ.out])
        have U2 : Hid True := Lib.hid trivial
        have U3 : Hid True := Lib.hid trivial
        have U4 : Hid True := Lib.hid trivial
        clear hm fin r1 r2
        rcases hst with hs | ⟨hs0, hs1, hs2⟩
        · by_cases h16 : x.op = 16
          · have dg : decide (0 ≤ to) = false := decide_eq_false (by omega)
            clear hs
            have q16 : (x.op == 16) = true := beq_of h16
            have HNX : Hid (x.t = itA f p (k + 1)) := Lib.hid (by rw [HNX0.out, if_pos h16])
            clear h16
            go_wp2_with (first
                | (clear U1; refine wpList_ldEG rfl (.tmp 37) rfl fb fo rfl (x := x) (HR.out _ KN.out) ?_)
                | (go_at_call 14; refine (refMoves_any x.op x.d x.a x.b x.n x.t _).mono ?_; rw [HM.out]; rintro e w2 ⟨rfl, hn⟩; have NE := Lib.hid (KN.out.trans hn); have z0 := hn.cell z0; have z1 := hn.cell z1; have M5 : Hid (HasP w2 g5 to tb st) := Lib.hid (HasC.new K5.out hn); clear hn)
                | (clear U2; go_at_call 8; refine (path_is (q := to) (t := tb2) (k := st2) HL.out NE.out (HF.out.new NE.out) HIN2.out HW2.out HTO2.out HTB2.out HST2.out).mono ?_; rintro e w5 ⟨rfl, hn⟩; have N5 := Lib.hid (NE.out.trans hn); have P5 : Hid (HasP w5 g5 to tb st) := Lib.hid (HasC.new M5.out hn); clear hn z0 z1)
                | (clear U3; refine wpList_alX rfl 29 rfl _ zeroP_run _ rfl ?_; intro w6 g9 hg9 hl9 H9 hn; have A9 : Hid (HasP w6 g9 0 noT 0) := Lib.hid H9; have n9 : w.heap.size ≤ g9 := Nat.le_trans N5.out.size hg9; have N6 := Lib.hid (N5.out.trans hn); have Q5 : Hid (HasP w6 g5 to tb st) := Lib.hid (HasC.new P5.out hn); have d59 : g5 ≠ g9 := Nat.ne_of_lt (Nat.lt_of_lt_of_le (HasC.lt P5.out) hg9); clear H9 hn)
                | (clear U4; refine wpList_stP rfl rfl (.tmp 9) (.tmp 47) rfl g9 rfl (to := to) (t := tb2) (n := st2) rfl A9.out ?_; intro w7 B9 k9; have C9 := Lib.hid B9; have R5 : Hid (HasP w7 g5 to tb st) := Lib.hid (HasC.kept Q5.out k9 d59); have N7 := Lib.hid (k9.below _ n9 N6.out); have y0 := HasP.at R5.out; have y1 := HasP.st R5.out; have v0 := HasP.at C9.out; have v1 := HasP.st C9.out; have u0 := (HR.out _ N7.out) 0 _ rfl; have u5 := (HR.out _ N7.out) 5 _ rfl; simp only [Nat.add_zero] at u0; clear B9 k9))
            go_roundw
            case rel => exact ⟨k + 1, by rw [← HNX.out], by go_num, by omega, R5, N7, Lib.hid (fun j hj => by
              rcases Nat.lt_or_ge j k with h | h
              · exact KM.out j h
              · rw [show j = k by omega]; exact HMV.out)⟩
            case measure => simp [intOf]; omega
          · have dg : decide (0 ≤ to) = false := decide_eq_false (by omega)
            clear hs
            have q16 : (x.op == 16) = false := bneq_of h16
            have HNX : Hid ((q : Int) + 1 = itA f p (k + 1)) := Lib.hid (by rw [HNX0.out, if_neg h16])
            clear h16
            go_wp2_with (first
                | (clear U1; refine wpList_ldEG rfl (.tmp 37) rfl fb fo rfl (x := x) (HR.out _ KN.out) ?_)
                | (go_at_call 14; refine (refMoves_any x.op x.d x.a x.b x.n x.t _).mono ?_; rw [HM.out]; rintro e w2 ⟨rfl, hn⟩; have NE := Lib.hid (KN.out.trans hn); have z0 := hn.cell z0; have z1 := hn.cell z1; have M5 : Hid (HasP w2 g5 to tb st) := Lib.hid (HasC.new K5.out hn); clear hn)
                | (clear U2; go_at_call 8; refine (path_is (q := to) (t := tb2) (k := st2) HL.out NE.out (HF.out.new NE.out) HIN2.out HW2.out HTO2.out HTB2.out HST2.out).mono ?_; rintro e w5 ⟨rfl, hn⟩; have N5 := Lib.hid (NE.out.trans hn); have P5 : Hid (HasP w5 g5 to tb st) := Lib.hid (HasC.new M5.out hn); clear hn z0 z1)
                | (clear U3; refine wpList_alX rfl 29 rfl _ zeroP_run _ rfl ?_; intro w6 g9 hg9 hl9 H9 hn; have A9 : Hid (HasP w6 g9 0 noT 0) := Lib.hid H9; have n9 : w.heap.size ≤ g9 := Nat.le_trans N5.out.size hg9; have N6 := Lib.hid (N5.out.trans hn); have Q5 : Hid (HasP w6 g5 to tb st) := Lib.hid (HasC.new P5.out hn); have d59 : g5 ≠ g9 := Nat.ne_of_lt (Nat.lt_of_lt_of_le (HasC.lt P5.out) hg9); clear H9 hn)
                | (clear U4; refine wpList_stP rfl rfl (.tmp 9) (.tmp 47) rfl g9 rfl (to := to) (t := tb2) (n := st2) rfl A9.out ?_; intro w7 B9 k9; have C9 := Lib.hid B9; have R5 : Hid (HasP w7 g5 to tb st) := Lib.hid (HasC.kept Q5.out k9 d59); have N7 := Lib.hid (k9.below _ n9 N6.out); have y0 := HasP.at R5.out; have y1 := HasP.st R5.out; have v0 := HasP.at C9.out; have v1 := HasP.st C9.out; have u0 := (HR.out _ N7.out) 0 _ rfl; have u5 := (HR.out _ N7.out) 5 _ rfl; simp only [Nat.add_zero] at u0; clear B9 k9))
            go_roundw
            case rel => exact ⟨k + 1, by rw [← HNX.out], by go_num, by omega, R5, N7, Lib.hid (fun j hj => by
              rcases Nat.lt_or_ge j k with h | h
              · exact KM.out j h
              · rw [show j = k by omega]; exact HMV.out)⟩
            case measure => simp [intOf]; omega
        · rw [HST2.out] at hs1
          by_cases h16 : x.op = 16
          · have dg : decide (0 ≤ to) = true := decide_eq_true hs0
            have dq : (st2 != st - (k : Int)) = false := by simp [hs1]
            have hk0 : (k : Int) ≤ st := hs2
            clear hs0 hs1 hs2
            have q16 : (x.op == 16) = true := beq_of h16
            have HNX : Hid (x.t = itA f p (k + 1)) := Lib.hid (by rw [HNX0.out, if_pos h16])
            clear h16
            go_wp2_with (first
                | (clear U1; refine wpList_ldEG rfl (.tmp 37) rfl fb fo rfl (x := x) (HR.out _ KN.out) ?_)
                | (go_at_call 14; refine (refMoves_any x.op x.d x.a x.b x.n x.t _).mono ?_; rw [HM.out]; rintro e w2 ⟨rfl, hn⟩; have NE := Lib.hid (KN.out.trans hn); have z0 := hn.cell z0; have z1 := hn.cell z1; have M5 : Hid (HasP w2 g5 to tb st) := Lib.hid (HasC.new K5.out hn); clear hn)
                | (clear U2; go_at_call 8; refine (path_is (q := to) (t := tb2) (k := st2) HL.out NE.out (HF.out.new NE.out) HIN2.out HW2.out HTO2.out HTB2.out HST2.out).mono ?_; rintro e w5 ⟨rfl, hn⟩; have N5 := Lib.hid (NE.out.trans hn); have P5 : Hid (HasP w5 g5 to tb st) := Lib.hid (HasC.new M5.out hn); clear hn z0 z1)
                | (clear U3; refine wpList_alX rfl 29 rfl _ zeroP_run _ rfl ?_; intro w6 g9 hg9 hl9 H9 hn; have A9 : Hid (HasP w6 g9 0 noT 0) := Lib.hid H9; have n9 : w.heap.size ≤ g9 := Nat.le_trans N5.out.size hg9; have N6 := Lib.hid (N5.out.trans hn); have Q5 : Hid (HasP w6 g5 to tb st) := Lib.hid (HasC.new P5.out hn); have d59 : g5 ≠ g9 := Nat.ne_of_lt (Nat.lt_of_lt_of_le (HasC.lt P5.out) hg9); clear H9 hn)
                | (clear U4; refine wpList_stP rfl rfl (.tmp 9) (.tmp 47) rfl g9 rfl (to := to) (t := tb2) (n := st2) rfl A9.out ?_; intro w7 B9 k9; have C9 := Lib.hid B9; have R5 : Hid (HasP w7 g5 to tb st) := Lib.hid (HasC.kept Q5.out k9 d59); have N7 := Lib.hid (k9.below _ n9 N6.out); have y0 := HasP.at R5.out; have y1 := HasP.st R5.out; have v0 := HasP.at C9.out; have v1 := HasP.st C9.out; have u0 := (HR.out _ N7.out) 0 _ rfl; have u5 := (HR.out _ N7.out) 5 _ rfl; simp only [Nat.add_zero] at u0; clear B9 k9))
            go_roundw
            case rel => exact ⟨k + 1, by rw [← HNX.out], by go_num, by omega, R5, N7, Lib.hid (fun j hj => by
              rcases Nat.lt_or_ge j k with h | h
              · exact KM.out j h
              · rw [show j = k by omega]; exact HMV.out)⟩
            case measure => simp [intOf]; omega
          · have dg : decide (0 ≤ to) = true := decide_eq_true hs0
            have dq : (st2 != st - (k : Int)) = false := by simp [hs1]
            have hk0 : (k : Int) ≤ st := hs2
            clear hs0 hs1 hs2
            have q16 : (x.op == 16) = false := bneq_of h16
            have HNX : Hid ((q : Int) + 1 = itA f p (k + 1)) := Lib.hid (by rw [HNX0.out, if_neg h16])
            clear h16
            go_wp2_with (first
                | (clear U1; refine wpList_ldEG rfl (.tmp 37) rfl fb fo rfl (x := x) (HR.out _ KN.out) ?_)
                | (go_at_call 14; refine (refMoves_any x.op x.d x.a x.b x.n x.t _).mono ?_; rw [HM.out]; rintro e w2 ⟨rfl, hn⟩; have NE := Lib.hid (KN.out.trans hn); have z0 := hn.cell z0; have z1 := hn.cell z1; have M5 : Hid (HasP w2 g5 to tb st) := Lib.hid (HasC.new K5.out hn); clear hn)
                | (clear U2; go_at_call 8; refine (path_is (q := to) (t := tb2) (k := st2) HL.out NE.out (HF.out.new NE.out) HIN2.out HW2.out HTO2.out HTB2.out HST2.out).mono ?_; rintro e w5 ⟨rfl, hn⟩; have N5 := Lib.hid (NE.out.trans hn); have P5 : Hid (HasP w5 g5 to tb st) := Lib.hid (HasC.new M5.out hn); clear hn z0 z1)
                | (clear U3; refine wpList_alX rfl 29 rfl _ zeroP_run _ rfl ?_; intro w6 g9 hg9 hl9 H9 hn; have A9 : Hid (HasP w6 g9 0 noT 0) := Lib.hid H9; have n9 : w.heap.size ≤ g9 := Nat.le_trans N5.out.size hg9; have N6 := Lib.hid (N5.out.trans hn); have Q5 : Hid (HasP w6 g5 to tb st) := Lib.hid (HasC.new P5.out hn); have d59 : g5 ≠ g9 := Nat.ne_of_lt (Nat.lt_of_lt_of_le (HasC.lt P5.out) hg9); clear H9 hn)
                | (clear U4; refine wpList_stP rfl rfl (.tmp 9) (.tmp 47) rfl g9 rfl (to := to) (t := tb2) (n := st2) rfl A9.out ?_; intro w7 B9 k9; have C9 := Lib.hid B9; have R5 : Hid (HasP w7 g5 to tb st) := Lib.hid (HasC.kept Q5.out k9 d59); have N7 := Lib.hid (k9.below _ n9 N6.out); have y0 := HasP.at R5.out; have y1 := HasP.st R5.out; have v0 := HasP.at C9.out; have v1 := HasP.st C9.out; have u0 := (HR.out _ N7.out) 0 _ rfl; have u5 := (HR.out _ N7.out) 5 _ rfl; simp only [Nat.add_zero] at u0; clear B9 k9))
            go_roundw
            case rel => exact ⟨k + 1, by rw [← HNX.out], by go_num, by omega, R5, N7, Lib.hid (fun j hj => by
              rcases Nat.lt_or_ge j k with h | h
              · exact KM.out j h
              · rw [show j = k by omega]; exact HMV.out)⟩
            case measure => simp [intOf]; omega
    · have dk : decide ((k : Int) < (n : Int)) = false := decide_eq_false (by omega)
      have HE := fin (.inl (by omega))
      have NE := KN
      clear fin
      rcases HE.out with hd | ⟨hd, he⟩
      · have dn : decide (to < 0) = true := decide_eq_true hd
        clear hd
        go_wp2_with (first
          | (go_at_call 7; refine (knows_from _ HL.out NE.out).mono ?_; rintro e wk ⟨rfl, hnk⟩))
        go_ret
        exact ⟨rfl, hnk⟩
      · have dn : decide (to < 0) = false := decide_eq_false (by omega)
        have de : ((q : Int) == to) = true := beq_of he
        clear hd he
        go_wp2_with (first
          | (go_at_call 7; refine (knows_from _ HL.out NE.out).mono ?_; rintro e wk ⟨rfl, hnk⟩))
        go_ret
        exact ⟨rfl, hnk⟩
theorem pathAlong_law (v : Value) (f : List I) (p : Int) (w : World) (hf : FunAt w v f) (_hi : ∀ x ∈ f, In64I x) (_hn : f.length ≤ maxLen) (_hp : In64 p) (hl : Laid w) :
    Calls Tryd.prog 6 #[v, .int .i64 p] w fun e w' => e = .returned (.bool true) ∧ New w w' := by
  by_cases h : f.length ≤ 300 ∧ InF f p
  · obtain ⟨ao, fc, rfl⟩ := hf.form
    exact pathAlong_in ao _ fc f p w hf hl h.1 h.2
  · exact pathAlong_out v f p w hf hl fun h1 h2 => h ⟨h1, h2⟩
end Go.Proofs.YtfjlglnjonijdaaDoor
