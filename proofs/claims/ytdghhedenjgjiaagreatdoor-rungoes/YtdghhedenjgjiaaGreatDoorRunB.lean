/-
  The contracts of run.still and run.Begin: for every argument.
-/
import Derived.Test.YtdghhedenjgjiaaGreatDoorRunA
import Derived.Test.YtdghhedenjgjiaaGreatDoorHeapB
namespace Go.Proofs.YtdghhedenjgjiaaGreatDoor
open Go.RowKit

def wsEq (l l2 : Ws) : Bool := (List.range 24).all fun i => decide (l i = l2 i)
theorem wsEq_iff {l l2 : Ws} : wsEq l l2 = true ↔ ∀ i < 24, l i = l2 i := by simp [wsEq]
def stlB (l l2 : Ws) (p q p2 q2 : Int) (zs z2 : List Int) : Bool := decide (p = p2 ∧ q = q2 ∧ wsEq l l2 = true) && eqB zs z2
theorem stl_iff {l l2 : Ws} {p q p2 q2 : Int} {zs z2 : List Int} : stlB l l2 p q p2 q2 zs z2 = true ↔ (p = p2 ∧ q = q2 ∧ ∀ i < 24, l i = l2 i) ∧ eqB zs z2 = true := by
  unfold stlB
  rw [Bool.and_eq_true, decide_eq_true_iff, wsEq_iff]
theorem run_neqWx (x y : Wd) (w : World) {b : Bool} (h : (!decide (x = y)) = b) : (binOp .neq 24 (.agg #[.bool x.1, .int .i64 x.2]) (.agg #[.bool y.1, .int .i64 y.2])).run Tryz.prog w = .ok (.bool b) w := by
  obtain ⟨a, n⟩ := x
  obtain ⟨c, m⟩ := y
  subst h
  have e : (decide ((a, n) = (c, m))) = ((a == c) && (n == m)) := by
    rw [Bool.eq_iff_iff]
    simp [Prod.ext_iff]
  rw [e]
  cases a <;> cases c <;> go_simp
  all_goals by_cases h : n = m <;> simp [h]
theorem same_eq {xs ys : List Int} {v1 v2 : Value} {w : World} (h1 : Hp w v1 xs) (h2 : Hp w v2 ys) (hb : xs.length ≤ 1000) {b : Bool} (h : eqB xs ys = b) :
    Calls Tryz.prog 59 #[v1, v2] w fun e w' => e = .returned (.bool b) ∧ New w w' := by
  subst h
  exact same_any xs ys v1 v2 w h1 h2 hb
set_option maxHeartbeats 4000000 in
set_option maxRecDepth 100000 in
theorem still_is {l l2 : Ws} {s r : Sl} {p q p2 q2 : Int} {zs z2 : List Int} {w : World} (h1 : Hp w (.slice s.ao s.n s.c) zs) (h2 : Hp w (.slice r.ao r.n r.c) z2) (hz : zs.length ≤ 16) {b : Bool} (hb : stlB l l2 p q p2 q2 zs z2 = b) :
    Calls Tryz.prog 46 #[.agg (cellsS l s p q).toArray, .agg (cellsS l2 r p2 q2).toArray] w fun e w' => e = .returned (.bool b) ∧ New w w' := by
  subst hb
  have H1 := Lib.hid h1
  have H2 := Lib.hid h2
  have HZ : Hid (zs.length ≤ 1000) := Lib.hid (by omega)
  clear h1 h2 hz
  have T1 : Hid True := Lib.hid trivial
  have T2 : Hid True := Lib.hid trivial
  have T3 : Hid True := Lib.hid trivial
  by_cases hp : p = p2
  · have qp : (p != p2) = false := by simpa using hp
    by_cases hq : q = q2
    · have qq : (q != q2) = false := by simpa using hq
      have HP := Lib.hid hp
      have HQ := Lib.hid hq
      clear hp hq
      go_enter Tryz.func46, Tryz.ntmps46
      go_wp2_with (first
        | (clear T1; refine wpList_boxX rfl 28 (.tmp 0) rfl (cellsS l s p q) rfl ?_; intro w1 g2 hg2 hl2 A2 hn1; have HA : Hid (HasS w1 g2 l s p q) := Lib.hid A2; clear A2)
        | (clear T2; refine wpList_boxX rfl 28 (.tmp 1) rfl (cellsS l2 r p2 q2) rfl ?_; intro w2 g3 hg3 hl3 A3 hn2; have HB : Hid (HasS w2 g3 l2 r p2 q2) := Lib.hid A3; replace HA : Hid (HasS w2 g2 l s p q) := Lib.hid (HasC.new HA.out hn2); have c49 := HasS.at HA.out; have c50 := HasS.ask HA.out; have e49 := HasS.at HB.out; have e50 := HasS.ask HB.out; clear A3)
        | (clear T3; refine wpList_ldAr rfl (.tmp 19) rfl g2 rfl HA.out ?_))
      have HN := Lib.hid (hn1.trans hn2)
      clear hn1 hn2 hg2 hg3 hl2 hl3 c49 c50 e49 e50
      go_loopw [21] (fun kv wr => ∃ k : Nat, kv = .int .i64 k ∧ k ≤ 24 ∧ Hid (New w2 wr) ∧ Hid (∀ i < k, l i = l2 i)) (fun kv _ => 24 - (intOf kv).toNat)
      case atStart => exact ⟨0, rfl, by omega, Lib.hid (New.refl _), Lib.hid (fun i hi => absurd hi (Nat.not_lt_zero _))⟩
      case round =>
        obtain ⟨k, rfl, hk, HR, HO⟩ := hrel
        have y1 := HasS.hp (HasC.new HA.out HR.out)
        have y2 := HasS.hp (HasC.new HB.out HR.out)
        by_cases hk24 : k < 24
        · have hx := fun w => run_ixW l k hk24 w
          have hk24' : (k : Int) < 24 := by omega
          have Ta : Hid True := Lib.hid trivial
          have Ts : Hid True := Lib.hid trivial
          by_cases he : l k = l2 k
          · have hq := fun w => run_neqWx (l k) (l2 k) w (b := false) (by simp [he])
            have HE := Lib.hid he
            clear he
            go_wp2_with (first
              | (clear Ta; refine wpList_alX rfl 24 rfl _ zeroD_run _ rfl ?_; intro w4 g6 hg6 hl6 H6 hn4; have HD : Hid (HasD w4 g6 (false, 0)) := Lib.hid H6; clear H6)
              | (clear Ts; refine wpList_stDd rfl rfl (.tmp 6) (.tmp 24) rfl g6 rfl (l k) rfl HD.out ?_; intro w5 H5 k5; replace HD : Hid (HasD w5 g6 (l k)) := Lib.hid H5; have HN5 : Hid (New wr w5) := Lib.hid (k5.below wr hg6 hn4); clear H5 k5 hn4))
            have hne := newW_any w5
            refine wp_region_new (New.refl w5) (by kernel_rfl) (by kernel_rfl) ?_
            repeat (first
              | (refine wpQuiet_ldWm rfl (.tmp 6) rfl g6 0 rfl (x := l k) (by rintro w' ⟨y, rfl⟩; exact (HasC.new HD.out y.property).all) ?_; simp only [Act.put, List.setIfInBounds_toArray, List.set_cons_zero, List.set_cons_succ])
              | (refine wpQuiet_ldWm rfl (.tmp 28) rfl g3 (2 * k) (by rw [Nat.mul_comm]; rfl) (x := l2 k) (by rintro w' ⟨y, rfl⟩; exact HasS.word (HasC.new HB.out ((HR.out.trans HN5.out).trans y.property)) hk24) ?_; simp only [Act.put, List.setIfInBounds_toArray, List.set_cons_zero, List.set_cons_succ])
              | go_big_quiet_step (first | fail))
            refine wpQuiet_nil ?_
            intro w6 hn6
            go_wp2
            go_roundw
            case rel => exact ⟨k + 1, by go_num, hk24, Lib.hid ((HR.out.trans HN5.out).trans hn6), Lib.hid (fun i hi => by
              by_cases e : i = k
              · rw [e]; exact HE.out
              · exact HO.out i (by omega))⟩
            case measure => simp [intOf]; omega
          · have hq := fun w => run_neqWx (l k) (l2 k) w (b := true) (by simp [he])
            have HE := Lib.hid he
            clear he
            go_wp2_with (first
              | (clear Ta; refine wpList_alX rfl 24 rfl _ zeroD_run _ rfl ?_; intro w4 g6 hg6 hl6 H6 hn4; have HD : Hid (HasD w4 g6 (false, 0)) := Lib.hid H6; clear H6)
              | (clear Ts; refine wpList_stDd rfl rfl (.tmp 6) (.tmp 24) rfl g6 rfl (l k) rfl HD.out ?_; intro w5 H5 k5; replace HD : Hid (HasD w5 g6 (l k)) := Lib.hid H5; have HN5 : Hid (New wr w5) := Lib.hid (k5.below wr hg6 hn4); clear H5 k5 hn4))
            have hne := newW_any w5
            refine wp_region_new (New.refl w5) (by kernel_rfl) (by kernel_rfl) ?_
            repeat (first
              | (refine wpQuiet_ldWm rfl (.tmp 6) rfl g6 0 rfl (x := l k) (by rintro w' ⟨y, rfl⟩; exact (HasC.new HD.out y.property).all) ?_; simp only [Act.put, List.setIfInBounds_toArray, List.set_cons_zero, List.set_cons_succ])
              | (refine wpQuiet_ldWm rfl (.tmp 28) rfl g3 (2 * k) (by rw [Nat.mul_comm]; rfl) (x := l2 k) (by rintro w' ⟨y, rfl⟩; exact HasS.word (HasC.new HB.out ((HR.out.trans HN5.out).trans y.property)) hk24) ?_; simp only [Act.put, List.setIfInBounds_toArray, List.set_cons_zero, List.set_cons_succ])
              | go_big_quiet_step (first | fail))
            refine wpQuiet_nil ?_
            intro w6 hn6
            go_wp2
            go_ret
            refine ⟨ret_bool ?_, HN.out.trans ((HR.out.trans HN5.out).trans hn6)⟩
            have hf : decide (p = p2 ∧ q = q2 ∧ wsEq l l2 = true) = false := decide_eq_false (fun h => HE.out (wsEq_iff.mp h.2.2 k hk24))
            unfold stlB
            rw [hf]
            rfl
        · obtain rfl : k = 24 := by omega
          have HT : Hid (stlB l l2 p q p2 q2 zs z2 = eqB zs z2) := Lib.hid (by
            have ht : decide (p = p2 ∧ q = q2 ∧ wsEq l l2 = true) = true := decide_eq_true ⟨HP.out, HQ.out, wsEq_iff.mpr HO.out⟩
            unfold stlB
            rw [ht, Bool.true_and])
          go_wp2_with (first
            | (go_at_call 59; refine (same_eq (H1.out.new (HN.out.trans HR.out)) (H2.out.new (HN.out.trans HR.out)) HZ.out HT.out.symm).mono ?_; rintro e w5 ⟨rfl, hn5⟩))
          go_ret
          exact ⟨rfl, (HN.out.trans HR.out).trans hn5⟩
    · have qq : (q != q2) = true := by simpa using hq
      have HF : Hid (stlB l l2 p q p2 q2 zs z2 = false) := Lib.hid (by
        have hf : decide (p = p2 ∧ q = q2 ∧ wsEq l l2 = true) = false := decide_eq_false (fun h => hq h.2.1)
        unfold stlB
        rw [hf]
        rfl)
      clear hp hq T3
      go_enter Tryz.func46, Tryz.ntmps46
      go_wp2_with (first
        | (clear T1; refine wpList_boxX rfl 28 (.tmp 0) rfl (cellsS l s p q) rfl ?_; intro w1 g2 hg2 hl2 A2 hn1; have HA : Hid (HasS w1 g2 l s p q) := Lib.hid A2; clear A2)
        | (clear T2; refine wpList_boxX rfl 28 (.tmp 1) rfl (cellsS l2 r p2 q2) rfl ?_; intro w2 g3 hg3 hl3 A3 hn2; have HB : Hid (HasS w2 g3 l2 r p2 q2) := Lib.hid A3; replace HA : Hid (HasS w2 g2 l s p q) := Lib.hid (HasC.new HA.out hn2); have c49 := HasS.at HA.out; have c50 := HasS.ask HA.out; have e49 := HasS.at HB.out; have e50 := HasS.ask HB.out; clear A3))
      go_ret
      exact ⟨ret_bool HF.out.symm, hn1.trans hn2⟩
  · have qp : (p != p2) = true := by simpa using hp
    have HF : Hid (stlB l l2 p q p2 q2 zs z2 = false) := Lib.hid (by
      have hf : decide (p = p2 ∧ q = q2 ∧ wsEq l l2 = true) = false := decide_eq_false (fun h => hp h.1)
      unfold stlB
      rw [hf]
      rfl)
    clear hp T3
    go_enter Tryz.func46, Tryz.ntmps46
    go_wp2_with (first
      | (clear T1; refine wpList_boxX rfl 28 (.tmp 0) rfl (cellsS l s p q) rfl ?_; intro w1 g2 hg2 hl2 A2 hn1; have HA : Hid (HasS w1 g2 l s p q) := Lib.hid A2; clear A2)
      | (clear T2; refine wpList_boxX rfl 28 (.tmp 1) rfl (cellsS l2 r p2 q2) rfl ?_; intro w2 g3 hg3 hl3 A3 hn2; have HB : Hid (HasS w2 g3 l2 r p2 q2) := Lib.hid A3; replace HA : Hid (HasS w2 g2 l s p q) := Lib.hid (HasC.new HA.out hn2); have c49 := HasS.at HA.out; have c50 := HasS.ask HA.out; have e49 := HasS.at HB.out; have e50 := HasS.ask HB.out; clear A3))
    go_ret
    exact ⟨ret_bool HF.out.symm, hn1.trans hn2⟩
end Go.Proofs.YtdghhedenjgjiaaGreatDoor
