/-
  'HeapSelf', 'HeapBounds', 'HeapKeeps': true, for every input.
-/
import Derived.Test.YtojjdghpeokplaaHeapLawA
namespace Go.Proofs.Ytojjdghpeokplaa
open Go.RowKit

theorem store_is {zs : List Int} {a x : Int} {v : Value} {w : World} (h : Hp w v zs) {m : Nat} {q : Int} (hm : (hpSt zs a x).length = m) (hq : hpHow zs a = q) :
    Calls Try.prog 12 #[v, .int .i64 a, .int .i64 x] w fun e w' => ∃ ao cap, e = .returned (.tuple #[.slice ao m cap, .int .i64 q]) ∧ Hp w' (.slice ao m cap) (hpSt zs a x) ∧ New w w' := by
  refine (store_any zs a x v w h).mono ?_
  rintro e w' ⟨v', rfl, hp, hn⟩
  obtain ⟨ao, cap, rfl⟩ := hp.form
  rw [hm] at hp ⊢
  exact ⟨ao, cap, ret_vi hq, hp, hn⟩
theorem load_is {zs : List Int} {a : Int} {v : Value} {w : World} (h : Hp w v zs) {x q : Int} (hx : hpLd zs a = x) (hq : hpHow zs a = q) :
    Calls Try.prog 10 #[v, .int .i64 a] w fun e w' => e = .returned (.tuple #[.int .i64 x, .int .i64 q]) ∧ w' = w := by
  have := load_any zs a v w h
  rwa [hx, hq] at this
theorem same_is {xs ys : List Int} {v1 v2 : Value} {w : World} (h1 : Hp w v1 xs) (h2 : Hp w v2 ys) (hb : xs.length ≤ 1000) {b : Bool} (h : eqB xs ys = b) :
    Calls Try.prog 16 #[v1, v2] w fun e w' => e = .returned (.bool b) ∧ New w w' := by
  have := same_any xs ys v1 v2 w h1 h2 hb
  rwa [h] at this
theorem hpSt_none {zs : List Int} {a : Int} (x : Int) (h : inB zs a = false) : (hpSt zs a x).length = 0 := by rw [hpSt_out x h]; rfl

set_option maxHeartbeats 4000000 in
set_option maxRecDepth 100000 in
theorem self_in (zs : List Int) (a : Int) (ao : Option Addr) (n cap : Nat) (w : World) (h : Hp w (.slice ao n cap) zs) :
    Calls Try.prog 7 #[.slice ao n cap, .int .i64 a] w fun e w' => e = .returned (.bool true) ∧ New w w' := by
  have HP := Lib.hid h
  have HN := Lib.hid (New.refl w)
  clear h
  by_cases n1 : n ≤ 100
  · have g1 := not_gt n1
    cases hi : inB zs a with
    | false =>
      have E1 := Lib.hid (hpLd_out hi)
      have E2 := Lib.hid (hpHow_out hi)
      have E3 := Lib.hid (hpSt_none 0 hi)
      clear n1 hi
      go_enter Try.func7, Try.ntmps7
      go_wp2_with (first
        | (go_at_call 10; refine (load_is HP.out E1.out E2.out).mono ?_; rintro e w1 ⟨rfl, rfl⟩)
        | (go_at_call 12; refine (store_is HP.out E3.out E2.out).mono ?_; rintro e w1 ⟨bo, dap, rfl, hp, hn⟩; replace HN := Lib.hid (HN.out.trans hn); clear hn hp)
        | (go_at_call 9; refine (knows_from _ HN.out).mono ?_; rintro e w1 ⟨rfl, hn⟩; replace HN := Lib.hid hn; clear hn))
      go_ret
      exact ⟨rfl, HN.out⟩
    | true =>
      have E2 := Lib.hid (hpHow_in hi)
      have E3 : Hid ((hpSt zs a (hpLd zs a)).length = n) := Lib.hid (by rw [hpSt_len _ hi]; exact HP.out.len.symm)
      have E4 := Lib.hid (eqB_mk (st_self hi))
      have E5 : Hid ((hpSt zs a (hpLd zs a)).length ≤ 1000) := Lib.hid (by rw [E3.out]; omega)
      clear n1 hi
      go_enter Try.func7, Try.ntmps7
      go_wp2_with (first
        | (go_at_call 10; refine (load_is HP.out rfl E2.out).mono ?_; rintro e w1 ⟨rfl, rfl⟩)
        | (go_at_call 12; refine (store_is HP.out E3.out E2.out).mono ?_; rintro e w1 ⟨bo, dap, rfl, hp, hn⟩; replace HN := Lib.hid (HN.out.trans hn); have HV := Lib.hid hp; clear hn hp)
        | (go_at_call 16; refine (same_is HV.out (HP.out.new HN.out) E5.out E4.out).mono ?_; rintro e w1 ⟨rfl, hn⟩; replace HN := Lib.hid (HN.out.trans hn); clear hn)
        | (go_at_call 9; refine (knows_from _ HN.out).mono ?_; rintro e w1 ⟨rfl, hn⟩; replace HN := Lib.hid hn; clear hn))
      go_ret
      exact ⟨rfl, HN.out⟩
  · have g1 := gt_of n1
    go_enter Try.func7, Try.ntmps7
    go_wp2_with (go_at_call 9; refine (knows_from _ HN.out).mono ?_; rintro e w1 ⟨rfl, hn⟩; replace HN := Lib.hid hn; clear hn)
    go_ret
    exact ⟨rfl, HN.out⟩
theorem heapSelf_law (v : Value) (zs : List Int) (a : Int) (w : World) (h : RowAt w v (zs.map (.int .i64))) (_ha : In64 a) :
    Calls Try.prog 7 #[v, .int .i64 a] w fun e w' => e = .returned (.bool true) ∧ New w w' := by
  obtain ⟨ao, cap, rfl⟩ := Hp.form h
  exact self_in zs a ao _ cap w h

set_option maxHeartbeats 4000000 in
set_option maxRecDepth 100000 in
theorem bounds_in (zs : List Int) (a x : Int) (ao : Option Addr) (n cap : Nat) (w : World) (h : Hp w (.slice ao n cap) zs) :
    Calls Try.prog 8 #[.slice ao n cap, .int .i64 a, .int .i64 x] w fun e w' => e = .returned (.bool true) ∧ New w w' := by
  have HP := Lib.hid h
  have HN := Lib.hid (New.refl w)
  clear h
  by_cases n1 : n ≤ 100
  · have g1 := not_gt n1
    cases hi : inB zs a with
    | false =>
      have E1 := Lib.hid (hpLd_out hi)
      have E2 := Lib.hid (hpHow_out hi)
      have E3 := Lib.hid (hpSt_none x hi)
      have hc : (¬ (n : Int) ≤ 16) ∨ ((n : Int) ≤ 16 ∧ ¬ 0 ≤ a) ∨ ((n : Int) ≤ 16 ∧ 0 ≤ a ∧ decide (a < (n : Int)) = false) := by
        have := HP.out.len
        unfold inB at hi
        rw [decide_eq_false_iff_not] at hi
        rw [decide_eq_false_iff_not]
        omega
      clear n1 hi
      rcases hc with c1 | ⟨c1, c2⟩ | ⟨c1, c2, c3⟩
      all_goals
        go_enter Try.func8, Try.ntmps8
        go_wp2_with (first
          | (go_at_call 10; refine (load_is HP.out E1.out E2.out).mono ?_; rintro e w1 ⟨rfl, rfl⟩)
          | (go_at_call 12; refine (store_is HP.out E3.out E2.out).mono ?_; rintro e w1 ⟨bo, dap, rfl, hp, hn⟩; replace HN := Lib.hid (HN.out.trans hn); clear hn hp)
          | (go_at_call 9; refine (knows_from _ HN.out).mono ?_; rintro e w1 ⟨rfl, hn⟩; replace HN := Lib.hid hn; clear hn))
        go_ret
        exact ⟨rfl, HN.out⟩
    | true =>
      have E2 := Lib.hid (hpHow_in hi)
      have E3 : Hid ((hpSt zs a x).length = n) := Lib.hid (by rw [hpSt_len _ hi]; exact HP.out.len.symm)
      have hl := HP.out.len
      have hd := inB_nat hi
      have c1 : (n : Int) ≤ 16 := by omega
      have c2 : 0 ≤ a := by omega
      have c3 : a < (n : Int) := by omega
      obtain ⟨p, y, e, hx, hc⟩ := Hp.ix HP.out hd.2.2
      rw [← hd.2.1] at hx
      obtain rfl : hpLd zs a = y := by rw [hpLd_in hi] at e; exact Option.some.inj e
      have HC := Lib.hid hc
      clear n1 hi hl hd e hc
      go_enter Try.func8, Try.ntmps8
      go_wp2_with (first
        | (go_at_call 10; refine (load_is HP.out rfl E2.out).mono ?_; rintro e w1 ⟨rfl, rfl⟩)
        | (go_at_call 12; refine (store_is HP.out E3.out E2.out).mono ?_; rintro e w1 ⟨bo, dap, rfl, hp, hn⟩; replace HN := Lib.hid (HN.out.trans hn); have hcell := HC.out _ HN.out; clear hn hp)
        | (go_at_call 9; refine (knows_from _ HN.out).mono ?_; rintro e w1 ⟨rfl, hn⟩; replace HN := Lib.hid hn; clear hn))
      go_ret
      exact ⟨rfl, HN.out⟩
  · have g1 := gt_of n1
    go_enter Try.func8, Try.ntmps8
    go_wp2_with (go_at_call 9; refine (knows_from _ HN.out).mono ?_; rintro e w1 ⟨rfl, hn⟩; replace HN := Lib.hid hn; clear hn)
    go_ret
    exact ⟨rfl, HN.out⟩
theorem heapBounds_law (v : Value) (zs : List Int) (a x : Int) (w : World) (h : RowAt w v (zs.map (.int .i64))) (_ha : In64 a) (_hx : In64 x) :
    Calls Try.prog 8 #[v, .int .i64 a, .int .i64 x] w fun e w' => e = .returned (.bool true) ∧ New w w' := by
  obtain ⟨ao, cap, rfl⟩ := Hp.form h
  exact bounds_in zs a x ao _ cap w h

set_option maxHeartbeats 4000000 in
set_option maxRecDepth 100000 in
theorem keeps_in (zs : List Int) (a x o : Int) (ao : Option Addr) (n cap : Nat) (w : World) (h : Hp w (.slice ao n cap) zs) :
    Calls Try.prog 4 #[.slice ao n cap, .int .i64 a, .int .i64 x, .int .i64 o] w fun e w' => e = .returned (.bool true) ∧ New w w' := by
  have HP := Lib.hid h
  have HN := Lib.hid (New.refl w)
  clear h
  by_cases n1 : n ≤ 100
  · have g1 := not_gt n1
    cases hi : inB zs a with
    | false =>
      have E2 := Lib.hid (hpHow_out hi)
      have E3 := Lib.hid (hpSt_none x hi)
      clear n1 hi
      go_enter Try.func4, Try.ntmps4
      go_wp2_with (first
        | (go_at_call 12; refine (store_is HP.out E3.out E2.out).mono ?_; rintro e w1 ⟨bo, dap, rfl, hp, hn⟩; replace HN := Lib.hid (HN.out.trans hn); clear hn hp)
        | (go_at_call 9; refine (knows_from _ HN.out).mono ?_; rintro e w1 ⟨rfl, hn⟩; replace HN := Lib.hid hn; clear hn))
      go_ret
      exact ⟨rfl, HN.out⟩
    | true =>
      have E2 := Lib.hid (hpHow_in hi)
      have E3 : Hid ((hpSt zs a x).length = n) := Lib.hid (by rw [hpSt_len _ hi]; exact HP.out.len.symm)
      have r1 := ld_st x hi
      have r2 : hpHow (hpSt zs a x) a = 0 := by rw [how_st x hi]; exact hpHow_in hi
      have r3 := how_st x hi o
      by_cases ho : o = a
      · subst ho
        clear n1 hi r3
        have r4 := E2.out
        go_enter Try.func4, Try.ntmps4
        go_wp2_with (first
          | (go_at_call 12; refine (store_is HP.out E3.out E2.out).mono ?_; rintro e w1 ⟨bo, dap, rfl, hp, hn⟩; replace HN := Lib.hid (HN.out.trans hn); have HV := Lib.hid hp; have HP1 := Lib.hid (HP.out.new HN.out); clear hn hp)
          | (go_at_call 10; refine (load_any _ _ _ _ (by first | exact HV.out | exact HP1.out)).mono ?_; rintro e w1 ⟨rfl, rfl⟩)
          | (go_at_call 9; refine (knows_from _ HN.out).mono ?_; rintro e w1 ⟨rfl, hn⟩; replace HN := Lib.hid hn; clear hn))
        go_ret
        exact ⟨rfl, HN.out⟩
      · have r4 := ld_other x hi ho
        have q := bneq_of ho
        clear n1 hi ho
        go_enter Try.func4, Try.ntmps4
        go_wp2_with (first
          | (go_at_call 12; refine (store_is HP.out E3.out E2.out).mono ?_; rintro e w1 ⟨bo, dap, rfl, hp, hn⟩; replace HN := Lib.hid (HN.out.trans hn); have HV := Lib.hid hp; have HP1 := Lib.hid (HP.out.new HN.out); clear hn hp)
          | (go_at_call 10; refine (load_any _ _ _ _ (by first | exact HV.out | exact HP1.out)).mono ?_; rintro e w1 ⟨rfl, rfl⟩)
          | (go_at_call 9; refine (knows_from _ HN.out).mono ?_; rintro e w1 ⟨rfl, hn⟩; replace HN := Lib.hid hn; clear hn))
        go_ret
        exact ⟨rfl, HN.out⟩
  · have g1 := gt_of n1
    go_enter Try.func4, Try.ntmps4
    go_wp2_with (go_at_call 9; refine (knows_from _ HN.out).mono ?_; rintro e w1 ⟨rfl, hn⟩; replace HN := Lib.hid hn; clear hn)
    go_ret
    exact ⟨rfl, HN.out⟩
theorem heapKeeps_law (v : Value) (zs : List Int) (a x o : Int) (w : World) (h : RowAt w v (zs.map (.int .i64))) (_ha : In64 a) (_hx : In64 x) (_ho : In64 o) :
    Calls Try.prog 4 #[v, .int .i64 a, .int .i64 x, .int .i64 o] w fun e w' => e = .returned (.bool true) ∧ New w w' := by
  obtain ⟨ao, cap, rfl⟩ := Hp.form h
  exact keeps_in zs a x o ao _ cap w h
end Go.Proofs.Ytojjdghpeokplaa
