/-
  'HeapOrders': true, for every input.
-/
import Derived.Test.YtojjdghpeokplaaHeapLawB
namespace Go.Proofs.Ytojjdghpeokplaa
open Go.RowKit

set_option maxHeartbeats 4000000 in
set_option maxRecDepth 100000 in
theorem orders_in (zs : List Int) (a x o y : Int) (ao : Option Addr) (n cap : Nat) (w : World) (h : Hp w (.slice ao n cap) zs) :
    Calls Try.prog 5 #[.slice ao n cap, .int .i64 a, .int .i64 x, .int .i64 o, .int .i64 y] w fun e w' => e = .returned (.bool true) ∧ New w w' := by
  have HP := Lib.hid h
  have HN := Lib.hid (New.refl w)
  clear h
  by_cases n1 : n ≤ 100
  · have g1 := not_gt n1
    cases hi : inB zs a with
    | false =>
      have E2 := Lib.hid (hpHow_out hi)
      have E3 := Lib.hid (hpSt_none x hi)
      have T0 : Hid True := Lib.hid trivial
      clear n1 hi
      go_enter Try.func5, Try.ntmps5
      go_wp2_with (first
        | (go_at_call 12; clear T0; refine (store_is HP.out E3.out E2.out).mono ?_; rintro e w1 ⟨bo, dap, rfl, hp, hn⟩; replace HN := Lib.hid (HN.out.trans hn); clear hn hp)
        | (go_at_call 12; refine (store_is (HP.out.new HN.out) rfl rfl).mono ?_; rintro e w1 ⟨co, eap, rfl, hp, hn⟩; replace HN := Lib.hid (HN.out.trans hn); clear hn hp)
        | (go_at_call 9; refine (knows_from _ HN.out).mono ?_; rintro e w1 ⟨rfl, hn⟩; replace HN := Lib.hid hn; clear hn))
      go_ret
      exact ⟨rfl, HN.out⟩
    | true =>
      have E2 := Lib.hid (hpHow_in hi)
      have E3 : Hid ((hpSt zs a x).length = n) := Lib.hid (by rw [hpSt_len _ hi]; exact HP.out.len.symm)
      cases hj : inB zs o with
      | false =>
        have F2 := Lib.hid (hpHow_out hj)
        have F3 := Lib.hid (hpSt_none y hj)
        have T0 : Hid True := Lib.hid trivial
        clear n1 hi hj
        go_enter Try.func5, Try.ntmps5
        go_wp2_with (first
          | (go_at_call 12; clear T0; refine (store_is HP.out E3.out E2.out).mono ?_; rintro e w1 ⟨bo, dap, rfl, hp, hn⟩; replace HN := Lib.hid (HN.out.trans hn); clear hn hp)
          | (go_at_call 12; refine (store_is (HP.out.new HN.out) F3.out F2.out).mono ?_; rintro e w1 ⟨co, eap, rfl, hp, hn⟩; replace HN := Lib.hid (HN.out.trans hn); clear hn hp)
          | (go_at_call 9; refine (knows_from _ HN.out).mono ?_; rintro e w1 ⟨rfl, hn⟩; replace HN := Lib.hid hn; clear hn))
        go_ret
        exact ⟨rfl, HN.out⟩
      | true =>
        have F2 := Lib.hid (hpHow_in hj)
        have F3 : Hid ((hpSt zs o y).length = n) := Lib.hid (by rw [hpSt_len _ hj]; exact HP.out.len.symm)
        have i1 : inB (hpSt zs a x) o = true := by rw [inB_len (hpSt_len x hi)]; exact hj
        have i2 : inB (hpSt zs o y) a = true := by rw [inB_len (hpSt_len y hj)]; exact hi
        have i3 : inB (hpSt zs a x) a = true := by rw [inB_len (hpSt_len x hi)]; exact hi
        have C2 := Lib.hid (hpHow_in i1)
        have D2 := Lib.hid (hpHow_in i2)
        have G2 := Lib.hid (hpHow_in i3)
        have C3 : Hid ((hpSt (hpSt zs a x) o y).length = n) := Lib.hid (by rw [hpSt_len _ i1]; exact E3.out)
        have D3 : Hid ((hpSt (hpSt zs o y) a x).length = n) := Lib.hid (by rw [hpSt_len _ i2]; exact F3.out)
        have G3 : Hid ((hpSt (hpSt zs a x) a y).length = n) := Lib.hid (by rw [hpSt_len _ i3]; exact E3.out)
        have K3 : Hid ((hpSt zs a y).length = n) := Lib.hid (by rw [hpSt_len _ hi]; exact HP.out.len.symm)
        have C4 : Hid ((hpSt (hpSt zs a x) o y).length ≤ 1000) := Lib.hid (by rw [C3.out]; omega)
        have G4 : Hid ((hpSt (hpSt zs a x) a y).length ≤ 1000) := Lib.hid (by rw [G3.out]; omega)
        have S2 := Lib.hid (eqB_mk (st_again x y hi))
        have T0 : Hid True := Lib.hid trivial
        have T1 : Hid True := Lib.hid trivial
        have T2 : Hid True := Lib.hid trivial
        have T3 : Hid True := Lib.hid trivial
        have T4 : Hid True := Lib.hid trivial
        have T5 : Hid True := Lib.hid trivial
        by_cases hao : a = o
        · have q := beq_of hao
          clear n1 hi hj i1 i2 i3 hao
          go_enter Try.func5, Try.ntmps5
          go_wp2_with (first
            | (go_at_call 12; clear T0; refine (store_is HP.out E3.out E2.out).mono ?_; rintro e w1 ⟨p1, q1, rfl, hp, hn⟩; replace HN := Lib.hid (HN.out.trans hn); have HA := Lib.hid hp; clear hn hp)
            | (go_at_call 12; clear T1; refine (store_is (HP.out.new HN.out) F3.out F2.out).mono ?_; rintro e w2 ⟨p2, q2, rfl, hp, hn⟩; replace HN := Lib.hid (HN.out.trans hn); replace HA := Lib.hid (HA.out.new hn); have HB := Lib.hid hp; clear hn hp)
            | (go_at_call 12; clear T2; refine (store_is HA.out C3.out C2.out).mono ?_; rintro e w3 ⟨p3, q3, rfl, hp, hn⟩; replace HN := Lib.hid (HN.out.trans hn); replace HA := Lib.hid (HA.out.new hn); replace HB := Lib.hid (HB.out.new hn); have HC := Lib.hid hp; clear hn hp)
            | (go_at_call 12; clear T3; refine (store_is HB.out D3.out D2.out).mono ?_; rintro e w4 ⟨p4, q4, rfl, hp, hn⟩; replace HN := Lib.hid (HN.out.trans hn); replace HA := Lib.hid (HA.out.new hn); replace HC := Lib.hid (HC.out.new hn); have HD := Lib.hid hp; clear hn hp)
            | (go_at_call 12; clear T4; refine (store_is HA.out G3.out G2.out).mono ?_; rintro e w5 ⟨p5, q5, rfl, hp, hn⟩; replace HN := Lib.hid (HN.out.trans hn); replace HC := Lib.hid (HC.out.new hn); replace HD := Lib.hid (HD.out.new hn); have HG := Lib.hid hp; clear hn hp)
            | (go_at_call 12; clear T5; refine (store_is (HP.out.new HN.out) K3.out E2.out).mono ?_; rintro e w6 ⟨p6, q6, rfl, hp, hn⟩; replace HN := Lib.hid (HN.out.trans hn); replace HC := Lib.hid (HC.out.new hn); replace HD := Lib.hid (HD.out.new hn); replace HG := Lib.hid (HG.out.new hn); have HK := Lib.hid hp; clear hn hp)
            | (go_at_call 16; refine (same_is HG.out HK.out G4.out S2.out).mono ?_; rintro e w7 ⟨rfl, hn⟩; replace HN := Lib.hid (HN.out.trans hn); clear hn)
            | (go_at_call 9; refine (knows_from _ HN.out).mono ?_; rintro e w8 ⟨rfl, hn⟩; replace HN := Lib.hid hn; clear hn))
          go_ret
          exact ⟨rfl, HN.out⟩
        · have q := bneq_of hao
          have S1 := Lib.hid (eqB_mk (st_orders x y hi hj hao))
          have T6 : Hid True := Lib.hid trivial
          clear n1 hi hj i1 i2 i3 hao
          go_enter Try.func5, Try.ntmps5
          go_wp2_with (first
            | (go_at_call 12; clear T0; refine (store_is HP.out E3.out E2.out).mono ?_; rintro e w1 ⟨p1, q1, rfl, hp, hn⟩; replace HN := Lib.hid (HN.out.trans hn); have HA := Lib.hid hp; clear hn hp)
            | (go_at_call 12; clear T1; refine (store_is (HP.out.new HN.out) F3.out F2.out).mono ?_; rintro e w2 ⟨p2, q2, rfl, hp, hn⟩; replace HN := Lib.hid (HN.out.trans hn); replace HA := Lib.hid (HA.out.new hn); have HB := Lib.hid hp; clear hn hp)
            | (go_at_call 12; clear T2; refine (store_is HA.out C3.out C2.out).mono ?_; rintro e w3 ⟨p3, q3, rfl, hp, hn⟩; replace HN := Lib.hid (HN.out.trans hn); replace HA := Lib.hid (HA.out.new hn); replace HB := Lib.hid (HB.out.new hn); have HC := Lib.hid hp; clear hn hp)
            | (go_at_call 12; clear T3; refine (store_is HB.out D3.out D2.out).mono ?_; rintro e w4 ⟨p4, q4, rfl, hp, hn⟩; replace HN := Lib.hid (HN.out.trans hn); replace HA := Lib.hid (HA.out.new hn); replace HC := Lib.hid (HC.out.new hn); have HD := Lib.hid hp; clear hn hp)
            | (go_at_call 12; clear T4; refine (store_is HA.out G3.out G2.out).mono ?_; rintro e w5 ⟨p5, q5, rfl, hp, hn⟩; replace HN := Lib.hid (HN.out.trans hn); replace HC := Lib.hid (HC.out.new hn); replace HD := Lib.hid (HD.out.new hn); have HG := Lib.hid hp; clear hn hp)
            | (go_at_call 12; clear T5; refine (store_is (HP.out.new HN.out) K3.out E2.out).mono ?_; rintro e w6 ⟨p6, q6, rfl, hp, hn⟩; replace HN := Lib.hid (HN.out.trans hn); replace HC := Lib.hid (HC.out.new hn); replace HD := Lib.hid (HD.out.new hn); replace HG := Lib.hid (HG.out.new hn); have HK := Lib.hid hp; clear hn hp)
            | (go_at_call 16; clear T6; refine (same_is HC.out HD.out C4.out S1.out).mono ?_; rintro e w7 ⟨rfl, hn⟩; replace HN := Lib.hid (HN.out.trans hn); replace HG := Lib.hid (HG.out.new hn); replace HK := Lib.hid (HK.out.new hn); clear hn)
            | (go_at_call 16; refine (same_is HG.out HK.out G4.out S2.out).mono ?_; rintro e w7 ⟨rfl, hn⟩; replace HN := Lib.hid (HN.out.trans hn); clear hn)
            | (go_at_call 9; refine (knows_from _ HN.out).mono ?_; rintro e w8 ⟨rfl, hn⟩; replace HN := Lib.hid hn; clear hn))
          go_ret
          exact ⟨rfl, HN.out⟩
  · have g1 := gt_of n1
    go_enter Try.func5, Try.ntmps5
    go_wp2_with (go_at_call 9; refine (knows_from _ HN.out).mono ?_; rintro e w1 ⟨rfl, hn⟩; replace HN := Lib.hid hn; clear hn)
    go_ret
    exact ⟨rfl, HN.out⟩
theorem heapOrders_law (v : Value) (zs : List Int) (a x o y : Int) (w : World) (h : RowAt w v (zs.map (.int .i64))) (_ha : In64 a) (_hx : In64 x) (_ho : In64 o) (_hy : In64 y) :
    Calls Try.prog 5 #[v, .int .i64 a, .int .i64 x, .int .i64 o, .int .i64 y] w fun e w' => e = .returned (.bool true) ∧ New w w' := by
  obtain ⟨ao, cap, rfl⟩ := Hp.form h
  exact orders_in zs a x o y ao _ cap w h
end Go.Proofs.Ytojjdghpeokplaa
