/-
  'HeapLoads': true, for every input.
-/
import Derived.Test.YtojjdghpeokplaaHeapLawB
import Derived.Test.YtojjdghpeokplaaHeapR
namespace Go.Proofs.Ytojjdghpeokplaa
open Go.RowKit

set_option maxHeartbeats 4000000 in
set_option maxRecDepth 100000 in
theorem loads_in (zs ks : List Int) (a x : Int) (ao bo : Option Addr) (n m cap dap : Nat) (w : World) (h1 : Hp w (.slice ao n cap) zs) (h2 : Hp w (.slice bo m dap) ks) :
    Calls Try.prog 3 #[.slice ao n cap, .slice bo m dap, .int .i64 a, .int .i64 x] w fun e w' => e = .returned (.bool true) ∧ New w w' := by
  have HP := Lib.hid h1
  have HQ := Lib.hid h2
  have HN := Lib.hid (New.refl w)
  clear h1 h2
  by_cases n1 : n ≤ 100
  · by_cases n2 : m ≤ 100
    · have g1 := not_gt n1
      have g2 := not_gt n2
      have B1 := Lib.hid (HP.out.lenB n1)
      have B2 : Hid ((hpSt zs a x).length ≤ 1000) := Lib.hid (Nat.le_trans (hpSt_bound zs a x) (by decide))
      have S1 := Lib.hid (eqB_refl (hpSt zs a x))
      have T0 : Hid True := Lib.hid trivial
      obtain ⟨y, hy⟩ : ∃ y, hpLd zs a = y := ⟨_, rfl⟩
      obtain ⟨q, hq⟩ : ∃ q, hpHow zs a = q := ⟨_, rfl⟩
      obtain ⟨l, hl⟩ : ∃ l, (hpSt zs a x).length = l := ⟨_, rfl⟩
      obtain ⟨b, hb⟩ : ∃ b, eqB zs ks = b := ⟨_, rfl⟩
      have HY := Lib.hid hy
      have HH := Lib.hid hq
      have HLN := Lib.hid hl
      have HBB := Lib.hid hb
      clear hy hq hl hb
      by_cases h16 : n ≤ 16
      · have c16 : (n : Int) ≤ 16 := by omega
        have D16 : Hid (decide (n ≤ 16) = true) := Lib.hid (decide_eq_true h16)
        clear n1 n2 h16
        go_enter Try.func3, Try.ntmps3
        go_wp2_with (first
          | (go_at_call 10; refine (load_is HP.out HY.out HH.out).mono ?_; rintro e w1 ⟨rfl, rfl⟩)
          | (go_at_call 11; refine (rload_is HP.out HY.out HH.out).mono ?_; rintro e w1 ⟨rfl, rfl⟩)
          | (go_at_call 12; refine (store_is HP.out HLN.out HH.out).mono ?_; rintro e w2 ⟨p1, q1, rfl, hp, hn⟩; replace HN := Lib.hid (HN.out.trans hn); have HC := Lib.hid hp; clear hn hp)
          | (go_at_call 13; refine (rstore_is (HP.out.new HN.out) HLN.out HH.out).mono ?_; rintro e w3 ⟨p2, q2, rfl, hp, hn⟩; replace HN := Lib.hid (HN.out.trans hn); replace HC := Lib.hid (HC.out.new hn); have HD := Lib.hid hp; clear hn hp)
          | (go_at_call 14; clear T0; refine (rsame_is HC.out HD.out B2.out S1.out).mono ?_; rintro e w4 ⟨rfl, hn⟩; replace HN := Lib.hid (HN.out.trans hn); clear hn)
          | (go_at_call 15; refine (right_is _ _ _ _ D16.out).mono ?_; rintro e w5 ⟨rfl, rfl⟩)
          | (go_at_call 16; refine (same_is (HP.out.new HN.out) (HQ.out.new HN.out) B1.out HBB.out).mono ?_; rintro e w6 ⟨rfl, hn⟩; replace HN := Lib.hid (HN.out.trans hn); clear hn)
          | (go_at_call 14; refine (rsame_is (HP.out.new HN.out) (HQ.out.new HN.out) B1.out HBB.out).mono ?_; rintro e w7 ⟨rfl, hn⟩; replace HN := Lib.hid (HN.out.trans hn); clear hn)
          | (go_at_call 9; refine (knows_from _ HN.out).mono ?_; rintro e w8 ⟨rfl, hn⟩; replace HN := Lib.hid hn; clear hn))
        go_ret
        exact ⟨rfl, HN.out⟩
      · have c16 : decide ((n : Int) ≤ 16) = false := decide_eq_false (by omega)
        have D16 : Hid (decide (n ≤ 16) = false) := Lib.hid (decide_eq_false h16)
        clear n1 n2 h16
        go_enter Try.func3, Try.ntmps3
        go_wp2_with (first
          | (go_at_call 10; refine (load_is HP.out HY.out HH.out).mono ?_; rintro e w1 ⟨rfl, rfl⟩)
          | (go_at_call 11; refine (rload_is HP.out HY.out HH.out).mono ?_; rintro e w1 ⟨rfl, rfl⟩)
          | (go_at_call 12; refine (store_is HP.out HLN.out HH.out).mono ?_; rintro e w2 ⟨p1, q1, rfl, hp, hn⟩; replace HN := Lib.hid (HN.out.trans hn); have HC := Lib.hid hp; clear hn hp)
          | (go_at_call 13; refine (rstore_is (HP.out.new HN.out) HLN.out HH.out).mono ?_; rintro e w3 ⟨p2, q2, rfl, hp, hn⟩; replace HN := Lib.hid (HN.out.trans hn); replace HC := Lib.hid (HC.out.new hn); have HD := Lib.hid hp; clear hn hp)
          | (go_at_call 14; clear T0; refine (rsame_is HC.out HD.out B2.out S1.out).mono ?_; rintro e w4 ⟨rfl, hn⟩; replace HN := Lib.hid (HN.out.trans hn); clear hn)
          | (go_at_call 15; refine (right_is _ _ _ _ D16.out).mono ?_; rintro e w5 ⟨rfl, rfl⟩)
          | (go_at_call 16; refine (same_is (HP.out.new HN.out) (HQ.out.new HN.out) B1.out HBB.out).mono ?_; rintro e w6 ⟨rfl, hn⟩; replace HN := Lib.hid (HN.out.trans hn); clear hn)
          | (go_at_call 14; refine (rsame_is (HP.out.new HN.out) (HQ.out.new HN.out) B1.out HBB.out).mono ?_; rintro e w7 ⟨rfl, hn⟩; replace HN := Lib.hid (HN.out.trans hn); clear hn)
          | (go_at_call 9; refine (knows_from _ HN.out).mono ?_; rintro e w8 ⟨rfl, hn⟩; replace HN := Lib.hid hn; clear hn))
        go_ret
        exact ⟨rfl, HN.out⟩
    · have g1 := not_gt n1
      have g2 := gt_of n2
      go_enter Try.func3, Try.ntmps3
      go_wp2_with (go_at_call 9; refine (knows_from _ HN.out).mono ?_; rintro e w1 ⟨rfl, hn⟩; replace HN := Lib.hid hn; clear hn)
      go_ret
      exact ⟨rfl, HN.out⟩
  · have g1 := gt_of n1
    go_enter Try.func3, Try.ntmps3
    go_wp2_with (go_at_call 9; refine (knows_from _ HN.out).mono ?_; rintro e w1 ⟨rfl, hn⟩; replace HN := Lib.hid hn; clear hn)
    go_ret
    exact ⟨rfl, HN.out⟩
theorem heapLoads_law (v1 : Value) (zs : List Int) (v2 : Value) (ks : List Int) (a x : Int) (w : World) (h1 : RowAt w v1 (zs.map (.int .i64))) (h2 : RowAt w v2 (ks.map (.int .i64))) (_ha : In64 a) (_hx : In64 x) :
    Calls Try.prog 3 #[v1, v2, .int .i64 a, .int .i64 x] w fun e w' => e = .returned (.bool true) ∧ New w w' := by
  obtain ⟨ao, cap, rfl⟩ := Hp.form h1
  obtain ⟨bo, dap, rfl⟩ := Hp.form h2
  exact loads_in zs ks a x ao bo _ _ cap dap w h1 h2
end Go.Proofs.Ytojjdghpeokplaa
