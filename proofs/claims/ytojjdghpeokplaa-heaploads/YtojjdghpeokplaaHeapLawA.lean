/-
  'HeapAlike': true, for every input.
-/
import Derived.Test.YtojjdghpeokplaaHeapK
namespace Go.Proofs.Ytojjdghpeokplaa
open Go.RowKit

theorem Hp.lenB {w : World} {ao : Option Addr} {n cap : Nat} {zs : List Int} (h : Hp w (.slice ao n cap) zs) (hn : n ≤ 100) : zs.length ≤ 1000 := by
  have := h.len
  omega
theorem gt_of {n : Nat} (h : ¬ n ≤ 100) : (100 : Int) < (n : Int) := by omega
theorem not_gt {n : Nat} (h : n ≤ 100) : ¬ (100 : Int) < (n : Int) := by omega
set_option maxHeartbeats 4000000 in
set_option maxRecDepth 100000 in
theorem alike_in (xs ys zs : List Int) (ao bo co : Option Addr) (n m l cap dap eap : Nat) (w : World) (h1 : Hp w (.slice ao n cap) xs) (h2 : Hp w (.slice bo m dap) ys) (h3 : Hp w (.slice co l eap) zs) :
    Calls Try.prog 6 #[.slice ao n cap, .slice bo m dap, .slice co l eap] w fun e w' => e = .returned (.bool true) ∧ New w w' := by
  have HX := Lib.hid h1
  have HY := Lib.hid h2
  have HZ := Lib.hid h3
  have HN := Lib.hid (New.refl w)
  clear h1 h2 h3
  by_cases n1 : n ≤ 100
  · by_cases n2 : m ≤ 100
    · by_cases n3 : l ≤ 100
      · have B1 := Lib.hid (HX.out.lenB n1)
        have B2 := Lib.hid (HY.out.lenB n2)
        have g1 := not_gt n1
        have g2 := not_gt n2
        have g3 := not_gt n3
        clear n1 n2 n3
        have r0 := eqB_refl xs
        cases q1 : eqB xs ys with
        | false =>
          have q1' : eqB ys xs = false := by rw [eqB_symm]; exact q1
          go_enter Try.func6, Try.ntmps6
          go_wp2_with (first
            | (go_at_call 16; refine (same_any _ _ _ _ _ (by first | exact HX.out.new HN.out | exact HY.out.new HN.out | exact HZ.out.new HN.out) (by first | exact HX.out.new HN.out | exact HY.out.new HN.out | exact HZ.out.new HN.out) (by first | exact B1.out | exact B2.out)).mono ?_; rintro e w1 ⟨rfl, hn⟩; replace HN := Lib.hid (HN.out.trans hn); clear hn)
            | (go_at_call 9; refine (knows_from _ HN.out).mono ?_; rintro e w1 ⟨rfl, hn⟩; replace HN := Lib.hid hn; clear hn))
          go_ret
          exact ⟨rfl, HN.out⟩
        | true =>
          have q1' : eqB ys xs = true := by rw [eqB_symm]; exact q1
          cases q2 : eqB ys zs with
          | false =>
            go_enter Try.func6, Try.ntmps6
            go_wp2_with (first
              | (go_at_call 16; refine (same_any _ _ _ _ _ (by first | exact HX.out.new HN.out | exact HY.out.new HN.out | exact HZ.out.new HN.out) (by first | exact HX.out.new HN.out | exact HY.out.new HN.out | exact HZ.out.new HN.out) (by first | exact B1.out | exact B2.out)).mono ?_; rintro e w1 ⟨rfl, hn⟩; replace HN := Lib.hid (HN.out.trans hn); clear hn)
              | (go_at_call 9; refine (knows_from _ HN.out).mono ?_; rintro e w1 ⟨rfl, hn⟩; replace HN := Lib.hid hn; clear hn))
            go_ret
            exact ⟨rfl, HN.out⟩
          | true =>
            have q3 : eqB xs zs = true := eqB_mk ((eqB_of q1).trans (eqB_of q2))
            go_enter Try.func6, Try.ntmps6
            go_wp2_with (first
              | (go_at_call 16; refine (same_any _ _ _ _ _ (by first | exact HX.out.new HN.out | exact HY.out.new HN.out | exact HZ.out.new HN.out) (by first | exact HX.out.new HN.out | exact HY.out.new HN.out | exact HZ.out.new HN.out) (by first | exact B1.out | exact B2.out)).mono ?_; rintro e w1 ⟨rfl, hn⟩; replace HN := Lib.hid (HN.out.trans hn); clear hn)
              | (go_at_call 9; refine (knows_from _ HN.out).mono ?_; rintro e w1 ⟨rfl, hn⟩; replace HN := Lib.hid hn; clear hn))
            go_ret
            exact ⟨rfl, HN.out⟩
      · have g1 := not_gt n1
        have g2 := not_gt n2
        have g3 := gt_of n3
        go_enter Try.func6, Try.ntmps6
        go_wp2_with (go_at_call 9; refine (knows_from _ HN.out).mono ?_; rintro e w1 ⟨rfl, hn⟩; replace HN := Lib.hid hn; clear hn)
        go_ret
        exact ⟨rfl, HN.out⟩
    · have g1 := not_gt n1
      have g2 := gt_of n2
      go_enter Try.func6, Try.ntmps6
      go_wp2_with (go_at_call 9; refine (knows_from _ HN.out).mono ?_; rintro e w1 ⟨rfl, hn⟩; replace HN := Lib.hid hn; clear hn)
      go_ret
      exact ⟨rfl, HN.out⟩
  · have g1 := gt_of n1
    go_enter Try.func6, Try.ntmps6
    go_wp2_with (go_at_call 9; refine (knows_from _ HN.out).mono ?_; rintro e w1 ⟨rfl, hn⟩; replace HN := Lib.hid hn; clear hn)
    go_ret
    exact ⟨rfl, HN.out⟩
theorem heapAlike_law (v1 : Value) (xs : List Int) (v2 : Value) (ys : List Int) (v3 : Value) (zs : List Int) (w : World) (h1 : RowAt w v1 (xs.map (.int .i64))) (h2 : RowAt w v2 (ys.map (.int .i64))) (h3 : RowAt w v3 (zs.map (.int .i64))) :
    Calls Try.prog 6 #[v1, v2, v3] w fun e w' => e = .returned (.bool true) ∧ New w w' := by
  obtain ⟨ao, cap, rfl⟩ := Hp.form h1
  obtain ⟨bo, dap, rfl⟩ := Hp.form h2
  obtain ⟨co, eap, rfl⟩ := Hp.form h3
  exact alike_in xs ys zs ao bo co _ _ _ cap dap eap w h1 h2 h3
end Go.Proofs.Ytojjdghpeokplaa
