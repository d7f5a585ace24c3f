/-
  The contract of heap.Same.
-/
import Derived.Test.YtlmnodbhfpgplaaGreatDoorHeapAll
namespace Go.Proofs.YtlmnodbhfpgplaaGreatDoor
open Go.RowKit

set_option maxHeartbeats 2000000 in
theorem same_in (xs ys : List Int) (ao bo : Option Addr) (n m cap dap : Nat) (w : World) (h1 : Hp w (.slice ao n cap) xs) (h2 : Hp w (.slice bo m dap) ys) (hb : n ≤ 1000) :
    Calls Tryz.prog 52 #[.slice ao n cap, .slice bo m dap] w fun e w' => e = .returned (.bool (eqB xs ys)) ∧ New w w' := by
  have HK := Lib.hid h1
  have HM := Lib.hid h2
  have HL1 := Lib.hid h1.len
  have HL2 := Lib.hid h2.len
  clear h1 h2
  by_cases hnm : n = m
  · subst hnm
    go_enter Tryz.func52, Tryz.ntmps52
    go_wp2
    go_loopw [13] (fun kv wr => ∃ k : Nat, kv = .int .i64 k ∧ k ≤ n ∧ Hid (New w wr) ∧ Hid (∀ j : Nat, j < k → xs[j]? = ys[j]?)) (fun kv wr => n - (intOf kv).toNat)
    case atStart => exact ⟨0, rfl, by omega, Lib.hid (New.refl w), Lib.hid (fun j hj => by omega)⟩
    case round =>
      obtain ⟨k, rfl, hk, HN, HB⟩ := hrel
      by_cases hlt : k < n
      · have hlt' : (k : Int) < (n : Int) := by omega
        have hne := newW_any wr
        obtain ⟨a1, x, e1, x1, c1⟩ := (HK.out.new HN.out).ixW hlt
        obtain ⟨a2, y, e2, x2, c2⟩ := (HM.out.new HN.out).ixW hlt
        have E1 := Lib.hid e1
        have E2 := Lib.hid e2
        clear e1 e2
        by_cases hxy : x = y
        · subst hxy
          go_wp2_with fail
          refine wp_region_new (New.refl wr) (by kernel_rfl) (by kernel_rfl) ?_
          repeat (go_big_quiet_step (first | fail))
          refine wpQuiet_nil ?_
          intro w5 hn5
          go_wp2
          go_roundw
          case rel => exact ⟨k + 1, by go_num, hlt, Lib.hid (HN.out.trans hn5), Lib.hid (agree_step HB.out E1.out E2.out)⟩
          case measure => simp [intOf]; omega
        · have q : (x != y) = true := by simp [hxy]
          have HE : Hid (eqB xs ys = false) := Lib.hid (eqB_at E1.out E2.out hxy)
          clear hxy
          go_wp2_with fail
          refine wp_region_new (New.refl wr) (by kernel_rfl) (by kernel_rfl) ?_
          repeat (go_big_quiet_step (first | fail))
          refine wpQuiet_nil ?_
          intro w5 hn5
          go_wp2
          go_ret
          exact ⟨ret_b HE.out.symm, HN.out.trans hn5⟩
      · have hlt' : ¬ (k : Int) < (n : Int) := by omega
        have HE : Hid (eqB xs ys = true) := Lib.hid (eqB_all (by rw [← HL1.out, ← HL2.out]) (fun j hj => HB.out j (by rw [← HL1.out] at hj; omega)))
        go_wp2
        go_ret
        exact ⟨ret_b HE.out.symm, HN.out⟩
  · have q : ((n : Int) == (m : Int)) = false := bneq_of (by omega)
    have HE : Hid (eqB xs ys = false) := Lib.hid (eqB_len (by rw [← HL1.out, ← HL2.out]; exact hnm))
    clear hnm
    go_enter Tryz.func52, Tryz.ntmps52
    go_wp2
    go_ret
    exact ⟨ret_b HE.out.symm, New.refl w⟩
theorem same_any (xs ys : List Int) (v1 v2 : Value) (w : World) (h1 : Hp w v1 xs) (h2 : Hp w v2 ys) (hb : xs.length ≤ 1000) :
    Calls Tryz.prog 52 #[v1, v2] w fun e w' => e = .returned (.bool (eqB xs ys)) ∧ New w w' := by
  obtain ⟨ao, cap, rfl⟩ := h1.form
  obtain ⟨bo, dap, rfl⟩ := h2.form
  exact same_in xs ys ao bo _ _ cap dap w h1 h2 hb
end Go.Proofs.YtlmnodbhfpgplaaGreatDoor
