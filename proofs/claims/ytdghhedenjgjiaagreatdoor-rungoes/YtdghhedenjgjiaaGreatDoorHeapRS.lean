/-
  The reference's Same of layer 6; rows made by append.
-/
import Derived.Test.YtdghhedenjgjiaaGreatDoorHeapB0
import Derived.Test.YtdghhedenjgjiaaGreatDoorHeapC
namespace Go.Proofs.YtdghhedenjgjiaaGreatDoor
open Go.RowKit

set_option maxHeartbeats 2000000 in
theorem rsame_in (xs ys : List Int) (ao bo : Option Addr) (n m cap dap : Nat) (w : World) (h1 : Hp w (.slice ao n cap) xs) (h2 : Hp w (.slice bo m dap) ys) (hb : n ≤ 1000) :
    Calls Tryz.prog 39 #[.slice ao n cap, .slice bo m dap] w fun e w' => e = .returned (.bool (eqB xs ys)) ∧ New w w' := by
  have HK := Lib.hid h1
  have HM := Lib.hid h2
  have HL1 := Lib.hid h1.len
  have HL2 := Lib.hid h2.len
  clear h1 h2
  go_enter Tryz.func39, Tryz.ntmps39
  go_wp2
  go_loopw [5] (fun kv wr => ∃ k : Nat, kv = .int .i64 k ∧ k ≤ n ∧ k ≤ m ∧ Hid (New w wr) ∧ Hid (∀ j : Nat, j < k → xs[j]? = ys[j]?)) (fun kv wr => n - (intOf kv).toNat)
  case atStart => exact ⟨0, rfl, by omega, by omega, Lib.hid (New.refl w), Lib.hid (fun j hj => by omega)⟩
  case round =>
    obtain ⟨k, rfl, hk, hk2, HN, HB⟩ := hrel
    by_cases hlt : k < n
    · have hlt' : (k : Int) < (n : Int) := by omega
      by_cases hlm : k < m
      · have hlm' : (k : Int) < (m : Int) := by omega
        have hne := newW_any wr
        obtain ⟨a1, x, e1, x1, c1⟩ := (HK.out.new HN.out).ixW hlt
        obtain ⟨a2, y, e2, x2, c2⟩ := (HM.out.new HN.out).ixW hlm
        have E1 := Lib.hid e1
        have E2 := Lib.hid e2
        clear e1 e2
        by_cases hxy : x = y
        · subst hxy
          go_wp2_with fail
          refine wp_region_new (New.refl wr) (by kernel_rfl) (by kernel_rfl) ?_
          repeat (go_big_quiet_step (first | fail))
          refine wpQuiet_nil ?_
          intro w5 hn5
          go_wp2
          go_roundw
          case rel => exact ⟨k + 1, by go_num, hlt, hlm, Lib.hid (HN.out.trans hn5), Lib.hid (agree_step HB.out E1.out E2.out)⟩
          case measure => simp [intOf]; omega
        · have q : (x != y) = true := by simp [hxy]
          have HE : Hid (eqB xs ys = false) := Lib.hid (eqB_at E1.out E2.out hxy)
          clear hxy
          go_wp2_with fail
          refine wp_region_new (New.refl wr) (by kernel_rfl) (by kernel_rfl) ?_
          repeat (go_big_quiet_step (first | fail))
          refine wpQuiet_nil ?_
          intro w5 hn5
          go_wp2
          go_ret
          exact ⟨ret_b HE.out.symm, HN.out.trans hn5⟩
      · have hlm' : ¬ (k : Int) < (m : Int) := by omega
        have q : ((n : Int) == (m : Int)) = false := bneq_of (by omega)
        have HE : Hid (eqB xs ys = false) := Lib.hid (eqB_len (by rw [← HL1.out, ← HL2.out]; omega))
        go_wp2
        go_ret
        exact ⟨ret_b HE.out.symm, HN.out⟩
    · have hlt' : ¬ (k : Int) < (n : Int) := by omega
      by_cases hnm : n = m
      · have q : ((n : Int) == (m : Int)) = true := beq_of (by omega)
        have HE : Hid (eqB xs ys = true) := Lib.hid (eqB_all (by rw [← HL1.out, ← HL2.out]; exact hnm) (fun j hj => HB.out j (by rw [← HL1.out] at hj; omega)))
        clear hnm
        go_wp2
        go_ret
        exact ⟨ret_b HE.out.symm, HN.out⟩
      · have q : ((n : Int) == (m : Int)) = false := bneq_of (by omega)
        have HE : Hid (eqB xs ys = false) := Lib.hid (eqB_len (by rw [← HL1.out, ← HL2.out]; exact hnm))
        clear hnm
        go_wp2
        go_ret
        exact ⟨ret_b HE.out.symm, HN.out⟩
theorem rsame_is {xs ys : List Int} {v1 v2 : Value} {w : World} (h1 : Hp w v1 xs) (h2 : Hp w v2 ys) (hb : xs.length ≤ 1000) {b : Bool} (h : eqB xs ys = b) :
    Calls Tryz.prog 39 #[v1, v2] w fun e w' => e = .returned (.bool b) ∧ New w w' := by
  obtain ⟨ao, cap, rfl⟩ := h1.form
  obtain ⟨bo, dap, rfl⟩ := h2.form
  have := rsame_in xs ys ao bo _ _ cap dap w h1 h2 hb
  rwa [h] at this

theorem own_hp {w : World} {base n : Nat} {v : Value} {ys : List Int} (h : w.ownsRow base 2 1 v n (ys.map (Value.int .i64))) : Hp w v ys := by
  obtain ⟨hl, h | ⟨g, cap, cur, rfl, _, hg, _, _, hs, ht⟩⟩ := h
  · obtain ⟨rfl, rfl⟩ := h
    obtain rfl : ys = [] := by
      apply List.eq_nil_of_length_eq_zero
      simpa using hl
    exact Hp.nil w
  · have hn : n = ys.length := by simpa using hl.symm
    subst hn
    refine ⟨some ⟨g, 0, none⟩, cap, by rw [List.length_map], fun i hi => ⟨g, 0, rfl, ?_⟩⟩
    have hi' : i < ys.length := by simpa using hi
    have e : cur[i]? = (ys.map (Value.int .i64))[i]? := by
      rw [← ht, Nat.mul_one, List.getElem?_take, if_pos hi', Array.getElem?_toList]
    rw [Nat.zero_add]
    unfold World.cell?
    rw [List.getElem?_eq_getElem hi] at e
    simp [hg, e]
theorem own_new {w wr w2 : World} {v : Value} {o : Obj} (hn : New w wr) (hr : ∀ k, v.ownBlock = some k → w.heap.size ≤ k) (hg : (wr.alloc o).grownBy w2 v.ownBlock) : New w w2 := by
  refine Below.grown (hn.alloc _) hg ?_ hr
  exact (hn.alloc o).size
theorem take_one {ys : List Int} {k : Nat} {y : Int} (h : ys[k]? = some y) : ((ys.take k).map (Value.int .i64)) ++ [.int .i64 y] = (ys.take (k + 1)).map (Value.int .i64) := by
  rw [List.take_add_one, h]
  simp
end Go.Proofs.YtdghhedenjgjiaaGreatDoor
