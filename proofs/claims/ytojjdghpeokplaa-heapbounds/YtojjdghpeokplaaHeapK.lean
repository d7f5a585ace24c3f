/-
  The document's examples of layer 6: 'knows' answers true.
-/
import Derived.Test.YtojjdghpeokplaaHeapB
import Derived.Test.YtojjdghpeokplaaHeapC
namespace Go.Proofs.Ytojjdghpeokplaa
open Go.RowKit

theorem Blk.cell {w : World} {g : Nat} {zs : List Int} (h : Blk w g zs) {k : Nat} {x : Int} (hk : zs[k]? = some x) : w.cell? ⟨g, k, none⟩ = some (.int .i64 x) := by
  have hkl : k < zs.length := (List.getElem?_eq_some_iff.1 hk).1
  have hv : zs[k] = x := (List.getElem?_eq_some_iff.1 hk).2
  unfold World.cell?
  unfold Blk at h
  simp [h, hkl, hv]
set_option maxHeartbeats 2000000 in
set_option maxRecDepth 100000 in
theorem knows_any (w : World) : Calls Try.prog 9 #[] w fun e w' => e = .returned (.bool true) ∧ New w w' := by
  have HB : Hid (Blk (w.alloc (.cells #[.int .i64 5, .int .i64 6] 2)) w.heap.size [5, 6]) := Lib.hid (alloc_at rfl _)
  have HP : Hid (Hp (w.alloc (.cells #[.int .i64 5, .int .i64 6] 2)) (.slice (some ⟨w.heap.size, 0, none⟩) 2 2) [5, 6]) := Lib.hid (HB.out.hp rfl 2)
  have HN := Lib.hid (alloc_new w (.cells #[.int .i64 5, .int .i64 6] 2))
  have l1 : hpLd [5, 6] 1 = 6 := by decide
  have l2 : hpHow [5, 6] 1 = 0 := by decide
  have l3 : hpHow [5, 6] 2 = 4 := by decide
  have l4 : hpHow [5, 6] 0 = 0 := by decide
  have l5 : eqB (hpSt [5, 6] 0 9) [9, 6] = true := by decide
  go_enter Try.func9, Try.ntmps9
  go_wp2_with (first
    | (go_at_call 10; refine (load_any [5, 6] _ _ _ HP.out).mono ?_; rintro e w1 ⟨rfl, rfl⟩)
    | (go_at_call 12; refine (store_any [5, 6] 0 9 _ _ HP.out).mono ?_; rintro e w2 ⟨v2, rfl, hp, hn⟩; have HV := Lib.hid hp; replace HN := Lib.hid (HN.out.trans hn); replace HB := Lib.hid (HB.out.new hn); clear hp hn)
    | (go_at_call 16; refine (same_any (hpSt [5, 6] 0 9) [9, 6] _ _ _ (HV.out.new (alloc_new _ _)) (Blk.hp (alloc_at rfl _) rfl 2) (by decide)).mono ?_; rintro e w3 ⟨rfl, hn⟩; replace HN := Lib.hid (HN.out.trans ((alloc_new _ _).trans hn)); have hc := (HB.out.new ((alloc_new _ _).trans hn)).cell (k := 0) rfl; clear hn)
    | (go_at_call 15; refine (right_is _ 2 _ _ (by decide : decide (2 ≤ 16) = true)).mono ?_; rintro e w4 ⟨rfl, rfl⟩))
  go_ret
  exact ⟨rfl, HN.out⟩
theorem knows_from {w0 : World} (w : World) (h : New w0 w) : Calls Try.prog 9 #[] w fun e w' => e = .returned (.bool true) ∧ New w0 w' :=
  (knows_any w).mono fun _ _ ⟨he, hw⟩ => ⟨he, h.trans hw⟩
end Go.Proofs.Ytojjdghpeokplaa
