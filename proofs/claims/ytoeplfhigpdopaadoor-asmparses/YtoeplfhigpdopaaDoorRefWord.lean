/-
  The reference's words of operations (joineryref03); texts, piece by piece.
-/
import Derived.Test.YtoeplfhigpdopaaDoorLocRef3
import Derived.Test.YtoeplfhigpdopaaDoorRefOnly
import Derived.Test.YtoeplfhigpdopaaDoorInsC
namespace Go.Proofs.YtoeplfhigpdopaaDoor
open Go.RowKit

theorem cells_six {a : World} {g : Nat} {x : I} (h : Has a g x) :
    (∀ y : NewW a, y.val.cell? ⟨g, 0, none⟩ = some (.int .i64 x.op)) ∧ (∀ y : NewW a, y.val.cell? ⟨g, 1, none⟩ = some (.int .i64 x.d)) ∧ (∀ y : NewW a, y.val.cell? ⟨g, 2, none⟩ = some (.int .i64 x.a)) ∧
    (∀ y : NewW a, y.val.cell? ⟨g, 3, none⟩ = some (.int .i64 x.b)) ∧ (∀ y : NewW a, y.val.cell? ⟨g, 4, none⟩ = some (.int .i64 x.n)) ∧ (∀ y : NewW a, y.val.cell? ⟨g, 5, none⟩ = some (.int .i64 x.t)) := by
  refine ⟨fun y => ?_, fun y => ?_, fun y => ?_, fun y => ?_, fun y => ?_, fun y => ?_⟩ <;> exact cell_of_row y.val g _ _ _ _ (h.new y.property)
set_option maxHeartbeats 2000000 in
theorem word_lit (o : Int) (ho : o = 1 ∨ o = 2 ∨ o = 3 ∨ o = 4 ∨ o = 5 ∨ o = 6 ∨ o = 7 ∨ o = 8 ∨ o = 9 ∨ o = 10 ∨ o = 11 ∨ o = 12 ∨ o = 13 ∨ o = 14 ∨ o = 15 ∨ o = 16 ∨ o = 17 ∨ o = 18) (w : World) :
    Calls Tryd.prog 45 #[.int .i64 o] w fun e w' => e = .returned (.string (wordB o.toNat)) ∧ New w w' := by
  rcases ho with rfl | rfl | rfl | rfl | rfl | rfl | rfl | rfl | rfl | rfl | rfl | rfl | rfl | rfl | rfl | rfl | rfl | rfl
  all_goals
    go_enter Tryd.func45, Tryd.ntmps45
    go_wp2
    go_ret
    exact ⟨by kernel_rfl, alloc_new _ _⟩
theorem word_from {w0 : World} (k : Nat) (h1 : 1 ≤ k) (h2 : k ≤ 18) (w : World) (hn : New w0 w) :
    Calls Tryd.prog 45 #[.int .i64 k] w fun e w' => e = .returned (.string (wordB k)) ∧ New w0 w' :=
  (word_lit (k : Int) (by omega) w).mono fun _ _ ⟨he, hw⟩ => ⟨by simpa using he, hn.trans hw⟩

def prtB (x : I) : ByteArray := ⟨(prtL x).toArray⟩
theorem prtB_toList (x : I) : (prtB x).data.toList = prtL x := by simp [prtB]
theorem piece_loc {c : Int} {k : Nat} (hc : placeB c = true) (hk : k < 24) : pieceL c (k : Int) = locL k := by
  unfold pieceL
  rw [if_pos hc, if_pos (by omega)]
  rfl
theorem piece_num {c v : Int} (hc : placeB c = false) : pieceL c v = Lib.itoa v := by
  unfold pieceL
  rw [if_neg (by rw [hc]; decide)]
theorem locB_le {k : Nat} (h : k < 24) : (locB k).size ≤ 3 := by
  have := (locL_size k h).2
  have e : (locB k).size = (locL k).length := by rw [← size_list, locB_toList]
  omega
theorem textB_le {n : Int} (h : In64 n) : (textB n).size ≤ 20 := by
  have := itoa_len h
  have e : (textB n).size = (Lib.itoa n).length := by rw [← size_list, textB_toList]
  omega
theorem joined_one {x : I} {l p : List UInt8} {c : Int} (hl : letters x.op = [c]) (hw : wordL x.op.toNat = l) (h : pieceL c (fieldV x c) = p) : prtL x = l ++ [32] ++ p := by
  unfold prtL
  rw [hl, hw]
  simp [valsOf, joinL, h]
theorem joined_two {x : I} {l p q : List UInt8} {c e : Int} (hl : letters x.op = [c, e]) (hw : wordL x.op.toNat = l) (h : pieceL c (fieldV x c) = p) (h' : pieceL e (fieldV x e) = q) : prtL x = l ++ [32] ++ p ++ [32] ++ q := by
  unfold prtL
  rw [hl, hw]
  simp [valsOf, joinL, h, h']
theorem joined_three {x : I} {l p q r : List UInt8} {c e f : Int} (hl : letters x.op = [c, e, f]) (hw : wordL x.op.toNat = l) (h : pieceL c (fieldV x c) = p) (h' : pieceL e (fieldV x e) = q) (h'' : pieceL f (fieldV x f) = r) : prtL x = l ++ [32] ++ p ++ [32] ++ q ++ [32] ++ r := by
  unfold prtL
  rw [hl, hw]
  simp [valsOf, joinL, h, h', h'']
end Go.Proofs.YtoeplfhigpdopaaDoor
