/-
  The reference's Print of instructions (joineryref03): the text.
-/
import Derived.Test.YtoeplfhigpdopaaDoorRefWord
namespace Go.Proofs.YtoeplfhigpdopaaDoor
open Go.RowKit

set_option maxHeartbeats 2000000 in
set_option maxRecDepth 100000 in
theorem refPrint_1 (dk ak bk : Nat) (n t : Int) (hd : dk < 24) (ha : ak < 24) (hb : bk < 24) (hn : In64 n) (ht : In64 t) (w : World) :
    Calls Tryd.prog 27 #[.agg #[.int .i64 1, .int .i64 dk, .int .i64 ak, .int .i64 bk, .int .i64 n, .int .i64 t]] w fun e w' => e = .returned (.string (prtB ⟨1, dk, ak, bk, n, t⟩)) ∧ New w w' := by
  have HP := Lib.hid (joined_two (x := ⟨1, dk, ak, bk, n, t⟩) (l := [99, 111, 110, 115, 116]) (show letters 1 = _ from by decide +kernel) (by kernel_rfl) (piece_loc (c := 100) (k := dk) (by decide) hd) (piece_num (c := 110) (v := n) (by decide)))
  obtain ⟨q0, q1, q2, q3, q4, q5⟩ := cells_six (Has.box w ⟨1, dk, ak, bk, n, t⟩)
  dsimp only at q0 q1 q2 q3 q4 q5
  have z1 := locB_le hd
  have z2 := locB_le ha
  have z3 := locB_le hb
  have z4 := textB_le hn
  have z5 := textB_le ht
  have HN := Lib.hid hn
  have HT := Lib.hid ht
  have hne := newW_any (w.alloc (.cells #[.int .i64 1, .int .i64 dk, .int .i64 ak, .int .i64 bk, .int .i64 n, .int .i64 t] 41))
  clear hn ht
  go_enter Tryd.func27, Tryd.ntmps27
  go_wp2_with fail
  refine wp_region_new (w0 := w.alloc (.cells #[.int .i64 1, .int .i64 dk, .int .i64 ak, .int .i64 bk, .int .i64 n, .int .i64 t] 41)) (New.refl _) (by kernel_rfl) (by kernel_rfl) ?_
  repeat (go_big_quiet_step (first | (go_at_call 43; exact quiet_new (refLoc_from _ (by assumption) _ (Subtype.property _)))))
  refine wpQuiet_nil ?_
  intro w2 h2
  go_wp2_with fail
  refine wp_region_new (w0 := w.alloc (.cells #[.int .i64 1, .int .i64 dk, .int .i64 ak, .int .i64 bk, .int .i64 n, .int .i64 t] 41)) h2 (by kernel_rfl) (by kernel_rfl) ?_
  repeat (go_big_quiet_step (first | (go_at_call 44; exact quiet_new (refText_from _ (by first | exact HN.out | exact HT.out) _ (Subtype.property _)))))
  refine wpQuiet_nil ?_
  intro w3 h3
  have c0 : w3.cell? ⟨w.heap.size, 0, none⟩ = some (.int .i64 1) := q0 ⟨w3, h3⟩
  clear q0 q1 q2 q3 q4 q5
  go_wp2_with (go_at_call 45; refine (word_lit 1 (by decide) _).mono ?_; rintro e w4 ⟨rfl, h4⟩; have c4 := (h4.cell (World.block_lt_of_cell? _ _ c0)).trans c0; rw [show wordB (Int.toNat 1) = ⟨#[99, 111, 110, 115, 116]⟩ from rfl])
  go_ret
  refine ⟨ret_str ?_, ((alloc_new _ _).trans h3).trans h4⟩
  rw [prtB_toList, HP.out]
  simp [ByteArray.data_append, Array.toList_append, locB_toList, textB_toList]
set_option maxHeartbeats 2000000 in
set_option maxRecDepth 100000 in
theorem refPrint_2 (dk ak bk : Nat) (n t : Int) (hd : dk < 24) (ha : ak < 24) (hb : bk < 24) (hn : In64 n) (ht : In64 t) (w : World) :
    Calls Tryd.prog 27 #[.agg #[.int .i64 2, .int .i64 dk, .int .i64 ak, .int .i64 bk, .int .i64 n, .int .i64 t]] w fun e w' => e = .returned (.string (prtB ⟨2, dk, ak, bk, n, t⟩)) ∧ New w w' := by
  have HP := Lib.hid (joined_two (x := ⟨2, dk, ak, bk, n, t⟩) (l := [109, 111, 118]) (show letters 2 = _ from by decide +kernel) (by kernel_rfl) (piece_loc (c := 100) (k := dk) (by decide) hd) (piece_loc (c := 97) (k := ak) (by decide) ha))
  obtain ⟨q0, q1, q2, q3, q4, q5⟩ := cells_six (Has.box w ⟨2, dk, ak, bk, n, t⟩)
  dsimp only at q0 q1 q2 q3 q4 q5
  have z1 := locB_le hd
  have z2 := locB_le ha
  have z3 := locB_le hb
  have z4 := textB_le hn
  have z5 := textB_le ht
  have HN := Lib.hid hn
  have HT := Lib.hid ht
  have hne := newW_any (w.alloc (.cells #[.int .i64 2, .int .i64 dk, .int .i64 ak, .int .i64 bk, .int .i64 n, .int .i64 t] 41))
  clear hn ht
  go_enter Tryd.func27, Tryd.ntmps27
  go_wp2_with fail
  refine wp_region_new (w0 := w.alloc (.cells #[.int .i64 2, .int .i64 dk, .int .i64 ak, .int .i64 bk, .int .i64 n, .int .i64 t] 41)) (New.refl _) (by kernel_rfl) (by kernel_rfl) ?_
  repeat (go_big_quiet_step (first | (go_at_call 43; exact quiet_new (refLoc_from _ (by assumption) _ (Subtype.property _)))))
  refine wpQuiet_nil ?_
  intro w2 h2
  go_wp2_with fail
  refine wp_region_new (w0 := w.alloc (.cells #[.int .i64 2, .int .i64 dk, .int .i64 ak, .int .i64 bk, .int .i64 n, .int .i64 t] 41)) h2 (by kernel_rfl) (by kernel_rfl) ?_
  repeat (go_big_quiet_step (first | (go_at_call 44; exact quiet_new (refText_from _ (by first | exact HN.out | exact HT.out) _ (Subtype.property _)))))
  refine wpQuiet_nil ?_
  intro w3 h3
  have c0 : w3.cell? ⟨w.heap.size, 0, none⟩ = some (.int .i64 2) := q0 ⟨w3, h3⟩
  clear q0 q1 q2 q3 q4 q5
  go_wp2_with (go_at_call 45; refine (word_lit 2 (by decide) _).mono ?_; rintro e w4 ⟨rfl, h4⟩; have c4 := (h4.cell (World.block_lt_of_cell? _ _ c0)).trans c0; rw [show wordB (Int.toNat 2) = ⟨#[109, 111, 118]⟩ from rfl])
  go_ret
  refine ⟨ret_str ?_, ((alloc_new _ _).trans h3).trans h4⟩
  rw [prtB_toList, HP.out]
  simp [ByteArray.data_append, Array.toList_append, locB_toList]
set_option maxHeartbeats 2000000 in
set_option maxRecDepth 100000 in
theorem refPrint_3 (dk ak bk : Nat) (n t : Int) (hd : dk < 24) (ha : ak < 24) (hb : bk < 24) (hn : In64 n) (ht : In64 t) (w : World) :
    Calls Tryd.prog 27 #[.agg #[.int .i64 3, .int .i64 dk, .int .i64 ak, .int .i64 bk, .int .i64 n, .int .i64 t]] w fun e w' => e = .returned (.string (prtB ⟨3, dk, ak, bk, n, t⟩)) ∧ New w w' := by
  have HP := Lib.hid (joined_two (x := ⟨3, dk, ak, bk, n, t⟩) (l := [115, 119, 97, 112]) (show letters 3 = _ from by decide +kernel) (by kernel_rfl) (piece_loc (c := 100) (k := dk) (by decide) hd) (piece_loc (c := 97) (k := ak) (by decide) ha))
  obtain ⟨q0, q1, q2, q3, q4, q5⟩ := cells_six (Has.box w ⟨3, dk, ak, bk, n, t⟩)
  dsimp only at q0 q1 q2 q3 q4 q5
  have z1 := locB_le hd
  have z2 := locB_le ha
  have z3 := locB_le hb
  have z4 := textB_le hn
  have z5 := textB_le ht
  have HN := Lib.hid hn
  have HT := Lib.hid ht
  have hne := newW_any (w.alloc (.cells #[.int .i64 3, .int .i64 dk, .int .i64 ak, .int .i64 bk, .int .i64 n, .int .i64 t] 41))
  clear hn ht
  go_enter Tryd.func27, Tryd.ntmps27
  go_wp2_with fail
  refine wp_region_new (w0 := w.alloc (.cells #[.int .i64 3, .int .i64 dk, .int .i64 ak, .int .i64 bk, .int .i64 n, .int .i64 t] 41)) (New.refl _) (by kernel_rfl) (by kernel_rfl) ?_
  repeat (go_big_quiet_step (first | (go_at_call 43; exact quiet_new (refLoc_from _ (by assumption) _ (Subtype.property _)))))
  refine wpQuiet_nil ?_
  intro w2 h2
  go_wp2_with fail
  refine wp_region_new (w0 := w.alloc (.cells #[.int .i64 3, .int .i64 dk, .int .i64 ak, .int .i64 bk, .int .i64 n, .int .i64 t] 41)) h2 (by kernel_rfl) (by kernel_rfl) ?_
  repeat (go_big_quiet_step (first | (go_at_call 44; exact quiet_new (refText_from _ (by first | exact HN.out | exact HT.out) _ (Subtype.property _)))))
  refine wpQuiet_nil ?_
  intro w3 h3
  have c0 : w3.cell? ⟨w.heap.size, 0, none⟩ = some (.int .i64 3) := q0 ⟨w3, h3⟩
  clear q0 q1 q2 q3 q4 q5
  go_wp2_with (go_at_call 45; refine (word_lit 3 (by decide) _).mono ?_; rintro e w4 ⟨rfl, h4⟩; have c4 := (h4.cell (World.block_lt_of_cell? _ _ c0)).trans c0; rw [show wordB (Int.toNat 3) = ⟨#[115, 119, 97, 112]⟩ from rfl])
  go_ret
  refine ⟨ret_str ?_, ((alloc_new _ _).trans h3).trans h4⟩
  rw [prtB_toList, HP.out]
  simp [ByteArray.data_append, Array.toList_append, locB_toList]
set_option maxHeartbeats 2000000 in
set_option maxRecDepth 100000 in
theorem refPrint_4 (dk ak bk : Nat) (n t : Int) (hd : dk < 24) (ha : ak < 24) (hb : bk < 24) (hn : In64 n) (ht : In64 t) (w : World) :
    Calls Tryd.prog 27 #[.agg #[.int .i64 4, .int .i64 dk, .int .i64 ak, .int .i64 bk, .int .i64 n, .int .i64 t]] w fun e w' => e = .returned (.string (prtB ⟨4, dk, ak, bk, n, t⟩)) ∧ New w w' := by
  have HP := Lib.hid (joined_three (x := ⟨4, dk, ak, bk, n, t⟩) (l := [97, 100, 100]) (show letters 4 = _ from by decide +kernel) (by kernel_rfl) (piece_loc (c := 68) (k := dk) (by decide) hd) (piece_loc (c := 65) (k := ak) (by decide) ha) (piece_loc (c := 66) (k := bk) (by decide) hb))
  obtain ⟨q0, q1, q2, q3, q4, q5⟩ := cells_six (Has.box w ⟨4, dk, ak, bk, n, t⟩)
  dsimp only at q0 q1 q2 q3 q4 q5
  have z1 := locB_le hd
  have z2 := locB_le ha
  have z3 := locB_le hb
  have z4 := textB_le hn
  have z5 := textB_le ht
  have HN := Lib.hid hn
  have HT := Lib.hid ht
  have hne := newW_any (w.alloc (.cells #[.int .i64 4, .int .i64 dk, .int .i64 ak, .int .i64 bk, .int .i64 n, .int .i64 t] 41))
  clear hn ht
  go_enter Tryd.func27, Tryd.ntmps27
  go_wp2_with fail
  refine wp_region_new (w0 := w.alloc (.cells #[.int .i64 4, .int .i64 dk, .int .i64 ak, .int .i64 bk, .int .i64 n, .int .i64 t] 41)) (New.refl _) (by kernel_rfl) (by kernel_rfl) ?_
  repeat (go_big_quiet_step (first | (go_at_call 43; exact quiet_new (refLoc_from _ (by assumption) _ (Subtype.property _)))))
  refine wpQuiet_nil ?_
  intro w2 h2
  go_wp2_with fail
  refine wp_region_new (w0 := w.alloc (.cells #[.int .i64 4, .int .i64 dk, .int .i64 ak, .int .i64 bk, .int .i64 n, .int .i64 t] 41)) h2 (by kernel_rfl) (by kernel_rfl) ?_
  repeat (go_big_quiet_step (first | (go_at_call 44; exact quiet_new (refText_from _ (by first | exact HN.out | exact HT.out) _ (Subtype.property _)))))
  refine wpQuiet_nil ?_
  intro w3 h3
  have c0 : w3.cell? ⟨w.heap.size, 0, none⟩ = some (.int .i64 4) := q0 ⟨w3, h3⟩
  clear q0 q1 q2 q3 q4 q5
  go_wp2_with (go_at_call 45; refine (word_lit 4 (by decide) _).mono ?_; rintro e w4 ⟨rfl, h4⟩; have c4 := (h4.cell (World.block_lt_of_cell? _ _ c0)).trans c0; rw [show wordB (Int.toNat 4) = ⟨#[97, 100, 100]⟩ from rfl])
  go_ret
  refine ⟨ret_str ?_, ((alloc_new _ _).trans h3).trans h4⟩
  rw [prtB_toList, HP.out]
  simp [ByteArray.data_append, Array.toList_append, locB_toList]
set_option maxHeartbeats 2000000 in
set_option maxRecDepth 100000 in
theorem refPrint_5 (dk ak bk : Nat) (n t : Int) (hd : dk < 24) (ha : ak < 24) (hb : bk < 24) (hn : In64 n) (ht : In64 t) (w : World) :
    Calls Tryd.prog 27 #[.agg #[.int .i64 5, .int .i64 dk, .int .i64 ak, .int .i64 bk, .int .i64 n, .int .i64 t]] w fun e w' => e = .returned (.string (prtB ⟨5, dk, ak, bk, n, t⟩)) ∧ New w w' := by
  have HP := Lib.hid (joined_three (x := ⟨5, dk, ak, bk, n, t⟩) (l := [115, 117, 98]) (show letters 5 = _ from by decide +kernel) (by kernel_rfl) (piece_loc (c := 68) (k := dk) (by decide) hd) (piece_loc (c := 65) (k := ak) (by decide) ha) (piece_loc (c := 66) (k := bk) (by decide) hb))
  obtain ⟨q0, q1, q2, q3, q4, q5⟩ := cells_six (Has.box w ⟨5, dk, ak, bk, n, t⟩)
  dsimp only at q0 q1 q2 q3 q4 q5
  have z1 := locB_le hd
  have z2 := locB_le ha
  have z3 := locB_le hb
  have z4 := textB_le hn
  have z5 := textB_le ht
  have HN := Lib.hid hn
  have HT := Lib.hid ht
  have hne := newW_any (w.alloc (.cells #[.int .i64 5, .int .i64 dk, .int .i64 ak, .int .i64 bk, .int .i64 n, .int .i64 t] 41))
  clear hn ht
  go_enter Tryd.func27, Tryd.ntmps27
  go_wp2_with fail
  refine wp_region_new (w0 := w.alloc (.cells #[.int .i64 5, .int .i64 dk, .int .i64 ak, .int .i64 bk, .int .i64 n, .int .i64 t] 41)) (New.refl _) (by kernel_rfl) (by kernel_rfl) ?_
  repeat (go_big_quiet_step (first | (go_at_call 43; exact quiet_new (refLoc_from _ (by assumption) _ (Subtype.property _)))))
  refine wpQuiet_nil ?_
  intro w2 h2
  go_wp2_with fail
  refine wp_region_new (w0 := w.alloc (.cells #[.int .i64 5, .int .i64 dk, .int .i64 ak, .int .i64 bk, .int .i64 n, .int .i64 t] 41)) h2 (by kernel_rfl) (by kernel_rfl) ?_
  repeat (go_big_quiet_step (first | (go_at_call 44; exact quiet_new (refText_from _ (by first | exact HN.out | exact HT.out) _ (Subtype.property _)))))
  refine wpQuiet_nil ?_
  intro w3 h3
  have c0 : w3.cell? ⟨w.heap.size, 0, none⟩ = some (.int .i64 5) := q0 ⟨w3, h3⟩
  clear q0 q1 q2 q3 q4 q5
  go_wp2_with (go_at_call 45; refine (word_lit 5 (by decide) _).mono ?_; rintro e w4 ⟨rfl, h4⟩; have c4 := (h4.cell (World.block_lt_of_cell? _ _ c0)).trans c0; rw [show wordB (Int.toNat 5) = ⟨#[115, 117, 98]⟩ from rfl])
  go_ret
  refine ⟨ret_str ?_, ((alloc_new _ _).trans h3).trans h4⟩
  rw [prtB_toList, HP.out]
  simp [ByteArray.data_append, Array.toList_append, locB_toList]
set_option maxHeartbeats 2000000 in
set_option maxRecDepth 100000 in
theorem refPrint_6 (dk ak bk : Nat) (n t : Int) (hd : dk < 24) (ha : ak < 24) (hb : bk < 24) (hn : In64 n) (ht : In64 t) (w : World) :
    Calls Tryd.prog 27 #[.agg #[.int .i64 6, .int .i64 dk, .int .i64 ak, .int .i64 bk, .int .i64 n, .int .i64 t]] w fun e w' => e = .returned (.string (prtB ⟨6, dk, ak, bk, n, t⟩)) ∧ New w w' := by
  have HP := Lib.hid (joined_three (x := ⟨6, dk, ak, bk, n, t⟩) (l := [109, 117, 108]) (show letters 6 = _ from by decide +kernel) (by kernel_rfl) (piece_loc (c := 68) (k := dk) (by decide) hd) (piece_loc (c := 65) (k := ak) (by decide) ha) (piece_loc (c := 66) (k := bk) (by decide) hb))
  obtain ⟨q0, q1, q2, q3, q4, q5⟩ := cells_six (Has.box w ⟨6, dk, ak, bk, n, t⟩)
  dsimp only at q0 q1 q2 q3 q4 q5
  have z1 := locB_le hd
  have z2 := locB_le ha
  have z3 := locB_le hb
  have z4 := textB_le hn
  have z5 := textB_le ht
  have HN := Lib.hid hn
  have HT := Lib.hid ht
  have hne := newW_any (w.alloc (.cells #[.int .i64 6, .int .i64 dk, .int .i64 ak, .int .i64 bk, .int .i64 n, .int .i64 t] 41))
  clear hn ht
  go_enter Tryd.func27, Tryd.ntmps27
  go_wp2_with fail
  refine wp_region_new (w0 := w.alloc (.cells #[.int .i64 6, .int .i64 dk, .int .i64 ak, .int .i64 bk, .int .i64 n, .int .i64 t] 41)) (New.refl _) (by kernel_rfl) (by kernel_rfl) ?_
  repeat (go_big_quiet_step (first | (go_at_call 43; exact quiet_new (refLoc_from _ (by assumption) _ (Subtype.property _)))))
  refine wpQuiet_nil ?_
  intro w2 h2
  go_wp2_with fail
  refine wp_region_new (w0 := w.alloc (.cells #[.int .i64 6, .int .i64 dk, .int .i64 ak, .int .i64 bk, .int .i64 n, .int .i64 t] 41)) h2 (by kernel_rfl) (by kernel_rfl) ?_
  repeat (go_big_quiet_step (first | (go_at_call 44; exact quiet_new (refText_from _ (by first | exact HN.out | exact HT.out) _ (Subtype.property _)))))
  refine wpQuiet_nil ?_
  intro w3 h3
  have c0 : w3.cell? ⟨w.heap.size, 0, none⟩ = some (.int .i64 6) := q0 ⟨w3, h3⟩
  clear q0 q1 q2 q3 q4 q5
  go_wp2_with (go_at_call 45; refine (word_lit 6 (by decide) _).mono ?_; rintro e w4 ⟨rfl, h4⟩; have c4 := (h4.cell (World.block_lt_of_cell? _ _ c0)).trans c0; rw [show wordB (Int.toNat 6) = ⟨#[109, 117, 108]⟩ from rfl])
  go_ret
  refine ⟨ret_str ?_, ((alloc_new _ _).trans h3).trans h4⟩
  rw [prtB_toList, HP.out]
  simp [ByteArray.data_append, Array.toList_append, locB_toList]
set_option maxHeartbeats 2000000 in
set_option maxRecDepth 100000 in
theorem refPrint_7 (dk ak bk : Nat) (n t : Int) (hd : dk < 24) (ha : ak < 24) (hb : bk < 24) (hn : In64 n) (ht : In64 t) (w : World) :
    Calls Tryd.prog 27 #[.agg #[.int .i64 7, .int .i64 dk, .int .i64 ak, .int .i64 bk, .int .i64 n, .int .i64 t]] w fun e w' => e = .returned (.string (prtB ⟨7, dk, ak, bk, n, t⟩)) ∧ New w w' := by
  have HP := Lib.hid (joined_three (x := ⟨7, dk, ak, bk, n, t⟩) (l := [100, 105, 118]) (show letters 7 = _ from by decide +kernel) (by kernel_rfl) (piece_loc (c := 68) (k := dk) (by decide) hd) (piece_loc (c := 65) (k := ak) (by decide) ha) (piece_loc (c := 66) (k := bk) (by decide) hb))
  obtain ⟨q0, q1, q2, q3, q4, q5⟩ := cells_six (Has.box w ⟨7, dk, ak, bk, n, t⟩)
  dsimp only at q0 q1 q2 q3 q4 q5
  have z1 := locB_le hd
  have z2 := locB_le ha
  have z3 := locB_le hb
  have z4 := textB_le hn
  have z5 := textB_le ht
  have HN := Lib.hid hn
  have HT := Lib.hid ht
  have hne := newW_any (w.alloc (.cells #[.int .i64 7, .int .i64 dk, .int .i64 ak, .int .i64 bk, .int .i64 n, .int .i64 t] 41))
  clear hn ht
  go_enter Tryd.func27, Tryd.ntmps27
  go_wp2_with fail
  refine wp_region_new (w0 := w.alloc (.cells #[.int .i64 7, .int .i64 dk, .int .i64 ak, .int .i64 bk, .int .i64 n, .int .i64 t] 41)) (New.refl _) (by kernel_rfl) (by kernel_rfl) ?_
  repeat (go_big_quiet_step (first | (go_at_call 43; exact quiet_new (refLoc_from _ (by assumption) _ (Subtype.property _)))))
  refine wpQuiet_nil ?_
  intro w2 h2
  go_wp2_with fail
  refine wp_region_new (w0 := w.alloc (.cells #[.int .i64 7, .int .i64 dk, .int .i64 ak, .int .i64 bk, .int .i64 n, .int .i64 t] 41)) h2 (by kernel_rfl) (by kernel_rfl) ?_
  repeat (go_big_quiet_step (first | (go_at_call 44; exact quiet_new (refText_from _ (by first | exact HN.out | exact HT.out) _ (Subtype.property _)))))
  refine wpQuiet_nil ?_
  intro w3 h3
  have c0 : w3.cell? ⟨w.heap.size, 0, none⟩ = some (.int .i64 7) := q0 ⟨w3, h3⟩
  clear q0 q1 q2 q3 q4 q5
  go_wp2_with (go_at_call 45; refine (word_lit 7 (by decide) _).mono ?_; rintro e w4 ⟨rfl, h4⟩; have c4 := (h4.cell (World.block_lt_of_cell? _ _ c0)).trans c0; rw [show wordB (Int.toNat 7) = ⟨#[100, 105, 118]⟩ from rfl])
  go_ret
  refine ⟨ret_str ?_, ((alloc_new _ _).trans h3).trans h4⟩
  rw [prtB_toList, HP.out]
  simp [ByteArray.data_append, Array.toList_append, locB_toList]
set_option maxHeartbeats 2000000 in
set_option maxRecDepth 100000 in
theorem refPrint_8 (dk ak bk : Nat) (n t : Int) (hd : dk < 24) (ha : ak < 24) (hb : bk < 24) (hn : In64 n) (ht : In64 t) (w : World) :
    Calls Tryd.prog 27 #[.agg #[.int .i64 8, .int .i64 dk, .int .i64 ak, .int .i64 bk, .int .i64 n, .int .i64 t]] w fun e w' => e = .returned (.string (prtB ⟨8, dk, ak, bk, n, t⟩)) ∧ New w w' := by
  have HP := Lib.hid (joined_three (x := ⟨8, dk, ak, bk, n, t⟩) (l := [97, 110, 100]) (show letters 8 = _ from by decide +kernel) (by kernel_rfl) (piece_loc (c := 68) (k := dk) (by decide) hd) (piece_loc (c := 65) (k := ak) (by decide) ha) (piece_loc (c := 66) (k := bk) (by decide) hb))
  obtain ⟨q0, q1, q2, q3, q4, q5⟩ := cells_six (Has.box w ⟨8, dk, ak, bk, n, t⟩)
  dsimp only at q0 q1 q2 q3 q4 q5
  have z1 := locB_le hd
  have z2 := locB_le ha
  have z3 := locB_le hb
  have z4 := textB_le hn
  have z5 := textB_le ht
  have HN := Lib.hid hn
  have HT := Lib.hid ht
  have hne := newW_any (w.alloc (.cells #[.int .i64 8, .int .i64 dk, .int .i64 ak, .int .i64 bk, .int .i64 n, .int .i64 t] 41))
  clear hn ht
  go_enter Tryd.func27, Tryd.ntmps27
  go_wp2_with fail
  refine wp_region_new (w0 := w.alloc (.cells #[.int .i64 8, .int .i64 dk, .int .i64 ak, .int .i64 bk, .int .i64 n, .int .i64 t] 41)) (New.refl _) (by kernel_rfl) (by kernel_rfl) ?_
  repeat (go_big_quiet_step (first | (go_at_call 43; exact quiet_new (refLoc_from _ (by assumption) _ (Subtype.property _)))))
  refine wpQuiet_nil ?_
  intro w2 h2
  go_wp2_with fail
  refine wp_region_new (w0 := w.alloc (.cells #[.int .i64 8, .int .i64 dk, .int .i64 ak, .int .i64 bk, .int .i64 n, .int .i64 t] 41)) h2 (by kernel_rfl) (by kernel_rfl) ?_
  repeat (go_big_quiet_step (first | (go_at_call 44; exact quiet_new (refText_from _ (by first | exact HN.out | exact HT.out) _ (Subtype.property _)))))
  refine wpQuiet_nil ?_
  intro w3 h3
  have c0 : w3.cell? ⟨w.heap.size, 0, none⟩ = some (.int .i64 8) := q0 ⟨w3, h3⟩
  clear q0 q1 q2 q3 q4 q5
  go_wp2_with (go_at_call 45; refine (word_lit 8 (by decide) _).mono ?_; rintro e w4 ⟨rfl, h4⟩; have c4 := (h4.cell (World.block_lt_of_cell? _ _ c0)).trans c0; rw [show wordB (Int.toNat 8) = ⟨#[97, 110, 100]⟩ from rfl])
  go_ret
  refine ⟨ret_str ?_, ((alloc_new _ _).trans h3).trans h4⟩
  rw [prtB_toList, HP.out]
  simp [ByteArray.data_append, Array.toList_append, locB_toList]
set_option maxHeartbeats 2000000 in
set_option maxRecDepth 100000 in
theorem refPrint_9 (dk ak bk : Nat) (n t : Int) (hd : dk < 24) (ha : ak < 24) (hb : bk < 24) (hn : In64 n) (ht : In64 t) (w : World) :
    Calls Tryd.prog 27 #[.agg #[.int .i64 9, .int .i64 dk, .int .i64 ak, .int .i64 bk, .int .i64 n, .int .i64 t]] w fun e w' => e = .returned (.string (prtB ⟨9, dk, ak, bk, n, t⟩)) ∧ New w w' := by
  have HP := Lib.hid (joined_three (x := ⟨9, dk, ak, bk, n, t⟩) (l := [111, 114]) (show letters 9 = _ from by decide +kernel) (by kernel_rfl) (piece_loc (c := 68) (k := dk) (by decide) hd) (piece_loc (c := 65) (k := ak) (by decide) ha) (piece_loc (c := 66) (k := bk) (by decide) hb))
  obtain ⟨q0, q1, q2, q3, q4, q5⟩ := cells_six (Has.box w ⟨9, dk, ak, bk, n, t⟩)
  dsimp only at q0 q1 q2 q3 q4 q5
  have z1 := locB_le hd
  have z2 := locB_le ha
  have z3 := locB_le hb
  have z4 := textB_le hn
  have z5 := textB_le ht
  have HN := Lib.hid hn
  have HT := Lib.hid ht
  have hne := newW_any (w.alloc (.cells #[.int .i64 9, .int .i64 dk, .int .i64 ak, .int .i64 bk, .int .i64 n, .int .i64 t] 41))
  clear hn ht
  go_enter Tryd.func27, Tryd.ntmps27
  go_wp2_with fail
  refine wp_region_new (w0 := w.alloc (.cells #[.int .i64 9, .int .i64 dk, .int .i64 ak, .int .i64 bk, .int .i64 n, .int .i64 t] 41)) (New.refl _) (by kernel_rfl) (by kernel_rfl) ?_
  repeat (go_big_quiet_step (first | (go_at_call 43; exact quiet_new (refLoc_from _ (by assumption) _ (Subtype.property _)))))
  refine wpQuiet_nil ?_
  intro w2 h2
  go_wp2_with fail
  refine wp_region_new (w0 := w.alloc (.cells #[.int .i64 9, .int .i64 dk, .int .i64 ak, .int .i64 bk, .int .i64 n, .int .i64 t] 41)) h2 (by kernel_rfl) (by kernel_rfl) ?_
  repeat (go_big_quiet_step (first | (go_at_call 44; exact quiet_new (refText_from _ (by first | exact HN.out | exact HT.out) _ (Subtype.property _)))))
  refine wpQuiet_nil ?_
  intro w3 h3
  have c0 : w3.cell? ⟨w.heap.size, 0, none⟩ = some (.int .i64 9) := q0 ⟨w3, h3⟩
  clear q0 q1 q2 q3 q4 q5
  go_wp2_with (go_at_call 45; refine (word_lit 9 (by decide) _).mono ?_; rintro e w4 ⟨rfl, h4⟩; have c4 := (h4.cell (World.block_lt_of_cell? _ _ c0)).trans c0; rw [show wordB (Int.toNat 9) = ⟨#[111, 114]⟩ from rfl])
  go_ret
  refine ⟨ret_str ?_, ((alloc_new _ _).trans h3).trans h4⟩
  rw [prtB_toList, HP.out]
  simp [ByteArray.data_append, Array.toList_append, locB_toList]
set_option maxHeartbeats 2000000 in
set_option maxRecDepth 100000 in
theorem refPrint_10 (dk ak bk : Nat) (n t : Int) (hd : dk < 24) (ha : ak < 24) (hb : bk < 24) (hn : In64 n) (ht : In64 t) (w : World) :
    Calls Tryd.prog 27 #[.agg #[.int .i64 10, .int .i64 dk, .int .i64 ak, .int .i64 bk, .int .i64 n, .int .i64 t]] w fun e w' => e = .returned (.string (prtB ⟨10, dk, ak, bk, n, t⟩)) ∧ New w w' := by
  have HP := Lib.hid (joined_three (x := ⟨10, dk, ak, bk, n, t⟩) (l := [120, 111, 114]) (show letters 10 = _ from by decide +kernel) (by kernel_rfl) (piece_loc (c := 68) (k := dk) (by decide) hd) (piece_loc (c := 65) (k := ak) (by decide) ha) (piece_loc (c := 66) (k := bk) (by decide) hb))
  obtain ⟨q0, q1, q2, q3, q4, q5⟩ := cells_six (Has.box w ⟨10, dk, ak, bk, n, t⟩)
  dsimp only at q0 q1 q2 q3 q4 q5
  have z1 := locB_le hd
  have z2 := locB_le ha
  have z3 := locB_le hb
  have z4 := textB_le hn
  have z5 := textB_le ht
  have HN := Lib.hid hn
  have HT := Lib.hid ht
  have hne := newW_any (w.alloc (.cells #[.int .i64 10, .int .i64 dk, .int .i64 ak, .int .i64 bk, .int .i64 n, .int .i64 t] 41))
  clear hn ht
  go_enter Tryd.func27, Tryd.ntmps27
  go_wp2_with fail
  refine wp_region_new (w0 := w.alloc (.cells #[.int .i64 10, .int .i64 dk, .int .i64 ak, .int .i64 bk, .int .i64 n, .int .i64 t] 41)) (New.refl _) (by kernel_rfl) (by kernel_rfl) ?_
  repeat (go_big_quiet_step (first | (go_at_call 43; exact quiet_new (refLoc_from _ (by assumption) _ (Subtype.property _)))))
  refine wpQuiet_nil ?_
  intro w2 h2
  go_wp2_with fail
  refine wp_region_new (w0 := w.alloc (.cells #[.int .i64 10, .int .i64 dk, .int .i64 ak, .int .i64 bk, .int .i64 n, .int .i64 t] 41)) h2 (by kernel_rfl) (by kernel_rfl) ?_
  repeat (go_big_quiet_step (first | (go_at_call 44; exact quiet_new (refText_from _ (by first | exact HN.out | exact HT.out) _ (Subtype.property _)))))
  refine wpQuiet_nil ?_
  intro w3 h3
  have c0 : w3.cell? ⟨w.heap.size, 0, none⟩ = some (.int .i64 10) := q0 ⟨w3, h3⟩
  clear q0 q1 q2 q3 q4 q5
  go_wp2_with (go_at_call 45; refine (word_lit 10 (by decide) _).mono ?_; rintro e w4 ⟨rfl, h4⟩; have c4 := (h4.cell (World.block_lt_of_cell? _ _ c0)).trans c0; rw [show wordB (Int.toNat 10) = ⟨#[120, 111, 114]⟩ from rfl])
  go_ret
  refine ⟨ret_str ?_, ((alloc_new _ _).trans h3).trans h4⟩
  rw [prtB_toList, HP.out]
  simp [ByteArray.data_append, Array.toList_append, locB_toList]
set_option maxHeartbeats 2000000 in
set_option maxRecDepth 100000 in
theorem refPrint_11 (dk ak bk : Nat) (n t : Int) (hd : dk < 24) (ha : ak < 24) (hb : bk < 24) (hn : In64 n) (ht : In64 t) (w : World) :
    Calls Tryd.prog 27 #[.agg #[.int .i64 11, .int .i64 dk, .int .i64 ak, .int .i64 bk, .int .i64 n, .int .i64 t]] w fun e w' => e = .returned (.string (prtB ⟨11, dk, ak, bk, n, t⟩)) ∧ New w w' := by
  have HP := Lib.hid (joined_three (x := ⟨11, dk, ak, bk, n, t⟩) (l := [108, 101, 115, 115]) (show letters 11 = _ from by decide +kernel) (by kernel_rfl) (piece_loc (c := 68) (k := dk) (by decide) hd) (piece_loc (c := 65) (k := ak) (by decide) ha) (piece_loc (c := 66) (k := bk) (by decide) hb))
  obtain ⟨q0, q1, q2, q3, q4, q5⟩ := cells_six (Has.box w ⟨11, dk, ak, bk, n, t⟩)
  dsimp only at q0 q1 q2 q3 q4 q5
  have z1 := locB_le hd
  have z2 := locB_le ha
  have z3 := locB_le hb
  have z4 := textB_le hn
  have z5 := textB_le ht
  have HN := Lib.hid hn
  have HT := Lib.hid ht
  have hne := newW_any (w.alloc (.cells #[.int .i64 11, .int .i64 dk, .int .i64 ak, .int .i64 bk, .int .i64 n, .int .i64 t] 41))
  clear hn ht
  go_enter Tryd.func27, Tryd.ntmps27
  go_wp2_with fail
  refine wp_region_new (w0 := w.alloc (.cells #[.int .i64 11, .int .i64 dk, .int .i64 ak, .int .i64 bk, .int .i64 n, .int .i64 t] 41)) (New.refl _) (by kernel_rfl) (by kernel_rfl) ?_
  repeat (go_big_quiet_step (first | (go_at_call 43; exact quiet_new (refLoc_from _ (by assumption) _ (Subtype.property _)))))
  refine wpQuiet_nil ?_
  intro w2 h2
  go_wp2_with fail
  refine wp_region_new (w0 := w.alloc (.cells #[.int .i64 11, .int .i64 dk, .int .i64 ak, .int .i64 bk, .int .i64 n, .int .i64 t] 41)) h2 (by kernel_rfl) (by kernel_rfl) ?_
  repeat (go_big_quiet_step (first | (go_at_call 44; exact quiet_new (refText_from _ (by first | exact HN.out | exact HT.out) _ (Subtype.property _)))))
  refine wpQuiet_nil ?_
  intro w3 h3
  have c0 : w3.cell? ⟨w.heap.size, 0, none⟩ = some (.int .i64 11) := q0 ⟨w3, h3⟩
  clear q0 q1 q2 q3 q4 q5
  go_wp2_with (go_at_call 45; refine (word_lit 11 (by decide) _).mono ?_; rintro e w4 ⟨rfl, h4⟩; have c4 := (h4.cell (World.block_lt_of_cell? _ _ c0)).trans c0; rw [show wordB (Int.toNat 11) = ⟨#[108, 101, 115, 115]⟩ from rfl])
  go_ret
  refine ⟨ret_str ?_, ((alloc_new _ _).trans h3).trans h4⟩
  rw [prtB_toList, HP.out]
  simp [ByteArray.data_append, Array.toList_append, locB_toList]
set_option maxHeartbeats 2000000 in
set_option maxRecDepth 100000 in
theorem refPrint_12 (dk ak bk : Nat) (n t : Int) (hd : dk < 24) (ha : ak < 24) (hb : bk < 24) (hn : In64 n) (ht : In64 t) (w : World) :
    Calls Tryd.prog 27 #[.agg #[.int .i64 12, .int .i64 dk, .int .i64 ak, .int .i64 bk, .int .i64 n, .int .i64 t]] w fun e w' => e = .returned (.string (prtB ⟨12, dk, ak, bk, n, t⟩)) ∧ New w w' := by
  have HP := Lib.hid (joined_three (x := ⟨12, dk, ak, bk, n, t⟩) (l := [115, 97, 109, 101]) (show letters 12 = _ from by decide +kernel) (by kernel_rfl) (piece_loc (c := 68) (k := dk) (by decide) hd) (piece_loc (c := 65) (k := ak) (by decide) ha) (piece_loc (c := 66) (k := bk) (by decide) hb))
  obtain ⟨q0, q1, q2, q3, q4, q5⟩ := cells_six (Has.box w ⟨12, dk, ak, bk, n, t⟩)
  dsimp only at q0 q1 q2 q3 q4 q5
  have z1 := locB_le hd
  have z2 := locB_le ha
  have z3 := locB_le hb
  have z4 := textB_le hn
  have z5 := textB_le ht
  have HN := Lib.hid hn
  have HT := Lib.hid ht
  have hne := newW_any (w.alloc (.cells #[.int .i64 12, .int .i64 dk, .int .i64 ak, .int .i64 bk, .int .i64 n, .int .i64 t] 41))
  clear hn ht
  go_enter Tryd.func27, Tryd.ntmps27
  go_wp2_with fail
  refine wp_region_new (w0 := w.alloc (.cells #[.int .i64 12, .int .i64 dk, .int .i64 ak, .int .i64 bk, .int .i64 n, .int .i64 t] 41)) (New.refl _) (by kernel_rfl) (by kernel_rfl) ?_
  repeat (go_big_quiet_step (first | (go_at_call 43; exact quiet_new (refLoc_from _ (by assumption) _ (Subtype.property _)))))
  refine wpQuiet_nil ?_
  intro w2 h2
  go_wp2_with fail
  refine wp_region_new (w0 := w.alloc (.cells #[.int .i64 12, .int .i64 dk, .int .i64 ak, .int .i64 bk, .int .i64 n, .int .i64 t] 41)) h2 (by kernel_rfl) (by kernel_rfl) ?_
  repeat (go_big_quiet_step (first | (go_at_call 44; exact quiet_new (refText_from _ (by first | exact HN.out | exact HT.out) _ (Subtype.property _)))))
  refine wpQuiet_nil ?_
  intro w3 h3
  have c0 : w3.cell? ⟨w.heap.size, 0, none⟩ = some (.int .i64 12) := q0 ⟨w3, h3⟩
  clear q0 q1 q2 q3 q4 q5
  go_wp2_with (go_at_call 45; refine (word_lit 12 (by decide) _).mono ?_; rintro e w4 ⟨rfl, h4⟩; have c4 := (h4.cell (World.block_lt_of_cell? _ _ c0)).trans c0; rw [show wordB (Int.toNat 12) = ⟨#[115, 97, 109, 101]⟩ from rfl])
  go_ret
  refine ⟨ret_str ?_, ((alloc_new _ _).trans h3).trans h4⟩
  rw [prtB_toList, HP.out]
  simp [ByteArray.data_append, Array.toList_append, locB_toList]
set_option maxHeartbeats 2000000 in
set_option maxRecDepth 100000 in
theorem refPrint_13 (dk ak bk : Nat) (n t : Int) (hd : dk < 24) (ha : ak < 24) (hb : bk < 24) (hn : In64 n) (ht : In64 t) (w : World) :
    Calls Tryd.prog 27 #[.agg #[.int .i64 13, .int .i64 dk, .int .i64 ak, .int .i64 bk, .int .i64 n, .int .i64 t]] w fun e w' => e = .returned (.string (prtB ⟨13, dk, ak, bk, n, t⟩)) ∧ New w w' := by
  have HP := Lib.hid (joined_two (x := ⟨13, dk, ak, bk, n, t⟩) (l := [108, 111, 97, 100]) (show letters 13 = _ from by decide +kernel) (by kernel_rfl) (piece_loc (c := 68) (k := dk) (by decide) hd) (piece_loc (c := 65) (k := ak) (by decide) ha))
  obtain ⟨q0, q1, q2, q3, q4, q5⟩ := cells_six (Has.box w ⟨13, dk, ak, bk, n, t⟩)
  dsimp only at q0 q1 q2 q3 q4 q5
  have z1 := locB_le hd
  have z2 := locB_le ha
  have z3 := locB_le hb
  have z4 := textB_le hn
  have z5 := textB_le ht
  have HN := Lib.hid hn
  have HT := Lib.hid ht
  have hne := newW_any (w.alloc (.cells #[.int .i64 13, .int .i64 dk, .int .i64 ak, .int .i64 bk, .int .i64 n, .int .i64 t] 41))
  clear hn ht
  go_enter Tryd.func27, Tryd.ntmps27
  go_wp2_with fail
  refine wp_region_new (w0 := w.alloc (.cells #[.int .i64 13, .int .i64 dk, .int .i64 ak, .int .i64 bk, .int .i64 n, .int .i64 t] 41)) (New.refl _) (by kernel_rfl) (by kernel_rfl) ?_
  repeat (go_big_quiet_step (first | (go_at_call 43; exact quiet_new (refLoc_from _ (by assumption) _ (Subtype.property _)))))
  refine wpQuiet_nil ?_
  intro w2 h2
  go_wp2_with fail
  refine wp_region_new (w0 := w.alloc (.cells #[.int .i64 13, .int .i64 dk, .int .i64 ak, .int .i64 bk, .int .i64 n, .int .i64 t] 41)) h2 (by kernel_rfl) (by kernel_rfl) ?_
  repeat (go_big_quiet_step (first | (go_at_call 44; exact quiet_new (refText_from _ (by first | exact HN.out | exact HT.out) _ (Subtype.property _)))))
  refine wpQuiet_nil ?_
  intro w3 h3
  have c0 : w3.cell? ⟨w.heap.size, 0, none⟩ = some (.int .i64 13) := q0 ⟨w3, h3⟩
  clear q0 q1 q2 q3 q4 q5
  go_wp2_with (go_at_call 45; refine (word_lit 13 (by decide) _).mono ?_; rintro e w4 ⟨rfl, h4⟩; have c4 := (h4.cell (World.block_lt_of_cell? _ _ c0)).trans c0; rw [show wordB (Int.toNat 13) = ⟨#[108, 111, 97, 100]⟩ from rfl])
  go_ret
  refine ⟨ret_str ?_, ((alloc_new _ _).trans h3).trans h4⟩
  rw [prtB_toList, HP.out]
  simp [ByteArray.data_append, Array.toList_append, locB_toList]
set_option maxHeartbeats 2000000 in
set_option maxRecDepth 100000 in
theorem refPrint_14 (dk ak bk : Nat) (n t : Int) (hd : dk < 24) (ha : ak < 24) (hb : bk < 24) (hn : In64 n) (ht : In64 t) (w : World) :
    Calls Tryd.prog 27 #[.agg #[.int .i64 14, .int .i64 dk, .int .i64 ak, .int .i64 bk, .int .i64 n, .int .i64 t]] w fun e w' => e = .returned (.string (prtB ⟨14, dk, ak, bk, n, t⟩)) ∧ New w w' := by
  have HP := Lib.hid (joined_two (x := ⟨14, dk, ak, bk, n, t⟩) (l := [115, 116, 111, 114, 101]) (show letters 14 = _ from by decide +kernel) (by kernel_rfl) (piece_loc (c := 65) (k := ak) (by decide) ha) (piece_loc (c := 66) (k := bk) (by decide) hb))
  obtain ⟨q0, q1, q2, q3, q4, q5⟩ := cells_six (Has.box w ⟨14, dk, ak, bk, n, t⟩)
  dsimp only at q0 q1 q2 q3 q4 q5
  have z1 := locB_le hd
  have z2 := locB_le ha
  have z3 := locB_le hb
  have z4 := textB_le hn
  have z5 := textB_le ht
  have HN := Lib.hid hn
  have HT := Lib.hid ht
  have hne := newW_any (w.alloc (.cells #[.int .i64 14, .int .i64 dk, .int .i64 ak, .int .i64 bk, .int .i64 n, .int .i64 t] 41))
  clear hn ht
  go_enter Tryd.func27, Tryd.ntmps27
  go_wp2_with fail
  refine wp_region_new (w0 := w.alloc (.cells #[.int .i64 14, .int .i64 dk, .int .i64 ak, .int .i64 bk, .int .i64 n, .int .i64 t] 41)) (New.refl _) (by kernel_rfl) (by kernel_rfl) ?_
  repeat (go_big_quiet_step (first | (go_at_call 43; exact quiet_new (refLoc_from _ (by assumption) _ (Subtype.property _)))))
  refine wpQuiet_nil ?_
  intro w2 h2
  go_wp2_with fail
  refine wp_region_new (w0 := w.alloc (.cells #[.int .i64 14, .int .i64 dk, .int .i64 ak, .int .i64 bk, .int .i64 n, .int .i64 t] 41)) h2 (by kernel_rfl) (by kernel_rfl) ?_
  repeat (go_big_quiet_step (first | (go_at_call 44; exact quiet_new (refText_from _ (by first | exact HN.out | exact HT.out) _ (Subtype.property _)))))
  refine wpQuiet_nil ?_
  intro w3 h3
  have c0 : w3.cell? ⟨w.heap.size, 0, none⟩ = some (.int .i64 14) := q0 ⟨w3, h3⟩
  clear q0 q1 q2 q3 q4 q5
  go_wp2_with (go_at_call 45; refine (word_lit 14 (by decide) _).mono ?_; rintro e w4 ⟨rfl, h4⟩; have c4 := (h4.cell (World.block_lt_of_cell? _ _ c0)).trans c0; rw [show wordB (Int.toNat 14) = ⟨#[115, 116, 111, 114, 101]⟩ from rfl])
  go_ret
  refine ⟨ret_str ?_, ((alloc_new _ _).trans h3).trans h4⟩
  rw [prtB_toList, HP.out]
  simp [ByteArray.data_append, Array.toList_append, locB_toList]
set_option maxHeartbeats 2000000 in
set_option maxRecDepth 100000 in
theorem refPrint_15 (dk ak bk : Nat) (n t : Int) (hd : dk < 24) (ha : ak < 24) (hb : bk < 24) (hn : In64 n) (ht : In64 t) (w : World) :
    Calls Tryd.prog 27 #[.agg #[.int .i64 15, .int .i64 dk, .int .i64 ak, .int .i64 bk, .int .i64 n, .int .i64 t]] w fun e w' => e = .returned (.string (prtB ⟨15, dk, ak, bk, n, t⟩)) ∧ New w w' := by
  have HP := Lib.hid (joined_three (x := ⟨15, dk, ak, bk, n, t⟩) (l := [99, 97, 108, 108]) (show letters 15 = _ from by decide +kernel) (by kernel_rfl) (piece_loc (c := 68) (k := dk) (by decide) hd) (piece_loc (c := 65) (k := ak) (by decide) ha) (piece_num (c := 78) (v := n) (by decide)))
  obtain ⟨q0, q1, q2, q3, q4, q5⟩ := cells_six (Has.box w ⟨15, dk, ak, bk, n, t⟩)
  dsimp only at q0 q1 q2 q3 q4 q5
  have z1 := locB_le hd
  have z2 := locB_le ha
  have z3 := locB_le hb
  have z4 := textB_le hn
  have z5 := textB_le ht
  have HN := Lib.hid hn
  have HT := Lib.hid ht
  have hne := newW_any (w.alloc (.cells #[.int .i64 15, .int .i64 dk, .int .i64 ak, .int .i64 bk, .int .i64 n, .int .i64 t] 41))
  clear hn ht
  go_enter Tryd.func27, Tryd.ntmps27
  go_wp2_with fail
  refine wp_region_new (w0 := w.alloc (.cells #[.int .i64 15, .int .i64 dk, .int .i64 ak, .int .i64 bk, .int .i64 n, .int .i64 t] 41)) (New.refl _) (by kernel_rfl) (by kernel_rfl) ?_
  repeat (go_big_quiet_step (first | (go_at_call 43; exact quiet_new (refLoc_from _ (by assumption) _ (Subtype.property _)))))
  refine wpQuiet_nil ?_
  intro w2 h2
  go_wp2_with fail
  refine wp_region_new (w0 := w.alloc (.cells #[.int .i64 15, .int .i64 dk, .int .i64 ak, .int .i64 bk, .int .i64 n, .int .i64 t] 41)) h2 (by kernel_rfl) (by kernel_rfl) ?_
  repeat (go_big_quiet_step (first | (go_at_call 44; exact quiet_new (refText_from _ (by first | exact HN.out | exact HT.out) _ (Subtype.property _)))))
  refine wpQuiet_nil ?_
  intro w3 h3
  have c0 : w3.cell? ⟨w.heap.size, 0, none⟩ = some (.int .i64 15) := q0 ⟨w3, h3⟩
  clear q0 q1 q2 q3 q4 q5
  go_wp2_with (go_at_call 45; refine (word_lit 15 (by decide) _).mono ?_; rintro e w4 ⟨rfl, h4⟩; have c4 := (h4.cell (World.block_lt_of_cell? _ _ c0)).trans c0; rw [show wordB (Int.toNat 15) = ⟨#[99, 97, 108, 108]⟩ from rfl])
  go_ret
  refine ⟨ret_str ?_, ((alloc_new _ _).trans h3).trans h4⟩
  rw [prtB_toList, HP.out]
  simp [ByteArray.data_append, Array.toList_append, locB_toList, textB_toList]
set_option maxHeartbeats 2000000 in
set_option maxRecDepth 100000 in
theorem refPrint_16 (dk ak bk : Nat) (n t : Int) (hd : dk < 24) (ha : ak < 24) (hb : bk < 24) (hn : In64 n) (ht : In64 t) (w : World) :
    Calls Tryd.prog 27 #[.agg #[.int .i64 16, .int .i64 dk, .int .i64 ak, .int .i64 bk, .int .i64 n, .int .i64 t]] w fun e w' => e = .returned (.string (prtB ⟨16, dk, ak, bk, n, t⟩)) ∧ New w w' := by
  have HP := Lib.hid (joined_one (x := ⟨16, dk, ak, bk, n, t⟩) (l := [106, 117, 109, 112]) (show letters 16 = _ from by decide +kernel) (by kernel_rfl) (piece_num (c := 84) (v := t) (by decide)))
  obtain ⟨q0, q1, q2, q3, q4, q5⟩ := cells_six (Has.box w ⟨16, dk, ak, bk, n, t⟩)
  dsimp only at q0 q1 q2 q3 q4 q5
  have z1 := locB_le hd
  have z2 := locB_le ha
  have z3 := locB_le hb
  have z4 := textB_le hn
  have z5 := textB_le ht
  have HN := Lib.hid hn
  have HT := Lib.hid ht
  have hne := newW_any (w.alloc (.cells #[.int .i64 16, .int .i64 dk, .int .i64 ak, .int .i64 bk, .int .i64 n, .int .i64 t] 41))
  clear hn ht
  go_enter Tryd.func27, Tryd.ntmps27
  go_wp2_with fail
  refine wp_region_new (w0 := w.alloc (.cells #[.int .i64 16, .int .i64 dk, .int .i64 ak, .int .i64 bk, .int .i64 n, .int .i64 t] 41)) (New.refl _) (by kernel_rfl) (by kernel_rfl) ?_
  repeat (go_big_quiet_step (first | (go_at_call 43; exact quiet_new (refLoc_from _ (by assumption) _ (Subtype.property _)))))
  refine wpQuiet_nil ?_
  intro w2 h2
  go_wp2_with fail
  refine wp_region_new (w0 := w.alloc (.cells #[.int .i64 16, .int .i64 dk, .int .i64 ak, .int .i64 bk, .int .i64 n, .int .i64 t] 41)) h2 (by kernel_rfl) (by kernel_rfl) ?_
  repeat (go_big_quiet_step (first | (go_at_call 44; exact quiet_new (refText_from _ (by first | exact HN.out | exact HT.out) _ (Subtype.property _)))))
  refine wpQuiet_nil ?_
  intro w3 h3
  have c0 : w3.cell? ⟨w.heap.size, 0, none⟩ = some (.int .i64 16) := q0 ⟨w3, h3⟩
  clear q0 q1 q2 q3 q4 q5
  go_wp2_with (go_at_call 45; refine (word_lit 16 (by decide) _).mono ?_; rintro e w4 ⟨rfl, h4⟩; have c4 := (h4.cell (World.block_lt_of_cell? _ _ c0)).trans c0; rw [show wordB (Int.toNat 16) = ⟨#[106, 117, 109, 112]⟩ from rfl])
  go_ret
  refine ⟨ret_str ?_, ((alloc_new _ _).trans h3).trans h4⟩
  rw [prtB_toList, HP.out]
  simp [ByteArray.data_append, Array.toList_append, textB_toList]
set_option maxHeartbeats 2000000 in
set_option maxRecDepth 100000 in
theorem refPrint_17 (dk ak bk : Nat) (n t : Int) (hd : dk < 24) (ha : ak < 24) (hb : bk < 24) (hn : In64 n) (ht : In64 t) (w : World) :
    Calls Tryd.prog 27 #[.agg #[.int .i64 17, .int .i64 dk, .int .i64 ak, .int .i64 bk, .int .i64 n, .int .i64 t]] w fun e w' => e = .returned (.string (prtB ⟨17, dk, ak, bk, n, t⟩)) ∧ New w w' := by
  have HP := Lib.hid (joined_two (x := ⟨17, dk, ak, bk, n, t⟩) (l := [122, 101, 114, 111]) (show letters 17 = _ from by decide +kernel) (by kernel_rfl) (piece_loc (c := 65) (k := ak) (by decide) ha) (piece_num (c := 84) (v := t) (by decide)))
  obtain ⟨q0, q1, q2, q3, q4, q5⟩ := cells_six (Has.box w ⟨17, dk, ak, bk, n, t⟩)
  dsimp only at q0 q1 q2 q3 q4 q5
  have z1 := locB_le hd
  have z2 := locB_le ha
  have z3 := locB_le hb
  have z4 := textB_le hn
  have z5 := textB_le ht
  have HN := Lib.hid hn
  have HT := Lib.hid ht
  have hne := newW_any (w.alloc (.cells #[.int .i64 17, .int .i64 dk, .int .i64 ak, .int .i64 bk, .int .i64 n, .int .i64 t] 41))
  clear hn ht
  go_enter Tryd.func27, Tryd.ntmps27
  go_wp2_with fail
  refine wp_region_new (w0 := w.alloc (.cells #[.int .i64 17, .int .i64 dk, .int .i64 ak, .int .i64 bk, .int .i64 n, .int .i64 t] 41)) (New.refl _) (by kernel_rfl) (by kernel_rfl) ?_
  repeat (go_big_quiet_step (first | (go_at_call 43; exact quiet_new (refLoc_from _ (by assumption) _ (Subtype.property _)))))
  refine wpQuiet_nil ?_
  intro w2 h2
  go_wp2_with fail
  refine wp_region_new (w0 := w.alloc (.cells #[.int .i64 17, .int .i64 dk, .int .i64 ak, .int .i64 bk, .int .i64 n, .int .i64 t] 41)) h2 (by kernel_rfl) (by kernel_rfl) ?_
  repeat (go_big_quiet_step (first | (go_at_call 44; exact quiet_new (refText_from _ (by first | exact HN.out | exact HT.out) _ (Subtype.property _)))))
  refine wpQuiet_nil ?_
  intro w3 h3
  have c0 : w3.cell? ⟨w.heap.size, 0, none⟩ = some (.int .i64 17) := q0 ⟨w3, h3⟩
  clear q0 q1 q2 q3 q4 q5
  go_wp2_with (go_at_call 45; refine (word_lit 17 (by decide) _).mono ?_; rintro e w4 ⟨rfl, h4⟩; have c4 := (h4.cell (World.block_lt_of_cell? _ _ c0)).trans c0; rw [show wordB (Int.toNat 17) = ⟨#[122, 101, 114, 111]⟩ from rfl])
  go_ret
  refine ⟨ret_str ?_, ((alloc_new _ _).trans h3).trans h4⟩
  rw [prtB_toList, HP.out]
  simp [ByteArray.data_append, Array.toList_append, locB_toList, textB_toList]
set_option maxHeartbeats 2000000 in
set_option maxRecDepth 100000 in
theorem refPrint_18 (dk ak bk : Nat) (n t : Int) (hd : dk < 24) (ha : ak < 24) (hb : bk < 24) (hn : In64 n) (ht : In64 t) (w : World) :
    Calls Tryd.prog 27 #[.agg #[.int .i64 18, .int .i64 dk, .int .i64 ak, .int .i64 bk, .int .i64 n, .int .i64 t]] w fun e w' => e = .returned (.string (prtB ⟨18, dk, ak, bk, n, t⟩)) ∧ New w w' := by
  have HP := Lib.hid (joined_one (x := ⟨18, dk, ak, bk, n, t⟩) (l := [114, 101, 116]) (show letters 18 = _ from by decide +kernel) (by kernel_rfl) (piece_loc (c := 65) (k := ak) (by decide) ha))
  obtain ⟨q0, q1, q2, q3, q4, q5⟩ := cells_six (Has.box w ⟨18, dk, ak, bk, n, t⟩)
  dsimp only at q0 q1 q2 q3 q4 q5
  have z1 := locB_le hd
  have z2 := locB_le ha
  have z3 := locB_le hb
  have z4 := textB_le hn
  have z5 := textB_le ht
  have HN := Lib.hid hn
  have HT := Lib.hid ht
  have hne := newW_any (w.alloc (.cells #[.int .i64 18, .int .i64 dk, .int .i64 ak, .int .i64 bk, .int .i64 n, .int .i64 t] 41))
  clear hn ht
  go_enter Tryd.func27, Tryd.ntmps27
  go_wp2_with fail
  refine wp_region_new (w0 := w.alloc (.cells #[.int .i64 18, .int .i64 dk, .int .i64 ak, .int .i64 bk, .int .i64 n, .int .i64 t] 41)) (New.refl _) (by kernel_rfl) (by kernel_rfl) ?_
  repeat (go_big_quiet_step (first | (go_at_call 43; exact quiet_new (refLoc_from _ (by assumption) _ (Subtype.property _)))))
  refine wpQuiet_nil ?_
  intro w2 h2
  go_wp2_with fail
  refine wp_region_new (w0 := w.alloc (.cells #[.int .i64 18, .int .i64 dk, .int .i64 ak, .int .i64 bk, .int .i64 n, .int .i64 t] 41)) h2 (by kernel_rfl) (by kernel_rfl) ?_
  repeat (go_big_quiet_step (first | (go_at_call 44; exact quiet_new (refText_from _ (by first | exact HN.out | exact HT.out) _ (Subtype.property _)))))
  refine wpQuiet_nil ?_
  intro w3 h3
  have c0 : w3.cell? ⟨w.heap.size, 0, none⟩ = some (.int .i64 18) := q0 ⟨w3, h3⟩
  clear q0 q1 q2 q3 q4 q5
  go_wp2_with (go_at_call 45; refine (word_lit 18 (by decide) _).mono ?_; rintro e w4 ⟨rfl, h4⟩; have c4 := (h4.cell (World.block_lt_of_cell? _ _ c0)).trans c0; rw [show wordB (Int.toNat 18) = ⟨#[114, 101, 116]⟩ from rfl])
  go_ret
  refine ⟨ret_str ?_, ((alloc_new _ _).trans h3).trans h4⟩
  rw [prtB_toList, HP.out]
  simp [ByteArray.data_append, Array.toList_append, locB_toList]
end Go.Proofs.YtoeplfhigpdopaaDoor
