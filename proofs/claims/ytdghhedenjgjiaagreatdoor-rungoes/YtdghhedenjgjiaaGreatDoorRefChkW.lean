/-
  The reference's Check of instructions (joineryref03): the same word, for every instruction and every number.
-/
import Derived.Test.YtdghhedenjgjiaaGreatDoorRefOnly
import Derived.Deep.Light
namespace Go.Proofs.YtdghhedenjgjiaaGreatDoor
open Go.RowKit

/-- The cells of an instruction that lies in a block of 'a', in every later world. -/
theorem cells_all {a : World} {g : Nat} {x : I} (h : Has a g x) :
    (∀ y : NewW a, y.val.cell? ⟨g, 0, none⟩ = some (.int .i64 x.op)) ∧ (∀ y : NewW a, y.val.cell? ⟨g, 1, none⟩ = some (.int .i64 x.d)) ∧ (∀ y : NewW a, y.val.cell? ⟨g, 2, none⟩ = some (.int .i64 x.a)) ∧
    (∀ y : NewW a, y.val.cell? ⟨g, 3, none⟩ = some (.int .i64 x.b)) ∧ (∀ y : NewW a, y.val.cell? ⟨g, 4, none⟩ = some (.int .i64 x.n)) ∧ (∀ y : NewW a, y.val.cell? ⟨g, 5, none⟩ = some (.int .i64 x.t)) := by
  refine ⟨fun y => ?_, fun y => ?_, fun y => ?_, fun y => ?_, fun y => ?_, fun y => ?_⟩ <;> exact cell_of_row y.val g _ _ _ _ (h.new y.property)

set_option maxHeartbeats 2000000 in
set_option maxRecDepth 100000 in
theorem rchk_low (o d a b n t m : Int) (h1 : o < 1) (w : World) :
    Calls Tryz.prog 60 #[.agg #[.int .i64 o, .int .i64 d, .int .i64 a, .int .i64 b, .int .i64 n, .int .i64 t], .int .i64 m] w fun e w' => e = .returned (.int .i64 1) ∧ New w w' := by
  obtain ⟨q0, q1, q2, q3, q4, q5⟩ := cells_all (Has.box w ⟨o, d, a, b, n, t⟩)
  dsimp only at q0 q1 q2 q3 q4 q5
  go_enter Tryz.func60, Tryz.ntmps60
  go_wp2_with fail
  have hne := newW_any (w.alloc (.cells #[.int .i64 o, .int .i64 d, .int .i64 a, .int .i64 b, .int .i64 n, .int .i64 t] 72))
  refine wp_region_new (w0 := w.alloc (.cells #[.int .i64 o, .int .i64 d, .int .i64 a, .int .i64 b, .int .i64 n, .int .i64 t] 72)) (New.refl _) (by kernel_rfl) (by kernel_rfl) ?_
  repeat (go_big_quiet_step (fail))
  refine wpQuiet_nil ?_
  intro w2 h2
  clear q0 q1 q2 q3 q4 q5
  go_wp2
  go_ret
  exact ⟨rfl, (alloc_new _ _).trans h2⟩
set_option maxHeartbeats 2000000 in
set_option maxRecDepth 100000 in
theorem rchk_high (o d a b n t m : Int) (h1 : decide (o < 1) = false) (h2' : 18 < o) (w : World) :
    Calls Tryz.prog 60 #[.agg #[.int .i64 o, .int .i64 d, .int .i64 a, .int .i64 b, .int .i64 n, .int .i64 t], .int .i64 m] w fun e w' => e = .returned (.int .i64 1) ∧ New w w' := by
  obtain ⟨q0, q1, q2, q3, q4, q5⟩ := cells_all (Has.box w ⟨o, d, a, b, n, t⟩)
  dsimp only at q0 q1 q2 q3 q4 q5
  go_enter Tryz.func60, Tryz.ntmps60
  go_wp2_with fail
  have hne := newW_any (w.alloc (.cells #[.int .i64 o, .int .i64 d, .int .i64 a, .int .i64 b, .int .i64 n, .int .i64 t] 72))
  refine wp_region_new (w0 := w.alloc (.cells #[.int .i64 o, .int .i64 d, .int .i64 a, .int .i64 b, .int .i64 n, .int .i64 t] 72)) (New.refl _) (by kernel_rfl) (by kernel_rfl) ?_
  repeat (go_big_quiet_step (fail))
  refine wpQuiet_nil ?_
  intro w2 h2
  clear q0 q1 q2 q3 q4 q5
  go_wp2
  go_ret
  exact ⟨rfl, (alloc_new _ _).trans h2⟩
set_option maxHeartbeats 2000000 in
set_option maxRecDepth 100000 in
theorem rchk_diff_d (o d a b n t m d1 a1 b1 n1 t1 : Int) (k1 : decide (o < 1) = false) (k2 : decide (18 < o) = false) (e1 : ¬ d1 = d) (w : World)
    (H : Hid (∀ w', New (w.alloc (.cells #[.int .i64 o, .int .i64 d, .int .i64 a, .int .i64 b, .int .i64 n, .int .i64 t] 72)) w' → Calls Tryz.prog 72 #[.agg #[.int .i64 o, .int .i64 d, .int .i64 a, .int .i64 b, .int .i64 n, .int .i64 t]] w' fun e w'' => e = .returned (.agg #[.int .i64 o, .int .i64 d1, .int .i64 a1, .int .i64 b1, .int .i64 n1, .int .i64 t1]) ∧ New (w.alloc (.cells #[.int .i64 o, .int .i64 d, .int .i64 a, .int .i64 b, .int .i64 n, .int .i64 t] 72)) w'')) :
    Calls Tryz.prog 60 #[.agg #[.int .i64 o, .int .i64 d, .int .i64 a, .int .i64 b, .int .i64 n, .int .i64 t], .int .i64 m] w fun e w' => e = .returned (.int .i64 1) ∧ New w w' := by
  have e2 := bneq_of e1
  obtain ⟨q0, q1, q2, q3, q4, q5⟩ := cells_all (Has.box w ⟨o, d, a, b, n, t⟩)
  dsimp only at q0 q1 q2 q3 q4 q5
  go_enter Tryz.func60, Tryz.ntmps60
  go_wp2_with fail
  have hne := newW_any (w.alloc (.cells #[.int .i64 o, .int .i64 d, .int .i64 a, .int .i64 b, .int .i64 n, .int .i64 t] 72))
  refine wp_region_new (w0 := w.alloc (.cells #[.int .i64 o, .int .i64 d, .int .i64 a, .int .i64 b, .int .i64 n, .int .i64 t] 72)) (New.refl _) (by kernel_rfl) (by kernel_rfl) ?_
  repeat (go_big_quiet_step (first | (go_at_call 72; exact quiet_new (H.out _ (Subtype.property _)))))
  refine wpQuiet_nil ?_
  intro w2 h2
  clear q0 q1 q2 q3 q4 q5
  go_wp2
  go_ret
  exact ⟨rfl, (alloc_new _ _).trans h2⟩
set_option maxHeartbeats 2000000 in
set_option maxRecDepth 100000 in
theorem rchk_diff_a (o d a b n t m a1 b1 n1 t1 : Int) (k1 : decide (o < 1) = false) (k2 : decide (18 < o) = false) (e1 : ¬ a1 = a) (w : World)
    (H : Hid (∀ w', New (w.alloc (.cells #[.int .i64 o, .int .i64 d, .int .i64 a, .int .i64 b, .int .i64 n, .int .i64 t] 72)) w' → Calls Tryz.prog 72 #[.agg #[.int .i64 o, .int .i64 d, .int .i64 a, .int .i64 b, .int .i64 n, .int .i64 t]] w' fun e w'' => e = .returned (.agg #[.int .i64 o, .int .i64 d, .int .i64 a1, .int .i64 b1, .int .i64 n1, .int .i64 t1]) ∧ New (w.alloc (.cells #[.int .i64 o, .int .i64 d, .int .i64 a, .int .i64 b, .int .i64 n, .int .i64 t] 72)) w'')) :
    Calls Tryz.prog 60 #[.agg #[.int .i64 o, .int .i64 d, .int .i64 a, .int .i64 b, .int .i64 n, .int .i64 t], .int .i64 m] w fun e w' => e = .returned (.int .i64 1) ∧ New w w' := by
  have e2 := bneq_of e1
  obtain ⟨q0, q1, q2, q3, q4, q5⟩ := cells_all (Has.box w ⟨o, d, a, b, n, t⟩)
  dsimp only at q0 q1 q2 q3 q4 q5
  go_enter Tryz.func60, Tryz.ntmps60
  go_wp2_with fail
  have hne := newW_any (w.alloc (.cells #[.int .i64 o, .int .i64 d, .int .i64 a, .int .i64 b, .int .i64 n, .int .i64 t] 72))
  refine wp_region_new (w0 := w.alloc (.cells #[.int .i64 o, .int .i64 d, .int .i64 a, .int .i64 b, .int .i64 n, .int .i64 t] 72)) (New.refl _) (by kernel_rfl) (by kernel_rfl) ?_
  repeat (go_big_quiet_step (first | (go_at_call 72; exact quiet_new (H.out _ (Subtype.property _)))))
  refine wpQuiet_nil ?_
  intro w2 h2
  clear q0 q1 q2 q3 q4 q5
  go_wp2
  go_ret
  exact ⟨rfl, (alloc_new _ _).trans h2⟩
set_option maxHeartbeats 2000000 in
set_option maxRecDepth 100000 in
theorem rchk_diff_b (o d a b n t m b1 n1 t1 : Int) (k1 : decide (o < 1) = false) (k2 : decide (18 < o) = false) (e1 : ¬ b1 = b) (w : World)
    (H : Hid (∀ w', New (w.alloc (.cells #[.int .i64 o, .int .i64 d, .int .i64 a, .int .i64 b, .int .i64 n, .int .i64 t] 72)) w' → Calls Tryz.prog 72 #[.agg #[.int .i64 o, .int .i64 d, .int .i64 a, .int .i64 b, .int .i64 n, .int .i64 t]] w' fun e w'' => e = .returned (.agg #[.int .i64 o, .int .i64 d, .int .i64 a, .int .i64 b1, .int .i64 n1, .int .i64 t1]) ∧ New (w.alloc (.cells #[.int .i64 o, .int .i64 d, .int .i64 a, .int .i64 b, .int .i64 n, .int .i64 t] 72)) w'')) :
    Calls Tryz.prog 60 #[.agg #[.int .i64 o, .int .i64 d, .int .i64 a, .int .i64 b, .int .i64 n, .int .i64 t], .int .i64 m] w fun e w' => e = .returned (.int .i64 1) ∧ New w w' := by
  have e2 := bneq_of e1
  obtain ⟨q0, q1, q2, q3, q4, q5⟩ := cells_all (Has.box w ⟨o, d, a, b, n, t⟩)
  dsimp only at q0 q1 q2 q3 q4 q5
  go_enter Tryz.func60, Tryz.ntmps60
  go_wp2_with fail
  have hne := newW_any (w.alloc (.cells #[.int .i64 o, .int .i64 d, .int .i64 a, .int .i64 b, .int .i64 n, .int .i64 t] 72))
  refine wp_region_new (w0 := w.alloc (.cells #[.int .i64 o, .int .i64 d, .int .i64 a, .int .i64 b, .int .i64 n, .int .i64 t] 72)) (New.refl _) (by kernel_rfl) (by kernel_rfl) ?_
  repeat (go_big_quiet_step (first | (go_at_call 72; exact quiet_new (H.out _ (Subtype.property _)))))
  refine wpQuiet_nil ?_
  intro w2 h2
  clear q0 q1 q2 q3 q4 q5
  go_wp2
  go_ret
  exact ⟨rfl, (alloc_new _ _).trans h2⟩
set_option maxHeartbeats 2000000 in
set_option maxRecDepth 100000 in
theorem rchk_diff_n (o d a b n t m n1 t1 : Int) (k1 : decide (o < 1) = false) (k2 : decide (18 < o) = false) (e1 : ¬ n1 = n) (w : World)
    (H : Hid (∀ w', New (w.alloc (.cells #[.int .i64 o, .int .i64 d, .int .i64 a, .int .i64 b, .int .i64 n, .int .i64 t] 72)) w' → Calls Tryz.prog 72 #[.agg #[.int .i64 o, .int .i64 d, .int .i64 a, .int .i64 b, .int .i64 n, .int .i64 t]] w' fun e w'' => e = .returned (.agg #[.int .i64 o, .int .i64 d, .int .i64 a, .int .i64 b, .int .i64 n1, .int .i64 t1]) ∧ New (w.alloc (.cells #[.int .i64 o, .int .i64 d, .int .i64 a, .int .i64 b, .int .i64 n, .int .i64 t] 72)) w'')) :
    Calls Tryz.prog 60 #[.agg #[.int .i64 o, .int .i64 d, .int .i64 a, .int .i64 b, .int .i64 n, .int .i64 t], .int .i64 m] w fun e w' => e = .returned (.int .i64 1) ∧ New w w' := by
  have e2 := bneq_of e1
  obtain ⟨q0, q1, q2, q3, q4, q5⟩ := cells_all (Has.box w ⟨o, d, a, b, n, t⟩)
  dsimp only at q0 q1 q2 q3 q4 q5
  go_enter Tryz.func60, Tryz.ntmps60
  go_wp2_with fail
  have hne := newW_any (w.alloc (.cells #[.int .i64 o, .int .i64 d, .int .i64 a, .int .i64 b, .int .i64 n, .int .i64 t] 72))
  refine wp_region_new (w0 := w.alloc (.cells #[.int .i64 o, .int .i64 d, .int .i64 a, .int .i64 b, .int .i64 n, .int .i64 t] 72)) (New.refl _) (by kernel_rfl) (by kernel_rfl) ?_
  repeat (go_big_quiet_step (first | (go_at_call 72; exact quiet_new (H.out _ (Subtype.property _)))))
  refine wpQuiet_nil ?_
  intro w2 h2
  clear q0 q1 q2 q3 q4 q5
  go_wp2
  go_ret
  exact ⟨rfl, (alloc_new _ _).trans h2⟩
set_option maxHeartbeats 2000000 in
set_option maxRecDepth 100000 in
theorem rchk_diff_t (o d a b n t m t1 : Int) (k1 : decide (o < 1) = false) (k2 : decide (18 < o) = false) (e1 : ¬ t1 = t) (w : World)
    (H : Hid (∀ w', New (w.alloc (.cells #[.int .i64 o, .int .i64 d, .int .i64 a, .int .i64 b, .int .i64 n, .int .i64 t] 72)) w' → Calls Tryz.prog 72 #[.agg #[.int .i64 o, .int .i64 d, .int .i64 a, .int .i64 b, .int .i64 n, .int .i64 t]] w' fun e w'' => e = .returned (.agg #[.int .i64 o, .int .i64 d, .int .i64 a, .int .i64 b, .int .i64 n, .int .i64 t1]) ∧ New (w.alloc (.cells #[.int .i64 o, .int .i64 d, .int .i64 a, .int .i64 b, .int .i64 n, .int .i64 t] 72)) w'')) :
    Calls Tryz.prog 60 #[.agg #[.int .i64 o, .int .i64 d, .int .i64 a, .int .i64 b, .int .i64 n, .int .i64 t], .int .i64 m] w fun e w' => e = .returned (.int .i64 1) ∧ New w w' := by
  have e2 := bneq_of e1
  obtain ⟨q0, q1, q2, q3, q4, q5⟩ := cells_all (Has.box w ⟨o, d, a, b, n, t⟩)
  dsimp only at q0 q1 q2 q3 q4 q5
  go_enter Tryz.func60, Tryz.ntmps60
  go_wp2_with fail
  have hne := newW_any (w.alloc (.cells #[.int .i64 o, .int .i64 d, .int .i64 a, .int .i64 b, .int .i64 n, .int .i64 t] 72))
  refine wp_region_new (w0 := w.alloc (.cells #[.int .i64 o, .int .i64 d, .int .i64 a, .int .i64 b, .int .i64 n, .int .i64 t] 72)) (New.refl _) (by kernel_rfl) (by kernel_rfl) ?_
  repeat (go_big_quiet_step (first | (go_at_call 72; exact quiet_new (H.out _ (Subtype.property _)))))
  refine wpQuiet_nil ?_
  intro w2 h2
  clear q0 q1 q2 q3 q4 q5
  go_wp2
  go_ret
  exact ⟨rfl, (alloc_new _ _).trans h2⟩
set_option maxHeartbeats 2000000 in
set_option maxRecDepth 100000 in
theorem rchk_call_low (d a b n t m : Int) (e1 : n < 0) (w : World)
    (H : Hid (∀ w', New (w.alloc (.cells #[.int .i64 15, .int .i64 d, .int .i64 a, .int .i64 b, .int .i64 n, .int .i64 t] 72)) w' → Calls Tryz.prog 72 #[.agg #[.int .i64 15, .int .i64 d, .int .i64 a, .int .i64 b, .int .i64 n, .int .i64 t]] w' fun e w'' => e = .returned (.agg #[.int .i64 15, .int .i64 d, .int .i64 a, .int .i64 b, .int .i64 n, .int .i64 t]) ∧ New (w.alloc (.cells #[.int .i64 15, .int .i64 d, .int .i64 a, .int .i64 b, .int .i64 n, .int .i64 t] 72)) w'')) :
    Calls Tryz.prog 60 #[.agg #[.int .i64 15, .int .i64 d, .int .i64 a, .int .i64 b, .int .i64 n, .int .i64 t], .int .i64 m] w fun e w' => e = .returned (.int .i64 1) ∧ New w w' := by
  obtain ⟨q0, q1, q2, q3, q4, q5⟩ := cells_all (Has.box w ⟨15, d, a, b, n, t⟩)
  dsimp only at q0 q1 q2 q3 q4 q5
  go_enter Tryz.func60, Tryz.ntmps60
  go_wp2_with fail
  have hne := newW_any (w.alloc (.cells #[.int .i64 15, .int .i64 d, .int .i64 a, .int .i64 b, .int .i64 n, .int .i64 t] 72))
  refine wp_region_new (w0 := w.alloc (.cells #[.int .i64 15, .int .i64 d, .int .i64 a, .int .i64 b, .int .i64 n, .int .i64 t] 72)) (New.refl _) (by kernel_rfl) (by kernel_rfl) ?_
  repeat (go_big_quiet_step (first | (go_at_call 72; exact quiet_new (H.out _ (Subtype.property _)))))
  refine wpQuiet_nil ?_
  intro w2 h2
  clear q0 q1 q2 q3 q4 q5
  go_wp2
  go_ret
  exact ⟨rfl, (alloc_new _ _).trans h2⟩
set_option maxHeartbeats 2000000 in
set_option maxRecDepth 100000 in
theorem rchk_call_high (d a b n t m : Int) (e1 : decide (n < 0) = false) (e2 : 99 < n) (w : World)
    (H : Hid (∀ w', New (w.alloc (.cells #[.int .i64 15, .int .i64 d, .int .i64 a, .int .i64 b, .int .i64 n, .int .i64 t] 72)) w' → Calls Tryz.prog 72 #[.agg #[.int .i64 15, .int .i64 d, .int .i64 a, .int .i64 b, .int .i64 n, .int .i64 t]] w' fun e w'' => e = .returned (.agg #[.int .i64 15, .int .i64 d, .int .i64 a, .int .i64 b, .int .i64 n, .int .i64 t]) ∧ New (w.alloc (.cells #[.int .i64 15, .int .i64 d, .int .i64 a, .int .i64 b, .int .i64 n, .int .i64 t] 72)) w'')) :
    Calls Tryz.prog 60 #[.agg #[.int .i64 15, .int .i64 d, .int .i64 a, .int .i64 b, .int .i64 n, .int .i64 t], .int .i64 m] w fun e w' => e = .returned (.int .i64 1) ∧ New w w' := by
  obtain ⟨q0, q1, q2, q3, q4, q5⟩ := cells_all (Has.box w ⟨15, d, a, b, n, t⟩)
  dsimp only at q0 q1 q2 q3 q4 q5
  go_enter Tryz.func60, Tryz.ntmps60
  go_wp2_with fail
  have hne := newW_any (w.alloc (.cells #[.int .i64 15, .int .i64 d, .int .i64 a, .int .i64 b, .int .i64 n, .int .i64 t] 72))
  refine wp_region_new (w0 := w.alloc (.cells #[.int .i64 15, .int .i64 d, .int .i64 a, .int .i64 b, .int .i64 n, .int .i64 t] 72)) (New.refl _) (by kernel_rfl) (by kernel_rfl) ?_
  repeat (go_big_quiet_step (first | (go_at_call 72; exact quiet_new (H.out _ (Subtype.property _)))))
  refine wpQuiet_nil ?_
  intro w2 h2
  clear q0 q1 q2 q3 q4 q5
  go_wp2
  go_ret
  exact ⟨rfl, (alloc_new _ _).trans h2⟩
set_option maxHeartbeats 2000000 in
set_option maxRecDepth 100000 in
theorem rchk_call_in (d a b n t m : Int) (e1 : decide (n < 0) = false) (e2 : decide (99 < n) = false) (w : World)
    (H : Hid (∀ w', New (w.alloc (.cells #[.int .i64 15, .int .i64 d, .int .i64 a, .int .i64 b, .int .i64 n, .int .i64 t] 72)) w' → Calls Tryz.prog 72 #[.agg #[.int .i64 15, .int .i64 d, .int .i64 a, .int .i64 b, .int .i64 n, .int .i64 t]] w' fun e w'' => e = .returned (.agg #[.int .i64 15, .int .i64 d, .int .i64 a, .int .i64 b, .int .i64 n, .int .i64 t]) ∧ New (w.alloc (.cells #[.int .i64 15, .int .i64 d, .int .i64 a, .int .i64 b, .int .i64 n, .int .i64 t] 72)) w'')) :
    Calls Tryz.prog 60 #[.agg #[.int .i64 15, .int .i64 d, .int .i64 a, .int .i64 b, .int .i64 n, .int .i64 t], .int .i64 m] w fun e w' => e = .returned (.int .i64 (refV ⟨15, d, a, b, n, t⟩ m)) ∧ New w w' := by
  have e3 : 0 ≤ n := by simpa using e1
  have e4 : n ≤ 99 := by simpa using e2
  obtain ⟨q0, q1, q2, q3, q4, q5⟩ := cells_all (Has.box w ⟨15, d, a, b, n, t⟩)
  dsimp only at q0 q1 q2 q3 q4 q5
  go_enter Tryz.func60, Tryz.ntmps60
  go_wp2_with fail
  have hne := newW_any (w.alloc (.cells #[.int .i64 15, .int .i64 d, .int .i64 a, .int .i64 b, .int .i64 n, .int .i64 t] 72))
  refine wp_region_new (w0 := w.alloc (.cells #[.int .i64 15, .int .i64 d, .int .i64 a, .int .i64 b, .int .i64 n, .int .i64 t] 72)) (New.refl _) (by kernel_rfl) (by kernel_rfl) ?_
  repeat (go_big_quiet_step (first | (go_at_call 72; exact quiet_new (H.out _ (Subtype.property _)))))
  refine wpQuiet_nil ?_
  intro w2 h2
  have hx := (Has.box w ⟨15, d, a, b, n, t⟩).new h2
  obtain ⟨c0, c1, c2, c3⟩ := hx.cell
  have c5 : w2.cell? ⟨w.heap.size, 5, none⟩ = some (.int .i64 t) := q5 ⟨w2, h2⟩
  dsimp only at c0 c1 c2 c3
  clear q0 q1 q2 q3 q4 q5 hx
  go_wp2_with (first | (go_at_call 73; refine (rplace_any _ _).mono ?_; rintro e w3 ⟨rfl, rfl⟩) | (go_at_call 74; refine (rreg_any _ _).mono ?_; rintro e w3 ⟨rfl, rfl⟩))
  all_goals
    go_ret
    refine ⟨?_, (alloc_new _ _).trans h2⟩
    refine congrArg (fun z => Ending.returned (.int .i64 z)) ?_
    go_light
    simp only [regB, Bool.not_eq_true', Bool.not_eq_false', decide_eq_true_eq, decide_eq_false_iff_not] at *
    dsimp only [refV]
    repeat' split
    all_goals first | rfl | (exfalso; omega)
set_option maxHeartbeats 2000000 in
set_option maxRecDepth 100000 in
theorem rchk_in (o d a b n t m : Int) (k1 : decide (o < 1) = false) (k2 : decide (18 < o) = false) (k3 : (o == 15) = false) (w : World)
    (H : Hid (∀ w', New (w.alloc (.cells #[.int .i64 o, .int .i64 d, .int .i64 a, .int .i64 b, .int .i64 n, .int .i64 t] 72)) w' → Calls Tryz.prog 72 #[.agg #[.int .i64 o, .int .i64 d, .int .i64 a, .int .i64 b, .int .i64 n, .int .i64 t]] w' fun e w'' => e = .returned (.agg #[.int .i64 o, .int .i64 d, .int .i64 a, .int .i64 b, .int .i64 n, .int .i64 t]) ∧ New (w.alloc (.cells #[.int .i64 o, .int .i64 d, .int .i64 a, .int .i64 b, .int .i64 n, .int .i64 t] 72)) w'')) :
    Calls Tryz.prog 60 #[.agg #[.int .i64 o, .int .i64 d, .int .i64 a, .int .i64 b, .int .i64 n, .int .i64 t], .int .i64 m] w fun e w' => e = .returned (.int .i64 (refV ⟨o, d, a, b, n, t⟩ m)) ∧ New w w' := by
  have k4 : o ≠ 15 := by simpa using k3
  obtain ⟨q0, q1, q2, q3, q4, q5⟩ := cells_all (Has.box w ⟨o, d, a, b, n, t⟩)
  dsimp only at q0 q1 q2 q3 q4 q5
  go_enter Tryz.func60, Tryz.ntmps60
  go_wp2_with fail
  have hne := newW_any (w.alloc (.cells #[.int .i64 o, .int .i64 d, .int .i64 a, .int .i64 b, .int .i64 n, .int .i64 t] 72))
  refine wp_region_new (w0 := w.alloc (.cells #[.int .i64 o, .int .i64 d, .int .i64 a, .int .i64 b, .int .i64 n, .int .i64 t] 72)) (New.refl _) (by kernel_rfl) (by kernel_rfl) ?_
  repeat (go_big_quiet_step (first | (go_at_call 72; exact quiet_new (H.out _ (Subtype.property _)))))
  refine wpQuiet_nil ?_
  intro w2 h2
  have hx := (Has.box w ⟨o, d, a, b, n, t⟩).new h2
  obtain ⟨c0, c1, c2, c3⟩ := hx.cell
  have c5 : w2.cell? ⟨w.heap.size, 5, none⟩ = some (.int .i64 t) := q5 ⟨w2, h2⟩
  dsimp only at c0 c1 c2 c3
  clear q0 q1 q2 q3 q4 q5 hx
  go_wp2_with (first | (go_at_call 73; refine (rplace_any _ _).mono ?_; rintro e w3 ⟨rfl, rfl⟩) | (go_at_call 74; refine (rreg_any _ _).mono ?_; rintro e w3 ⟨rfl, rfl⟩))
  all_goals
    go_ret
    refine ⟨?_, (alloc_new _ _).trans h2⟩
    refine congrArg (fun z => Ending.returned (.int .i64 z)) ?_
    go_light
    simp only [rightB, regB, Bool.not_eq_true', Bool.not_eq_false', decide_eq_true_eq, decide_eq_false_iff_not] at *
    dsimp only [refV]
    repeat' split
    all_goals first | rfl | (exfalso; omega)
end Go.Proofs.YtdghhedenjgjiaaGreatDoor
