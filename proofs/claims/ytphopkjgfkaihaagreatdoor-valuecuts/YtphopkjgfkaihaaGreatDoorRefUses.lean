/-
  The reference's Uses (joineryref03): what ins tells.
-/
import Derived.Test.YtphopkjgfkaihaaGreatDoorInsAll
import Derived.Test.YtphopkjgfkaihaaGreatDoorPlain
import Derived.OwnWalk
import Derived.Test.YtphopkjgfkaihaaGreatDoorAsmAll
namespace Go.Proofs.YtphopkjgfkaihaaGreatDoor
open Go.RowKit

set_option maxHeartbeats 2000000 in
theorem refUses_any (o d a b n t : Int) (w : World) :
    Calls Tryz.prog 48 #[.agg #[.int .i64 o, .int .i64 d, .int .i64 a, .int .i64 b, .int .i64 n, .int .i64 t]] w fun e w' => ∃ v, e = .returned v ∧ w'.ownsRow (w.heap.size + 1) 3 1 v (usesL ⟨o, d, a, b, n, t⟩).length ((usesL ⟨o, d, a, b, n, t⟩).map (Value.int .i64)) ∧ New w w' := by
  rw [uses_class]
  show Calls Tryz.prog 48 #[.agg #[.int .i64 o, .int .i64 d, .int .i64 a, .int .i64 b, .int .i64 n, .int .i64 t]] w fun e w' => ∃ v, e = .returned v ∧ w'.ownsRow (w.heap.size + 1) 3 1 v (if usesQ o = 2 then [a, b] else if usesQ o = 1 then [a] else []).length ((if usesQ o = 2 then [a, b] else if usesQ o = 1 then [a] else []).map (Value.int .i64)) ∧ New w w'
  unfold usesQ
  by_cases h : (4 ≤ o ∧ o ≤ 12) ∨ o = 14
  · rw [if_pos h, if_pos rfl]
    have H := Lib.hid h
    clear h
    go_enter Tryz.func48, Tryz.ntmps48
    go_wp2
    all_goals first
      | (go_ret; exact ⟨_, rfl, ⟨rfl, .inr ⟨w.heap.size + 1, 2, #[.int .i64 a, .int .i64 b], rfl, Nat.le_refl _, alloc_at (by rw [alloc_size]) _, Nat.le_refl _, by decide, rfl, rfl⟩⟩, (alloc_new _ _).alloc _⟩)
      | (exfalso; have h := H.out; omega)
      | (exfalso; have h := H.out; simp only [beq_iff_eq, beq_eq_false_iff_ne, ne_eq] at *; omega)
  · rw [if_neg h]
    by_cases h1 : ((o = 13 ∨ o = 15) ∨ o = 17) ∨ o = 18
    · rw [if_pos h1, if_neg (by decide), if_pos rfl]
      have H := Lib.hid h
      have H1 := Lib.hid h1
      clear h h1
      go_enter Tryz.func48, Tryz.ntmps48
      go_wp2
      all_goals first
        | (go_ret; exact ⟨_, rfl, ⟨rfl, .inr ⟨w.heap.size + 1, 1, #[.int .i64 a], rfl, Nat.le_refl _, alloc_at (by rw [alloc_size]) _, Nat.le_refl _, by decide, rfl, rfl⟩⟩, (alloc_new _ _).alloc _⟩)
        | (exfalso; have h := H.out; have h1 := H1.out; omega)
        | (exfalso; have h := H.out; have h1 := H1.out; simp only [beq_iff_eq, beq_eq_false_iff_ne, ne_eq] at *; omega)
    · rw [if_neg h1, if_neg (by decide), if_neg (by decide)]
      have H := Lib.hid h
      have H1 := Lib.hid h1
      clear h h1
      go_enter Tryz.func48, Tryz.ntmps48
      go_wp2
      all_goals first
        | (go_ret; exact ⟨_, rfl, World.ownsRow_nil _ _ _ _, alloc_new _ _⟩)
        | (exfalso; have h := H.out; have h1 := H1.out; omega)
        | (exfalso; have h := H.out; have h1 := H1.out; simp only [beq_iff_eq, beq_eq_false_iff_ne, ne_eq] at *; omega)
end Go.Proofs.YtphopkjgfkaihaaGreatDoor
