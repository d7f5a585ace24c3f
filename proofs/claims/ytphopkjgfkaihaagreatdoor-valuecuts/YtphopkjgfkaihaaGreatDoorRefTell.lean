/-
  The reference's Sets (joineryref03): what ins tells; and its Moves and Uses.
-/
import Derived.Test.YtphopkjgfkaihaaGreatDoorInsF
import Derived.Test.YtphopkjgfkaihaaGreatDoorRefMoves
import Derived.Test.YtphopkjgfkaihaaGreatDoorRefUses
namespace Go.Proofs.YtphopkjgfkaihaaGreatDoor
open Go.RowKit

def setsQ (op : Int) : Bool := decide ((4 ≤ op ∧ op ≤ 13) ∨ op = 15)
theorem sets_lit : ∀ k < 19, setsB (k : Nat) = setsQ (k : Nat) := by decide +kernel
theorem sets_iff (op : Int) : setsB op = setsQ op := by
  by_cases h : 1 ≤ op ∧ op ≤ 18
  · have := sets_lit op.toNat (by omega)
    rw [show ((op.toNat : Nat) : Int) = op from by omega] at this
    exact this
  · unfold setsB setsQ
    rw [letters_none h]
    exact (decide_eq_false (by simp)).trans (decide_eq_false (by omega)).symm
set_option maxHeartbeats 2000000 in
theorem refSets_any (o d a b n t : Int) (w : World) :
    Calls Tryz.prog 42 #[.agg #[.int .i64 o, .int .i64 d, .int .i64 a, .int .i64 b, .int .i64 n, .int .i64 t]] w fun e w' => e = .returned (.tuple #[.int .i64 (setsV ⟨o, d, a, b, n, t⟩), .bool (setsB o)]) ∧ New w w' := by
  have hv : setsV ⟨o, d, a, b, n, t⟩ = if setsB o = true then d else 0 := rfl
  rw [hv, sets_iff]
  unfold setsQ
  by_cases h : (4 ≤ o ∧ o ≤ 13) ∨ o = 15
  · rw [decide_eq_true h, if_pos rfl]
    have H := Lib.hid h
    clear hv h
    go_enter Tryz.func42, Tryz.ntmps42
    go_wp2
    all_goals first
      | (go_ret2; exact ⟨rfl, alloc_new _ _⟩)
      | (exfalso; have h := H.out; omega)
      | (exfalso; have h := H.out; simp only [beq_eq_false_iff_ne, ne_eq] at *; omega)
  · rw [decide_eq_false h, if_neg (by decide)]
    have H := Lib.hid h
    clear hv h
    go_enter Tryz.func42, Tryz.ntmps42
    go_wp2
    all_goals first
      | (go_ret2; exact ⟨rfl, alloc_new _ _⟩)
      | (exfalso; have h := H.out; omega)
      | (exfalso; have h := H.out; simp only [beq_iff_eq] at *; omega)

end Go.Proofs.YtphopkjgfkaihaaGreatDoor
