/-
  The reference's Moves, Sets and Uses (joineryref03): what ins tells.
-/
import Derived.Test.YtlebmmlkckilfaaDoorInsF
namespace Go.Proofs.YtlebmmlkckilfaaDoor
open Go.RowKit

set_option maxHeartbeats 2000000 in
theorem refMoves_any (o d a b n t : Int) (w : World) :
    Calls Tryd.prog 24 #[.agg #[.int .i64 o, .int .i64 d, .int .i64 a, .int .i64 b, .int .i64 n, .int .i64 t]] w fun e w' => e = .returned (.bool (movesB o)) ∧ New w w' := by
  unfold movesB
  by_cases h : o = 1 ∨ o = 2 ∨ o = 3 ∨ o = 16
  · rw [decide_eq_true h]
    have H := Lib.hid h
    clear h
    go_enter Tryd.func24, Tryd.ntmps24
    go_wp2
    all_goals first
      | (go_ret; exact ⟨rfl, alloc_new _ _⟩)
      | (go_ret; exact ⟨congrArg (fun z => Ending.returned (.bool z)) (by first | exact beq_of (by have h := H.out; omega) | exact bneq_of (by have h := H.out; omega) | exact decide_eq_true (by have h := H.out; omega) | exact decide_eq_false (by have h := H.out; omega)), alloc_new _ _⟩)
      | (exfalso; have h := H.out; omega)
      | (go_ret; exact ⟨congrArg (fun z => Ending.returned (.bool z)) (show (decide (o ≤ 3) || o == 16) = _ from by have h := H.out; rw [decide_eq_false (by omega)]; first | exact beq_of (by omega) | exact bneq_of (by omega)), alloc_new _ _⟩)
  · rw [decide_eq_false h]
    have H := Lib.hid h
    clear h
    go_enter Tryd.func24, Tryd.ntmps24
    go_wp2
    all_goals first
      | (go_ret; exact ⟨rfl, alloc_new _ _⟩)
      | (go_ret; exact ⟨congrArg (fun z => Ending.returned (.bool z)) (by first | exact beq_of (by have h := H.out; omega) | exact bneq_of (by have h := H.out; omega) | exact decide_eq_true (by have h := H.out; omega) | exact decide_eq_false (by have h := H.out; omega)), alloc_new _ _⟩)
      | (exfalso; have h := H.out; omega)
      | (go_ret; exact ⟨congrArg (fun z => Ending.returned (.bool z)) (show (decide (o ≤ 3) || o == 16) = _ from by have h := H.out; rw [decide_eq_false (by omega)]; first | exact beq_of (by omega) | exact bneq_of (by omega)), alloc_new _ _⟩)

def setsQ (op : Int) : Bool := decide ((4 ≤ op ∧ op ≤ 13) ∨ op = 15)
theorem sets_lit : ∀ k < 19, setsB (k : Nat) = setsQ (k : Nat) := by decide +kernel
theorem letters_none {op : Int} (h : ¬ (1 ≤ op ∧ op ≤ 18)) : letters op = [] := by
  unfold letters fieldsL
  rw [if_neg (by rw [known_iff]; exact h)]; rfl
theorem sets_iff (op : Int) : setsB op = setsQ op := by
  by_cases h : 1 ≤ op ∧ op ≤ 18
  · have := sets_lit op.toNat (by omega)
    rw [show ((op.toNat : Nat) : Int) = op from by omega] at this
    exact this
  · unfold setsB setsQ
    rw [letters_none h]
    exact (decide_eq_false (by simp)).trans (decide_eq_false (by omega)).symm
set_option maxHeartbeats 2000000 in
theorem refSets_any (o d a b n t : Int) (w : World) :
    Calls Tryd.prog 22 #[.agg #[.int .i64 o, .int .i64 d, .int .i64 a, .int .i64 b, .int .i64 n, .int .i64 t]] w fun e w' => e = .returned (.tuple #[.int .i64 (setsV ⟨o, d, a, b, n, t⟩), .bool (setsB o)]) ∧ New w w' := by
  have hv : setsV ⟨o, d, a, b, n, t⟩ = if setsB o = true then d else 0 := rfl
  rw [hv, sets_iff]
  unfold setsQ
  by_cases h : (4 ≤ o ∧ o ≤ 13) ∨ o = 15
  · rw [decide_eq_true h, if_pos rfl]
    have H := Lib.hid h
    clear hv h
    go_enter Tryd.func22, Tryd.ntmps22
    go_wp2
    all_goals first
      | (go_ret2; exact ⟨rfl, alloc_new _ _⟩)
      | (exfalso; have h := H.out; omega)
      | (exfalso; have h := H.out; simp only [beq_eq_false_iff_ne, ne_eq] at *; omega)
  · rw [decide_eq_false h, if_neg (by decide)]
    have H := Lib.hid h
    clear hv h
    go_enter Tryd.func22, Tryd.ntmps22
    go_wp2
    all_goals first
      | (go_ret2; exact ⟨rfl, alloc_new _ _⟩)
      | (exfalso; have h := H.out; omega)
      | (exfalso; have h := H.out; simp only [beq_iff_eq] at *; omega)

def usesQ (op : Int) : Int := if (4 ≤ op ∧ op ≤ 12) ∨ op = 14 then 2 else if ((op = 13 ∨ op = 15) ∨ op = 17) ∨ op = 18 then 1 else 0
theorem uses_class (x : I) : usesL x = if usesQ x.op = 2 then [x.a, x.b] else if usesQ x.op = 1 then [x.a] else [] := by
  by_cases h : 1 ≤ x.op ∧ x.op ≤ 18
  · have hl : letters x.op = if usesQ x.op = 2 then (if x.op = 14 then [65, 66] else [68, 65, 66]) else if usesQ x.op = 1 then (if x.op = 13 then [68, 65] else if x.op = 15 then [68, 65, 78] else if x.op = 17 then [65, 84] else [65]) else (if x.op = 1 then [100, 110] else if x.op = 16 then [84] else [100, 97]) := by
      have : ∀ k < 19, 1 ≤ k → letters (k : Nat) = if usesQ (k : Nat) = 2 then (if ((k : Nat) : Int) = 14 then [65, 66] else [68, 65, 66]) else if usesQ (k : Nat) = 1 then (if ((k : Nat) : Int) = 13 then [68, 65] else if ((k : Nat) : Int) = 15 then [68, 65, 78] else if ((k : Nat) : Int) = 17 then [65, 84] else [65]) else (if ((k : Nat) : Int) = 1 then [100, 110] else if ((k : Nat) : Int) = 16 then [84] else [100, 97]) := by decide +kernel
      have := this x.op.toNat (by omega) (by omega)
      rw [show ((x.op.toNat : Nat) : Int) = x.op from by omega] at this
      exact this
    unfold usesL
    rw [hl]
    repeat' split
    all_goals simp [usesR]
  · unfold usesL
    rw [letters_none h]
    have : usesQ x.op = 0 := by unfold usesQ; rw [if_neg (by omega), if_neg (by omega)]
    rw [this]
    rfl
set_option maxHeartbeats 2000000 in
theorem refUses_any (o d a b n t : Int) (w : World) :
    Calls Tryd.prog 20 #[.agg #[.int .i64 o, .int .i64 d, .int .i64 a, .int .i64 b, .int .i64 n, .int .i64 t]] w fun e w' => ∃ v, e = .returned v ∧ w'.ownsRow (w.heap.size + 1) 3 1 v (usesL ⟨o, d, a, b, n, t⟩).length ((usesL ⟨o, d, a, b, n, t⟩).map (Value.int .i64)) ∧ New w w' := by
  rw [uses_class]
  show Calls Tryd.prog 20 #[.agg #[.int .i64 o, .int .i64 d, .int .i64 a, .int .i64 b, .int .i64 n, .int .i64 t]] w fun e w' => ∃ v, e = .returned v ∧ w'.ownsRow (w.heap.size + 1) 3 1 v (if usesQ o = 2 then [a, b] else if usesQ o = 1 then [a] else []).length ((if usesQ o = 2 then [a, b] else if usesQ o = 1 then [a] else []).map (Value.int .i64)) ∧ New w w'
  unfold usesQ
  by_cases h : (4 ≤ o ∧ o ≤ 12) ∨ o = 14
  · rw [if_pos h, if_pos rfl]
    have H := Lib.hid h
    clear h
    go_enter Tryd.func20, Tryd.ntmps20
    go_wp2
    all_goals first
      | (go_ret; exact ⟨_, rfl, ⟨rfl, .inr ⟨w.heap.size + 1, 2, #[.int .i64 a, .int .i64 b], rfl, Nat.le_refl _, alloc_at (by rw [alloc_size]) _, Nat.le_refl _, by decide, rfl, rfl⟩⟩, (alloc_new _ _).alloc _⟩)
      | (exfalso; have h := H.out; omega)
      | (exfalso; have h := H.out; simp only [beq_iff_eq, beq_eq_false_iff_ne, ne_eq] at *; omega)
  · rw [if_neg h]
    by_cases h1 : ((o = 13 ∨ o = 15) ∨ o = 17) ∨ o = 18
    · rw [if_pos h1, if_neg (by decide), if_pos rfl]
      have H := Lib.hid h
      have H1 := Lib.hid h1
      clear h h1
      go_enter Tryd.func20, Tryd.ntmps20
      go_wp2
      all_goals first
        | (go_ret; exact ⟨_, rfl, ⟨rfl, .inr ⟨w.heap.size + 1, 1, #[.int .i64 a], rfl, Nat.le_refl _, alloc_at (by rw [alloc_size]) _, Nat.le_refl _, by decide, rfl, rfl⟩⟩, (alloc_new _ _).alloc _⟩)
        | (exfalso; have h := H.out; have h1 := H1.out; omega)
        | (exfalso; have h := H.out; have h1 := H1.out; simp only [beq_iff_eq, beq_eq_false_iff_ne, ne_eq] at *; omega)
    · rw [if_neg h1, if_neg (by decide), if_neg (by decide)]
      have H := Lib.hid h
      have H1 := Lib.hid h1
      clear h h1
      go_enter Tryd.func20, Tryd.ntmps20
      go_wp2
      all_goals first
        | (go_ret; exact ⟨_, rfl, World.ownsRow_nil _ _ _ _, alloc_new _ _⟩)
        | (exfalso; have h := H.out; have h1 := H1.out; omega)
        | (exfalso; have h := H.out; have h1 := H1.out; simp only [beq_iff_eq, beq_eq_false_iff_ne, ne_eq] at *; omega)
end Go.Proofs.YtlebmmlkckilfaaDoor
