/-
  What is told of an instruction (moves, sets, uses), as plain functions. No program stands in this text.
-/
import Derived.Test.YtdghhedenjgjiaaGreatDoorInsRead
namespace Go.Proofs.YtdghhedenjgjiaaGreatDoor
open Go.RowKit

def movesB (op : Int) : Bool := decide (op = 1 ∨ op = 2 ∨ op = 3 ∨ op = 16)
def setsB (op : Int) : Bool := decide ((68 : Int) ∈ letters op)
def setsV (x : I) : Int := if setsB x.op = true then x.d else 0
theorem sets_at {op : Int} {pos : Nat} {c : Int} (h : (letters op).drop pos = c :: (letters op).drop (pos + 1)) (hc : c = 68) : setsB op = true := by
  unfold setsB
  rw [decide_eq_true_iff]
  exact List.mem_of_mem_drop (i := pos) (by rw [h, hc]; exact List.mem_cons_self ..)
def usesR (x : I) : List Int → List Int
  | [] => []
  | c :: L => if c = 65 then x.a :: usesR x L else if c = 66 then x.b :: usesR x L else usesR x L
def usesL (x : I) : List Int := usesR x (letters x.op)
theorem letters_none {op : Int} (h : ¬ (1 ≤ op ∧ op ≤ 18)) : letters op = [] := by
  unfold letters fieldsL
  rw [if_neg (by rw [known_iff]; exact h)]; rfl
def usesQ (op : Int) : Int := if (4 ≤ op ∧ op ≤ 12) ∨ op = 14 then 2 else if ((op = 13 ∨ op = 15) ∨ op = 17) ∨ op = 18 then 1 else 0
theorem uses_class (x : I) : usesL x = if usesQ x.op = 2 then [x.a, x.b] else if usesQ x.op = 1 then [x.a] else [] := by
  by_cases h : 1 ≤ x.op ∧ x.op ≤ 18
  · have hl : letters x.op = if usesQ x.op = 2 then (if x.op = 14 then [65, 66] else [68, 65, 66]) else if usesQ x.op = 1 then (if x.op = 13 then [68, 65] else if x.op = 15 then [68, 65, 78] else if x.op = 17 then [65, 84] else [65]) else (if x.op = 1 then [100, 110] else if x.op = 16 then [84] else [100, 97]) := by
      have : ∀ k < 19, 1 ≤ k → letters (k : Nat) = if usesQ (k : Nat) = 2 then (if ((k : Nat) : Int) = 14 then [65, 66] else [68, 65, 66]) else if usesQ (k : Nat) = 1 then (if ((k : Nat) : Int) = 13 then [68, 65] else if ((k : Nat) : Int) = 15 then [68, 65, 78] else if ((k : Nat) : Int) = 17 then [65, 84] else [65]) else (if ((k : Nat) : Int) = 1 then [100, 110] else if ((k : Nat) : Int) = 16 then [84] else [100, 97]) := by decide +kernel
      have := this x.op.toNat (by omega) (by omega)
      rw [show ((x.op.toNat : Nat) : Int) = x.op from by omega] at this
      exact this
    unfold usesL
    rw [hl]
    repeat' split
    all_goals simp [usesR]
  · unfold usesL
    rw [letters_none h]
    have : usesQ x.op = 0 := by unfold usesQ; rw [if_neg (by omega), if_neg (by omega)]
    rw [this]
    rfl
end Go.Proofs.YtdghhedenjgjiaaGreatDoor
