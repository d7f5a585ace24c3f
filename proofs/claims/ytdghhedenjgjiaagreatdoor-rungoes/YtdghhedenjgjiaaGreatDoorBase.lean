/-
  Plain notions that every layer's texts use: 'New' (nothing that was in memory has turned), 'In64', equal texts. No program stands in this text.
-/
import Derived.WalkKit
import Derived.WalkSpells
import Derived.WalkLawsBesides
import Derived.Lib.Hide
import Derived.Lib.ItoaNum
import Derived.Shelf.Abstract
import Derived.Laws.RangeAny
import Derived.LoopTactic
import Derived.BigQuiet
import Derived.Deep.QuietTactic
namespace Go.Proofs.YtdghhedenjgjiaaGreatDoor
open Go.RowKit

/-- Nothing that was there has turned; there may be new blocks and draws. -/
def New (w w' : World) : Prop := Below w.heap.size w w'
theorem New.refl (w : World) : New w w := Below.refl _ _
theorem New.trans {a b c : World} (h : New a b) (k : New b c) : New a c := Below.trans h (Below.mono k h.size)
theorem New.alloc {a w : World} (h : New a w) (o : Obj) : New a (w.alloc o) := Below.alloc h h.size o
theorem New.drew {a w : World} (h : New a w) : New a w.drew := Below.drew h
theorem New.iter (w : World) (s : ByteArray) (p : Nat) : New w (w.iter s p) := (New.refl w).alloc _

def In64 (a : Int) : Prop := -9223372036854775808 ≤ a ∧ a ≤ 9223372036854775807
theorem in64_of {n : Int} (h : (Lit.int .i64 n).wf = true) : In64 n := by
  unfold In64
  simpa [Lit.wf, IntKind.min, IntKind.max, IntKind.signed, IntKind.bits] using h

theorem str_beq {a b : ByteArray} {t : Bool} (h : decide (a.data.toList = b.data.toList) = t) : (a.toList == b.toList) = t := by
  rw [ByteArray.toList_eq, ByteArray.toList_eq, ← h]
  rw [Bool.eq_iff_iff, beq_iff_eq, decide_eq_true_iff]
theorem ret_str {a b : ByteArray} (h : a.data.toList = b.data.toList) : Ending.returned (.string a) = .returned (.string b) := by
  obtain ⟨⟨x⟩⟩ := a
  obtain ⟨⟨y⟩⟩ := b
  simp at h
  rw [h]
theorem ret_pair {k j : IntKind} {a b c d : Int} (h : a = c) (h' : b = d) : Ending.returned (.tuple #[.int k a, .int j b]) = .returned (.tuple #[.int k c, .int j d]) := by rw [h, h']
theorem beq_of {a b : Int} (h : a = b) : (a == b) = true := by simp [h]
theorem bneq_of {a b : Int} (h : a ≠ b) : (a == b) = false := by simp [h]
theorem bytes_eq {a b : ByteArray} (h : a.data.toList = b.data.toList) : a = b := by
  obtain ⟨⟨x⟩⟩ := a
  obtain ⟨⟨y⟩⟩ := b
  simp at h
  rw [h]
/-- The worlds in which nothing of 'w' has turned. -/
def NewW (w : World) : Type := { w' : World // New w w' }
theorem newW_any (w : World) : Nonempty (NewW w) := ⟨⟨w, New.refl w⟩⟩
/-- A region that draws its order, whose operations and callees turn nothing that was there: ONE walk, in the order of the text, over the class of all those worlds. -/
theorem wp_region_new {P : Program} {id : Nat} {Q : Exit → Act → World → Prop} {a : Act} {w0 w : World} {l : List Oper} (hC : New w0 w) (hm : P.follows .mixedOrders = true) (hB : Region.lexB .any l.toArray = true)
    (h : wpQuiet P l.toArray (fun w' => ∃ x : NewW w0, w' = x.val) (fun a' => ∀ w', New w0 w' → Q .normal a' w') l a) : (Code.region id l.toArray true).wp P Q a w := by
  refine wp_region_quiet (C := fun w' => ∃ x : NewW w0, w' = x.val) hm hB ⟨⟨w.drew, hC.drew⟩, rfl⟩ ?_
  have e : (fun a' : Act => ∀ w', (∃ x : NewW w0, w' = x.val) → Q .normal a' w') = (fun a' : Act => ∀ w', New w0 w' → Q .normal a' w') := by
    funext a'
    apply propext
    constructor
    · intro h w' hw'; exact h w' ⟨⟨w', hw'⟩, rfl⟩
    · rintro h w' ⟨x, rfl⟩; exact h _ x.property
  rw [e]
  simpa using h
theorem quiet_new {P : Program} {f : FuncId} {args : Array Value} {w0 w : World} {v : Value} (h : Calls P f args w fun e w' => e = .returned v ∧ New w0 w') :
    Calls P f args w fun e w' => e = .returned v ∧ ∃ x : NewW w0, w' = x.val := h.mono fun _ w' ⟨h1, h2⟩ => ⟨h1, ⟨w', h2⟩, rfl⟩
theorem size_list (s : ByteArray) : s.data.toList.length = s.size := rfl
theorem decDigits_big {u : Nat} (h : ¬ u < 10) : Lib.decDigits u = Lib.decDigits (u / 10) ++ [UInt8.ofNat (48 + u % 10)] := by
  rw [Lib.decDigits, dif_neg h]
end Go.Proofs.YtdghhedenjgjiaaGreatDoor
