/-
  What num.Do computes, as plain functions on integers (out of NumMath, over Base). No program stands in this text.
-/
import Derived.Test.YtdghhedenjgjiaaGreatDoorBase
import Derived.Test.YtdghhedenjgjiaaGreatDoorNumP
namespace Go.Proofs.YtdghhedenjgjiaaGreatDoor
open Go.RowKit

def doV (op a b : Int) : Int :=
  if op = 4 then wrap64 (a + b) else if op = 5 then wrap64 (a - b) else if op = 6 then wrap64 (a * b)
  else if op = 7 then (if b = 0 then 0 else wrap64 (a.tdiv b))
  else if op = 8 then bits .and .i64 a b else if op = 9 then bits .or .i64 a b else if op = 10 then bits .xor .i64 a b
  else if op = 11 then (if a < b then 1 else 0) else if op = 12 then (if a = b then 1 else 0) else 0
def doH (op b : Int) : Int := if op < 4 ∨ 12 < op then 2 else if op = 7 ∧ b = 0 then 3 else 0
def hasB (op : Int) : Bool := decide (4 ≤ op ∧ op ≤ 12)
theorem wrap64_toInt (n : Int) : wrap64 n = (BitVec.ofInt 64 n).toInt := by
  rw [BitVec.toInt_ofInt, Int.bmod_def]; unfold wrap64; split <;> omega
theorem wrapNat_toInt (x : BitVec 64) : IntKind.i64.wrap (x.toNat : Int) = x.toInt := by
  rw [IntKind.wrap_i64, BitVec.toInt_eq_toNat_cond]; have := x.isLt; split <;> omega
theorem bits_and_toInt (a b : Int) : bits .and .i64 a b = (BitVec.ofInt 64 a &&& BitVec.ofInt 64 b).toInt := wrapNat_toInt _
theorem bits_or_toInt (a b : Int) : bits .or .i64 a b = (BitVec.ofInt 64 a ||| BitVec.ofInt 64 b).toInt := wrapNat_toInt _
theorem bits_xor_toInt (a b : Int) : bits .xor .i64 a b = (BitVec.ofInt 64 a ^^^ BitVec.ofInt 64 b).toInt := wrapNat_toInt _
theorem ofInt_toInt (x : BitVec 64) : BitVec.ofInt 64 x.toInt = x := BitVec.ofInt_toInt
theorem bits_in (op : BinOp) (a b : Int) : In64 (bits op .i64 a b) := by
  unfold bits; simp only; rw [IntKind.wrap_i64]; unfold In64; omega
theorem wrap64_sub (x y : BitVec 64) : wrap64 (x.toInt - y.toInt) = (x - y).toInt := by
  rw [wrap64_toInt, Int.sub_eq_add_neg, BitVec.ofInt_add, BitVec.ofInt_neg, ofInt_toInt, ofInt_toInt, BitVec.sub_eq_add_neg]
theorem or_sub_and (x y : BitVec 64) : (x ||| y) - (x &&& y) = x ^^^ y := by
  have h : (x ^^^ y) + (x &&& y) = x ||| y := by
    have h0 : (x ^^^ y) &&& (x &&& y) = 0#64 := by
      ext i hi; simp only [BitVec.getElem_and, BitVec.getElem_xor, BitVec.getElem_zero]; cases x[i] <;> cases y[i] <;> rfl
    rw [BitVec.add_eq_or_of_and_eq_zero _ _ h0]
    ext i hi; simp only [BitVec.getElem_and, BitVec.getElem_xor, BitVec.getElem_or]; cases x[i] <;> cases y[i] <;> rfl
  rw [← h, BitVec.add_sub_cancel]
theorem ref_sub (a b : Int) : wrap64 (a + wrap64 (-b)) = wrap64 (a - b) := by unfold wrap64; omega
theorem ref_xor (a b : Int) : wrap64 (bits .or .i64 a b - bits .and .i64 a b) = bits .xor .i64 a b := by
  rw [bits_and_toInt, bits_or_toInt, bits_xor_toInt, wrap64_sub, or_sub_and]
theorem ref_div (a : Int) : wrap64 (-a) = wrap64 (a.tdiv (-1)) := by simp [Int.tdiv_neg]
theorem wrap64_any (n : Int) : In64 (wrap64 n) := by unfold In64 wrap64; omega
theorem doV_in (op a b : Int) : In64 (doV op a b) := by
  unfold doV
  repeat (first | exact wrap64_any _ | exact bits_in _ _ _ | (unfold In64; omega) | split)
end Go.Proofs.YtdghhedenjgjiaaGreatDoor
