/-
  What num's functions compute, as plain functions on integers, and the arithmetic that the laws of layer 1 ask. No program stands in this text.
-/
import Derived.WalkKit
namespace Go.Proofs.YthcjhcofcjmmbaaDoor
open Go.RowKit

def doV (op a b : Int) : Int :=
  if op = 4 then wrap64 (a + b) else if op = 5 then wrap64 (a - b) else if op = 6 then wrap64 (a * b)
  else if op = 7 then (if b = 0 then 0 else wrap64 (a.tdiv b))
  else if op = 8 then bits .and .i64 a b else if op = 9 then bits .or .i64 a b else if op = 10 then bits .xor .i64 a b
  else if op = 11 then (if a < b then 1 else 0) else if op = 12 then (if a = b then 1 else 0) else 0
def doH (op b : Int) : Int := if op < 4 ∨ 12 < op then 2 else if op = 7 ∧ b = 0 then 3 else 0
def hasB (op : Int) : Bool := decide (4 ≤ op ∧ op ≤ 12)

def In64 (a : Int) : Prop := -9223372036854775808 ≤ a ∧ a ≤ 9223372036854775807

theorem wrap64_in (n : Int) : In64 (wrap64 n) := by unfold In64 wrap64; omega
theorem wrap64_id {n : Int} (h : In64 n) : wrap64 n = n := by unfold In64 at h; unfold wrap64; omega
theorem wrap64_toInt (n : Int) : wrap64 n = (BitVec.ofInt 64 n).toInt := by
  rw [BitVec.toInt_ofInt, Int.bmod_def]; unfold wrap64; split <;> omega
theorem wrapNat_toInt (x : BitVec 64) : IntKind.i64.wrap (x.toNat : Int) = x.toInt := by
  rw [IntKind.wrap_i64, BitVec.toInt_eq_toNat_cond]; have := x.isLt; split <;> omega
theorem bits_and_toInt (a b : Int) : bits .and .i64 a b = (BitVec.ofInt 64 a &&& BitVec.ofInt 64 b).toInt := wrapNat_toInt _
theorem bits_or_toInt (a b : Int) : bits .or .i64 a b = (BitVec.ofInt 64 a ||| BitVec.ofInt 64 b).toInt := wrapNat_toInt _
theorem bits_xor_toInt (a b : Int) : bits .xor .i64 a b = (BitVec.ofInt 64 a ^^^ BitVec.ofInt 64 b).toInt := wrapNat_toInt _
theorem toInt_in (x : BitVec 64) : In64 x.toInt := by
  unfold In64; have h1 := @BitVec.le_toInt 64 x; have h2 := @BitVec.toInt_lt 64 x; omega
theorem ofInt_toInt (x : BitVec 64) : BitVec.ofInt 64 x.toInt = x := BitVec.ofInt_toInt
theorem toInt_of {a : Int} (h : In64 a) : (BitVec.ofInt 64 a).toInt = a := by rw [← wrap64_toInt, wrap64_id h]

theorem bits_in (op : BinOp) (a b : Int) : In64 (bits op .i64 a b) := by
  unfold bits; simp only; rw [IntKind.wrap_i64]; unfold In64; omega

theorem wrap64_add (x y : BitVec 64) : wrap64 (x.toInt + y.toInt) = (x + y).toInt := by
  rw [wrap64_toInt, BitVec.ofInt_add, ofInt_toInt, ofInt_toInt]
theorem wrap64_sub (x y : BitVec 64) : wrap64 (x.toInt - y.toInt) = (x - y).toInt := by
  rw [wrap64_toInt, Int.sub_eq_add_neg, BitVec.ofInt_add, BitVec.ofInt_neg, ofInt_toInt, ofInt_toInt, BitVec.sub_eq_add_neg]

theorem and_or_add (x y : BitVec 64) : (x &&& y) + (x ||| y) = x + y := by
  have h1 : (x &&& y) + (x &&& ~~~y) = x := by
    have h0 : (x &&& y) &&& (x &&& ~~~y) = 0#64 := by
      ext i hi; simp only [BitVec.getElem_and, BitVec.getElem_not, BitVec.getElem_zero]; cases x[i] <;> cases y[i] <;> rfl
    rw [BitVec.add_eq_or_of_and_eq_zero _ _ h0]
    ext i hi; simp only [BitVec.getElem_and, BitVec.getElem_not, BitVec.getElem_or]; cases x[i] <;> cases y[i] <;> rfl
  have h2 : (x &&& ~~~y) + y = x ||| y := by
    have h0 : (x &&& ~~~y) &&& y = 0#64 := by
      ext i hi; simp only [BitVec.getElem_and, BitVec.getElem_not, BitVec.getElem_zero]; cases x[i] <;> cases y[i] <;> rfl
    rw [BitVec.add_eq_or_of_and_eq_zero _ _ h0]
    ext i hi; simp only [BitVec.getElem_and, BitVec.getElem_not, BitVec.getElem_or]; cases x[i] <;> cases y[i] <;> rfl
  rw [← h2, ← BitVec.add_assoc, h1]
theorem or_sub_and (x y : BitVec 64) : (x ||| y) - (x &&& y) = x ^^^ y := by
  have h : (x ^^^ y) + (x &&& y) = x ||| y := by
    have h0 : (x ^^^ y) &&& (x &&& y) = 0#64 := by
      ext i hi; simp only [BitVec.getElem_and, BitVec.getElem_xor, BitVec.getElem_zero]; cases x[i] <;> cases y[i] <;> rfl
    rw [BitVec.add_eq_or_of_and_eq_zero _ _ h0]
    ext i hi; simp only [BitVec.getElem_and, BitVec.getElem_xor, BitVec.getElem_or]; cases x[i] <;> cases y[i] <;> rfl
  rw [← h, BitVec.add_sub_cancel]

-- the laws
theorem add_comm' (a b : Int) : doV 4 a b = doV 4 b a := by simp [doV, Int.add_comm]
theorem mul_comm' (a b : Int) : doV 6 a b = doV 6 b a := by simp [doV, Int.mul_comm]
theorem sub_back {a b : Int} (h : In64 a) : doV 5 (doV 4 a b) b = a := by
  simp [doV]; unfold In64 at h; unfold wrap64; omega
theorem and_self' {a : Int} (h : In64 a) : doV 8 a a = a := by simp [doV, bits_and_toInt, toInt_of h]
theorem or_self' {a : Int} (h : In64 a) : doV 9 a a = a := by simp [doV, bits_or_toInt, toInt_of h]
theorem tri (a b : Int) : doV 11 a b + doV 11 b a + doV 12 a b = 1 := by
  simp [doV]; split <;> split <;> split <;> omega
theorem less01 (a b : Int) : 0 ≤ doV 11 a b ∧ doV 11 a b ≤ 1 := by simp [doV]; split <;> omega
theorem same01 (a b : Int) : 0 ≤ doV 12 a b ∧ doV 12 a b ≤ 1 := by simp [doV]; split <;> omega
theorem wrap64_cong {m n : Int} (h : (m - n) % 18446744073709551616 = 0) : wrap64 m = wrap64 n := by unfold wrap64; omega
theorem wrap64_sub_self (m : Int) : (wrap64 m - m) % 18446744073709551616 = 0 := by unfold wrap64; omega
theorem wrap64_mul_left (m n : Int) : wrap64 (wrap64 m * n) = wrap64 (m * n) := by
  rw [wrap64_toInt (wrap64 _ * _), wrap64_toInt (m * n), BitVec.ofInt_mul, BitVec.ofInt_mul, wrap64_toInt, ofInt_toInt]
theorem wrap64_mul_right (m n : Int) : wrap64 (m * wrap64 n) = wrap64 (m * n) := by
  rw [wrap64_toInt (m * wrap64 _), wrap64_toInt (m * n), BitVec.ofInt_mul, BitVec.ofInt_mul, wrap64_toInt, ofInt_toInt]
theorem wrap64_add_left (m n : Int) : wrap64 (wrap64 m + n) = wrap64 (m + n) := by unfold wrap64; omega
theorem wrap64_add_right (m n : Int) : wrap64 (m + wrap64 n) = wrap64 (m + n) := by unfold wrap64; omega
theorem add_assoc' (a b c : Int) : doV 4 (doV 4 a b) c = doV 4 a (doV 4 b c) := by
  simp [doV, wrap64_add_left, wrap64_add_right, Int.add_assoc]
theorem mul_assoc' (a b c : Int) : doV 6 (doV 6 a b) c = doV 6 a (doV 6 b c) := by
  simp [doV, wrap64_mul_left, wrap64_mul_right, Int.mul_assoc]
theorem mul_add' (a b c : Int) : doV 6 a (doV 4 b c) = doV 4 (doV 6 a b) (doV 6 a c) := by
  simp [doV, wrap64_mul_right, wrap64_add_left, wrap64_add_right, Int.mul_add]
theorem and_or' {a b : Int} : doV 4 (doV 8 a b) (doV 9 a b) = doV 4 a b := by
  simp only [doV, if_true, bits_and_toInt, bits_or_toInt, Int.reduceEq, if_false, wrap64_add, and_or_add]
  rw [wrap64_toInt, BitVec.ofInt_add]
theorem or_and' {a b : Int} : doV 5 (doV 9 a b) (doV 8 a b) = doV 10 a b := by
  simp only [doV, if_true, bits_and_toInt, bits_or_toInt, bits_xor_toInt, Int.reduceEq, if_false, wrap64_sub, or_sub_and]
theorem xor_back {a b : Int} (h : In64 a) : doV 10 (doV 10 a b) b = a := by
  simp only [doV, if_true, bits_xor_toInt, Int.reduceEq, if_false, ofInt_toInt]
  rw [BitVec.xor_assoc, BitVec.xor_self, BitVec.xor_zero, toInt_of h]

/-- What a division leaves. -/
def remV (a b : Int) : Int := doV 5 a (doV 6 (doV 7 a b) b)
theorem rem_pos {a b : Int} (h : 0 ≤ a) : 0 ≤ a.tmod b := Int.tmod_nonneg _ h
theorem rem_neg {a b : Int} (h : a ≤ 0) : a.tmod b ≤ 0 := by
  have := Int.tmod_nonneg b (a := -a) (by omega)
  rw [Int.neg_tmod] at this
  omega
theorem rem_eq {a b : Int} (ha : In64 a) (hb0 : b ≠ 0) : remV a b = a.tmod b := by
  unfold remV
  simp only [doV, if_true, Int.reduceEq, if_false, if_neg hb0]
  have h1 : wrap64 (wrap64 (a.tdiv b) * b) = wrap64 (a.tdiv b * b) := wrap64_mul_left _ _
  have h2 : wrap64 (a - wrap64 (a.tdiv b * b)) = wrap64 (a - a.tdiv b * b) := by unfold wrap64; omega
  have h3 : a - a.tdiv b * b = a.tmod b := by rw [Int.tmod_def, Int.mul_comm]
  have h4 := Int.natAbs_tmod a b
  have h5 := Nat.mod_le a.natAbs b.natAbs
  rw [h1, h2, h3, wrap64_id]
  have h6 : (a.tmod b).natAbs ≤ a.natAbs := by omega
  have h7 : 0 ≤ a → 0 ≤ a.tmod b := rem_pos
  have h8 : a ≤ 0 → a.tmod b ≤ 0 := rem_neg
  clear h1 h2 h3 h4 h5
  generalize a.tmod b = r at *
  unfold In64 at ha ⊢
  by_cases h : 0 ≤ a
  · have := h7 h; omega
  · have := h8 (by omega); omega
theorem rem_lt {a b : Int} (hb0 : b ≠ 0) : (a.tmod b).natAbs < b.natAbs := by
  rw [Int.natAbs_tmod]; exact Nat.mod_lt _ (by omega)

-- the reference's ways
theorem ref_sub (a b : Int) : wrap64 (a + wrap64 (-b)) = wrap64 (a - b) := by unfold wrap64; omega
theorem ref_xor (a b : Int) : wrap64 (bits .or .i64 a b - bits .and .i64 a b) = bits .xor .i64 a b := by
  rw [bits_and_toInt, bits_or_toInt, bits_xor_toInt, wrap64_sub, or_sub_and]
theorem ref_div (a : Int) : wrap64 (-a) = wrap64 (a.tdiv (-1)) := by simp [Int.tdiv_neg]
end Go.Proofs.YthcjhcofcjmmbaaDoor
