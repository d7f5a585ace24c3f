/-
  Instructions and their texts, as plain functions on numbers and lists of bytes: which are right, their texts, how a text is cut and read; that what is read is the instruction whose text it is. No program stands in this text.
-/
import Derived.Test.YtdghhedenjgjiaaGreatDoorLocMath
import Derived.Test.YtdghhedenjgjiaaGreatDoorNumP
namespace Go.Proofs.YtdghhedenjgjiaaGreatDoor
open Go.RowKit

/-- An instruction. -/
structure I where
  op : Int
  d : Int
  a : Int
  b : Int
  n : Int
  t : Int

/-- The table of shapes: word and fields, of 0 to 18. -/
def tabL : List (List UInt8) :=
  [[], [],
   [99, 111, 110, 115, 116], [100, 110],
   [109, 111, 118], [100, 97],
   [115, 119, 97, 112], [100, 97],
   [97, 100, 100], [68, 65, 66],
   [115, 117, 98], [68, 65, 66],
   [109, 117, 108], [68, 65, 66],
   [100, 105, 118], [68, 65, 66],
   [97, 110, 100], [68, 65, 66],
   [111, 114], [68, 65, 66],
   [120, 111, 114], [68, 65, 66],
   [108, 101, 115, 115], [68, 65, 66],
   [115, 97, 109, 101], [68, 65, 66],
   [108, 111, 97, 100], [68, 65],
   [115, 116, 111, 114, 101], [65, 66],
   [99, 97, 108, 108], [68, 65, 78],
   [106, 117, 109, 112], [84],
   [122, 101, 114, 111], [65, 84],
   [114, 101, 116], [65]]
def wordL (k : Nat) : List UInt8 := tabL.getD (k * 2) []
def fldsL (k : Nat) : List UInt8 := tabL.getD (k * 2 + 1) []
def knownB (op : Int) : Bool := decide (1 ≤ op ∧ op ≤ 18)
/-- The letters of an operation's fields. -/
def fieldsL (op : Int) : List UInt8 := if knownB op = true then fldsL op.toNat else []
def lettersOf (l : List UInt8) : List Int := l.map fun c => (c.toNat : Int)
def letters (op : Int) : List Int := lettersOf (fieldsL op)

def fieldV (x : I) (c : Int) : Int := if c = 100 ∨ c = 68 then x.d else if c = 97 ∨ c = 65 then x.a else if c = 66 then x.b else if c = 84 then x.t else x.n
def withV (x : I) (c v : Int) : I :=
  if c = 100 ∨ c = 68 then { x with d := v } else if c = 97 ∨ c = 65 then { x with a := v } else if c = 66 then { x with b := v } else if c = 84 then { x with t := v } else if c = 110 ∨ c = 78 then { x with n := v } else x
def faultV (c v n : Int) : Int :=
  if c = 100 ∨ c = 97 then (if 0 ≤ v ∧ v < 24 then 0 else 6)
  else if c = 68 ∨ c = 65 ∨ c = 66 then (if 0 ≤ v ∧ v < 8 then 0 else 6)
  else if c = 78 then (if v < 0 ∨ 99 < v then 1 else 0)
  else if c = 84 then (if v < 0 ∨ n ≤ v then 4 else 0) else 0
def placeB (c : Int) : Bool := decide (c = 100 ∨ c = 97 ∨ c = 68 ∨ c = 65 ∨ c = 66)
def zeroI (op : Int) : I := ⟨op, 0, 0, 0, 0, 0⟩
def sameB (x y : I) : Bool := decide (x.op = y.op ∧ x.d = y.d ∧ x.a = y.a ∧ x.b = y.b ∧ x.n = y.n ∧ x.t = y.t)
theorem same_iff {x y : I} : sameB x y = true ↔ x = y := by
  unfold sameB
  rw [decide_eq_true_iff]
  constructor
  · rintro ⟨h1, h2, h3, h4, h5, h6⟩
    cases x; cases y; simp_all
  · rintro rfl; simp
/-- All fields of the letters set to 0. -/
def bareOf (L : List Int) (x : I) : I := L.foldl (fun r c => withV r c 0) x
def spareB (x : I) : Bool := !sameB (bareOf (letters x.op) x) (zeroI x.op)
def hitB (L : List Int) (x : I) (n e : Int) : Bool := L.any fun c => faultV c (fieldV x c) n == e
/-- P3.1. -/
def chkV (x : I) (n : Int) : Int :=
  if knownB x.op = false then 1 else if spareB x = true then 1
  else if hitB (letters x.op) x n 1 = true then 1 else if hitB (letters x.op) x n 6 = true then 6 else if hitB (letters x.op) x n 4 = true then 4 else 0

/-- A field's text. -/
def pieceL (c v : Int) : List UInt8 := if placeB c = true then (if 0 ≤ v ∧ v < 24 then locL v.toNat else []) else Lib.itoa v
def joinL : List (Int × Int) → List UInt8
  | [] => []
  | q :: L => 32 :: (pieceL q.1 q.2 ++ joinL L)
def valsOf (L : List Int) (x : I) : List (Int × Int) := L.map fun c => (c, fieldV x c)
/-- P3.2: the text. -/
def prtL (x : I) : List UInt8 := wordL x.op.toNat ++ joinL (valsOf (letters x.op) x)

/-- A text cut at its first space. -/
def cutL : List UInt8 → List UInt8 × List UInt8 × Bool
  | [] => ([], [], false)
  | c :: l => if c = 32 then ([], l, true) else (c :: (cutL l).1, (cutL l).2.1, (cutL l).2.2)
def opOfL (l : List UInt8) : Nat := (((List.range 19).drop 1).find? fun k => wordL k == l).getD 0
def readV (c : Int) (p : List UInt8) : Int := if placeB c = true then locN p else parN p
def readE (c : Int) (p : List UInt8) : Int := if placeB c = true then locE p else parE p
def rdI : List Int → List UInt8 → Bool → I → Option I
  | [], _, more, x => if more = true then none else some x
  | c :: L, rest, _, x =>
    if readE c (cutL rest).1 = 0 ∧ faultV c (readV c (cutL rest).1) 200 = 0 then rdI L (cutL rest).2.1 (cutL rest).2.2 (withV x c (readV c (cutL rest).1)) else none
/-- P3.2: what a text is read as. -/
def prs (s : List UInt8) : Option I :=
  if opOfL (cutL s).1 = 0 then none else rdI (letters (opOfL (cutL s).1)) (cutL s).2.1 (cutL s).2.2 (zeroI (opOfL (cutL s).1))

-- the table
theorem word_no32 : ∀ k < 19, (32 : UInt8) ∉ wordL k := by decide +kernel
theorem opOf_word : ∀ k < 19, 1 ≤ k → opOfL (wordL k) = k := by decide +kernel
theorem opOf_some {l : List UInt8} (h : opOfL l ≠ 0) : 1 ≤ opOfL l ∧ opOfL l ≤ 18 ∧ wordL (opOfL l) = l := by
  unfold opOfL at h ⊢
  cases e : ((List.range 19).drop 1).find? fun k => wordL k == l with
  | none => rw [e] at h; exact absurd rfl h
  | some k =>
    have h1 := List.find?_some e
    have h2 := List.mem_of_find?_eq_some e
    have h3 : k ∈ (List.range 19).drop 1 → 1 ≤ k ∧ k ≤ 18 := by
      have : ∀ j ∈ (List.range 19).drop 1, 1 ≤ j ∧ j ≤ 18 := by decide
      exact this k
    exact ⟨(h3 h2).1, (h3 h2).2, by simpa using h1⟩
/-- The nine shapes. -/
theorem shape_of : ∀ k < 19, 1 ≤ k → fldsL k = [100, 110] ∨ fldsL k = [100, 97] ∨ fldsL k = [68, 65, 66] ∨ fldsL k = [68, 65] ∨ fldsL k = [65, 66] ∨ fldsL k = [68, 65, 78] ∨ fldsL k = [84] ∨ fldsL k = [65, 84] ∨ fldsL k = [65] := by decide +kernel
theorem letters_of {op : Int} (h : knownB op = true) : letters op = [100, 110] ∨ letters op = [100, 97] ∨ letters op = [68, 65, 66] ∨ letters op = [68, 65] ∨ letters op = [65, 66] ∨ letters op = [68, 65, 78] ∨ letters op = [84] ∨ letters op = [65, 84] ∨ letters op = [65] := by
  unfold letters fieldsL
  rw [if_pos h]
  unfold knownB at h
  rw [decide_eq_true_iff] at h
  rcases shape_of op.toNat (by omega) (by omega) with h | h | h | h | h | h | h | h | h <;> rw [h] <;> decide

-- cuts
theorem cut_no {l : List UInt8} (h : (32 : UInt8) ∉ l) : cutL l = (l, [], false) := by
  induction l with
  | nil => rfl
  | cons c l ih =>
    have h1 : c ≠ 32 := fun e => h (by simp [e])
    have h2 : (32 : UInt8) ∉ l := fun e => h (List.mem_cons_of_mem _ e)
    rw [cutL, if_neg h1, ih h2]
theorem cut_at {p l : List UInt8} (h : (32 : UInt8) ∉ p) : cutL (p ++ 32 :: l) = (p, l, true) := by
  induction p with
  | nil => simp [cutL]
  | cons c p ih =>
    have h1 : c ≠ 32 := fun e => h (by simp [e])
    have h2 : (32 : UInt8) ∉ p := fun e => h (List.mem_cons_of_mem _ e)
    rw [List.cons_append, cutL, if_neg h1, ih h2]
def tailT (more : Bool) (rest : List UInt8) : List UInt8 := if more = true then 32 :: rest else []
theorem cut_back (l : List UInt8) : l = (cutL l).1 ++ tailT (cutL l).2.2 (cutL l).2.1 ∧ ((cutL l).2.2 = false → (cutL l).2.1 = []) ∧ (32 : UInt8) ∉ (cutL l).1 := by
  induction l with
  | nil => simp [cutL, tailT]
  | cons c l ih =>
    by_cases h : c = 32
    · rw [cutL, if_pos h, h]; simp [tailT]
    · rw [cutL, if_neg h]
      refine ⟨?_, ih.2.1, ?_⟩
      · show c :: l = c :: ((cutL l).1 ++ _)
        rw [← ih.1]
      · simp only [List.mem_cons, not_or]
        exact ⟨fun e => h e.symm, ih.2.2⟩

-- pieces
theorem loc_no32 : ∀ k < 24, (32 : UInt8) ∉ locL k := by decide +kernel
theorem dec_no32 (n : Nat) : (32 : UInt8) ∉ Lib.decDigits n := by
  induction n using Nat.strongRecOn with
  | _ n ih =>
    by_cases h : n < 10
    · rw [Lib.decDigits_one h]
      intro hm
      have e : (32 : UInt8) = UInt8.ofNat (48 + n) := by simpa using hm
      have := congrArg UInt8.toNat e
      simp at this
      omega
    · rw [decDigits_big h]
      intro hm
      rcases List.mem_append.mp hm with hm | hm
      · exact ih (n / 10) (by omega) hm
      · have e : (32 : UInt8) = UInt8.ofNat (48 + n % 10) := by simpa using hm
        have := congrArg UInt8.toNat e
        simp at this
        omega
theorem itoa_no32 (v : Int) : (32 : UInt8) ∉ Lib.itoa v := by
  unfold Lib.itoa
  split
  · intro h
    rcases List.mem_cons.mp h with h | h
    · exact absurd h (by decide)
    · exact dec_no32 _ h
  · exact dec_no32 _
theorem piece_no32 (c v : Int) : (32 : UInt8) ∉ pieceL c v := by
  unfold pieceL
  split
  · split
    · exact loc_no32 _ (by omega)
    · simp
  · exact itoa_no32 v

end Go.Proofs.YtdghhedenjgjiaaGreatDoor
