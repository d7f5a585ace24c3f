/-
  Plain notions that every layer's texts use: 'New' (nothing that was in memory has turned), 'In64', equal texts. No program stands in this text.
  Blocks of memory in a world that is not written out: a string's iterator, a struct of six numbers. No program stands in this text but the struct type's number.
  Places and their texts, as plain functions on numbers and lists of bytes; how a text is scanned rune by rune; and that what is scanned is the place whose text it is. No program stands in this text.
  Digits and numbers: what strconv reads of a number's digits is the number; plain lists, no program.
  Instructions and their texts, as plain functions on numbers and lists of bytes: which are right, their texts, how a text is cut and read; that what is read is the instruction whose text it is. No program stands in this text.
  What is read of a text is the instruction whose text it is. No program stands in this text.
  What is told of an instruction (moves, sets, uses), as plain functions. No program stands in this text.
  Functions and their texts, as plain functions on lists: which are right, with the place and the error; their texts; how a text is read; that what is read is the function whose text it is. No program stands in this text.
  A text read rune by rune, and line by line: plain functions. No program stands in this text.
  Layer 6 in plain words: heaps are lists of numbers: what is loaded, what is stored, and what follows. No program stands in this text.
  Rows of 24 words, as plain functions on places. No program stands in this text.
  What num.Do computes, as plain functions on integers (out of NumMath, over Base). No program stands in this text.
  Layer 7 in plain words: states, which are right, what a step makes of one; what follows. No program stands in this text.
  What follows of a step, in plain words: what it makes of a state is right again; what only moves; what it keeps; answers; heaps. No program stands in this text.
  Layer 8 in plain words: traces, runs, what follows of them. No program stands in this text.
-/
import Derived.WalkKit
import Derived.WalkSpells
import Derived.WalkLawsBesides
import Derived.Lib.Hide
import Derived.Lib.ItoaNum
import Derived.Shelf.Abstract
import Derived.Laws.RangeAny
import Derived.LoopTactic
import Derived.BigQuiet
import Derived.Deep.QuietTactic
import Derived.Laws.Rows
import Derived.Laws.CopyRow
import Derived.Lib.ParseIntBTie
namespace Go.Proofs.Ytomclhbekmcaeaa
open Go.RowKit

/-- Nothing that was there has turned; there may be new blocks and draws. -/
def New (w w' : World) : Prop := Below w.heap.size w w'
theorem New.refl (w : World) : New w w := Below.refl _ _
theorem New.trans {a b c : World} (h : New a b) (k : New b c) : New a c := Below.trans h (Below.mono k h.size)
theorem New.alloc {a w : World} (h : New a w) (o : Obj) : New a (w.alloc o) := Below.alloc h h.size o
theorem New.drew {a w : World} (h : New a w) : New a w.drew := Below.drew h
theorem New.iter (w : World) (s : ByteArray) (p : Nat) : New w (w.iter s p) := (New.refl w).alloc _

def In64 (a : Int) : Prop := -9223372036854775808 ≤ a ∧ a ≤ 9223372036854775807
theorem in64_of {n : Int} (h : (Lit.int .i64 n).wf = true) : In64 n := by
  unfold In64
  simpa [Lit.wf, IntKind.min, IntKind.max, IntKind.signed, IntKind.bits] using h

theorem str_beq {a b : ByteArray} {t : Bool} (h : decide (a.data.toList = b.data.toList) = t) : (a.toList == b.toList) = t := by
  rw [ByteArray.toList_eq, ByteArray.toList_eq, ← h]
  rw [Bool.eq_iff_iff, beq_iff_eq, decide_eq_true_iff]
theorem ret_str {a b : ByteArray} (h : a.data.toList = b.data.toList) : Ending.returned (.string a) = .returned (.string b) := by
  obtain ⟨⟨x⟩⟩ := a
  obtain ⟨⟨y⟩⟩ := b
  simp at h
  rw [h]
theorem ret_pair {k j : IntKind} {a b c d : Int} (h : a = c) (h' : b = d) : Ending.returned (.tuple #[.int k a, .int j b]) = .returned (.tuple #[.int k c, .int j d]) := by rw [h, h']
theorem beq_of {a b : Int} (h : a = b) : (a == b) = true := by simp [h]
theorem bneq_of {a b : Int} (h : a ≠ b) : (a == b) = false := by simp [h]
theorem bytes_eq {a b : ByteArray} (h : a.data.toList = b.data.toList) : a = b := by
  obtain ⟨⟨x⟩⟩ := a
  obtain ⟨⟨y⟩⟩ := b
  simp at h
  rw [h]
/-- The worlds in which nothing of 'w' has turned. -/
def NewW (w : World) : Type := { w' : World // New w w' }
theorem newW_any (w : World) : Nonempty (NewW w) := ⟨⟨w, New.refl w⟩⟩
/-- A region that draws its order, whose operations and callees turn nothing that was there: ONE walk, in the order of the text, over the class of all those worlds. -/
theorem wp_region_new {P : Program} {id : Nat} {Q : Exit → Act → World → Prop} {a : Act} {w0 w : World} {l : List Oper} (hC : New w0 w) (hm : P.follows .mixedOrders = true) (hB : Region.lexB .any l.toArray = true)
    (h : wpQuiet P l.toArray (fun w' => ∃ x : NewW w0, w' = x.val) (fun a' => ∀ w', New w0 w' → Q .normal a' w') l a) : (Code.region id l.toArray true).wp P Q a w := by
  refine wp_region_quiet (C := fun w' => ∃ x : NewW w0, w' = x.val) hm hB ⟨⟨w.drew, hC.drew⟩, rfl⟩ ?_
  have e : (fun a' : Act => ∀ w', (∃ x : NewW w0, w' = x.val) → Q .normal a' w') = (fun a' : Act => ∀ w', New w0 w' → Q .normal a' w') := by
    funext a'
    apply propext
    constructor
    · intro h w' hw'; exact h w' ⟨⟨w', hw'⟩, rfl⟩
    · rintro h w' ⟨x, rfl⟩; exact h _ x.property
  rw [e]
  simpa using h
theorem quiet_new {P : Program} {f : FuncId} {args : Array Value} {w0 w : World} {v : Value} (h : Calls P f args w fun e w' => e = .returned v ∧ New w0 w') :
    Calls P f args w fun e w' => e = .returned v ∧ ∃ x : NewW w0, w' = x.val := h.mono fun _ w' ⟨h1, h2⟩ => ⟨h1, ⟨w', h2⟩, rfl⟩
theorem size_list (s : ByteArray) : s.data.toList.length = s.size := rfl
theorem decDigits_big {u : Nat} (h : ¬ u < 10) : Lib.decDigits u = Lib.decDigits (u / 10) ++ [UInt8.ofNat (48 + u % 10)] := by
  rw [Lib.decDigits, dif_neg h]
end Go.Proofs.Ytomclhbekmcaeaa
namespace Go.Proofs.Ytomclhbekmcaeaa
open Go.RowKit

/-- A world with another object in a block. -/
def putO (w : World) (g : Nat) (o : Obj) : World := { w with heap := w.heap.setIfInBounds g o }
theorem putO_same {w : World} {g : Nat} {o o' : Obj} (h : w.heap[g]? = some o') : (putO w g o).heap[g]? = some o := by
  have hlt : g < w.heap.size := (Array.getElem?_eq_some_iff.1 h).1
  show (w.heap.setIfInBounds g o)[g]? = _
  rw [Array.getElem?_setIfInBounds]
  simp [hlt]
theorem putO_other {w : World} {g k : Nat} {o : Obj} (h : k ≠ g) : (putO w g o).heap[k]? = w.heap[k]? := by
  show (w.heap.setIfInBounds g o)[k]? = _
  rw [Array.getElem?_setIfInBounds, if_neg (Ne.symm h)]
theorem putO_size (w : World) (g : Nat) (o : Obj) : (putO w g o).heap.size = w.heap.size := by
  show (w.heap.setIfInBounds g o).size = _
  simp
theorem New.put {a w : World} (h : New a w) {g : Nat} (hg : a.heap.size ≤ g) (o : Obj) : New a (putO w g o) :=
  ⟨h.os, h.tape, h.output, by rw [putO_size]; exact h.size, fun k hk => by rw [putO_other (by omega)]; exact h.block k hk⟩
theorem heap_lt {w : World} {g : Nat} {o : Obj} (h : w.heap[g]? = some o) : g < w.heap.size := (Array.getElem?_eq_some_iff.1 h).1
theorem New.heap {w w' : World} (h : New w w') {g : Nat} {o : Obj} (hg : w.heap[g]? = some o) : w'.heap[g]? = some o := by
  rw [h.block g (heap_lt hg)]; exact hg

theorem alloc_at {w : World} {g : Nat} (hg : g = w.heap.size) (o : Obj) : (w.alloc o).heap[g]? = some o := by subst hg; exact heap_alloc_new _ _
theorem alloc_size (w : World) (o : Obj) : (w.alloc o).heap.size = w.heap.size + 1 := by
  show (w.heap.push o).size = _
  simp
theorem alloc_new (w : World) (o : Obj) : New w (w.alloc o) := (New.refl _).alloc o
section
variable {P : Program}
theorem next_at {w : World} {g : Nat} {s : ByteArray} {pos : Nat} (hg : w.heap[g]? = some (.stringIter s pos)) (h : pos < s.size) (ty : TypeId) :
    (Instr.next (.pointer (some ⟨g, 0, none⟩)) true ty).run P w = .ok (.tuple #[.bool true, .int .i64 pos, .int .i32 (Utf8.decode s pos).1]) (putO w g (.stringIter s (pos + (Utf8.decode s pos).2))) := by
  simp only [Instr.next, getObj, setObj, Sem.run_bind, Sem.run, hg, Result.andThen, h, if_true]
  simp [goInt, putO]
theorem next_stop {w : World} {g : Nat} {s : ByteArray} {pos : Nat} (hg : w.heap[g]? = some (.stringIter s pos)) (h : ¬ pos < s.size) (ty : TypeId) :
    (Instr.next (.pointer (some ⟨g, 0, none⟩)) true ty).run P w = .ok (.tuple #[.bool false]) w := by
  simp only [Instr.next, getObj, Sem.run_bind, Sem.run, hg, Result.andThen, h, if_false]
  rfl
theorem setRow_putO {w : World} {g : Nat} {cs : Array Value} {t : TypeId} {fr : Nat × Nat} (h : w.heap[g]? = some (.cells cs t fr)) (cs' : Array Value) : w.setRow g cs' = putO w g (.cells cs' t fr) := by
  unfold World.setRow putO
  congr 1
  apply Array.ext_getElem?
  intro k
  by_cases hk : k = g
  · subst hk
    have hlt := heap_lt h
    have hv : w.heap[k] = _ := (Array.getElem?_eq_some_iff.1 h).2
    rw [Array.getElem?_modify, Array.getElem?_setIfInBounds]
    simp [hlt, hv]
  · rw [Array.getElem?_modify, Array.getElem?_setIfInBounds]
    simp [Ne.symm hk]
/-- A whole row is stored into its block. -/
theorem store_row (w : World) (g : Nat) (ty : TypeId) (cs cs' : Array Value) (h : w.heap[g]? = some (.cells cs ty (0, 0))) (hz : cs.size = cs'.size) (hi : (P.info? ty).map (·.size) = some cs'.size) (h1 : ∀ v ∈ cs'.toList, v.oneCell' = true) :
    (Instr.storeAt ty (.pointer (some ⟨g, 0, none⟩)) (.agg cs')).run P w = .ok () (putO w g (.cells cs' ty (0, 0))) := by
  have hs := run_storeCells_at (P := P) g 0 ty cs'.toList 0 cs w h (by simp [hz]) h1
  cases hq : P.info? ty with
  | none => simp [hq] at hi
  | some i =>
    have h6 : i.size = cs'.size := by simpa [hq] using hi
    have hd : List.drop cs'.size cs.toList = [] := List.drop_of_length_le (by rw [Array.length_toList]; omega)
    simp only [Nat.zero_add, List.take_zero, List.nil_append, Array.length_toList, hd, List.append_nil, Array.toArray_toList] at hs
    rw [← setRow_putO h]
    simp [Instr.storeAt, Instr.sureAddr, storeVar, sizeOf, typeInfo, hq, Value.cells, h6, hs]
end

theorem iterPos_at {w : World} {g : Nat} {s : ByteArray} {pos : Nat} (hg : w.heap[g]? = some (.stringIter s pos)) : w.iterPos g = pos := by
  unfold World.iterPos; rw [hg]
/-- A string of small bytes: each rune is the byte. -/
theorem decode_small {s : ByteArray} {pos : Nat} (h : pos < s.size) (hs : ∀ c ∈ s.data.toList, c.toNat < 128) : ∃ c, s.data.toList[pos]? = some c ∧ Utf8.decode s pos = (c.toNat, 1) := by
  have hm : s[pos]'h ∈ s.data.toList := by
    rw [List.mem_iff_getElem?]
    refine ⟨pos, ?_⟩
    have h1 : pos < s.data.size := h
    rw [Array.getElem?_toList, Array.getElem?_eq_getElem h1]; rfl
  refine ⟨s[pos]'h, ?_, decode_ascii s pos h (hs _ hm)⟩
  have h1 : pos < s.data.size := h
  rw [Array.getElem?_toList, Array.getElem?_eq_getElem h1]; rfl
end Go.Proofs.Ytomclhbekmcaeaa
namespace Go.Proofs.Ytomclhbekmcaeaa
open Go.RowKit

def rightB (l : Int) : Bool := decide (0 ≤ l ∧ l < 24)
def regB (l : Int) : Bool := decide (0 ≤ l ∧ l < 8)
/-- A place's text. -/
def locL (k : Nat) : List UInt8 := if k < 8 then 114 :: Lib.decDigits k else 115 :: Lib.decDigits (k - 8)
def locB (k : Nat) : ByteArray := ⟨(locL k).toArray⟩
theorem locB_toList (k : Nat) : (locB k).data.toList = locL k := by simp [locB]
/-- The place whose text it is. -/
def locOf (l : List UInt8) : Option Nat := (List.range 24).find? fun k => locL k == l
def locN (l : List UInt8) : Int := ((locOf l).getD 0 : Nat)
def locE (l : List UInt8) : Int := if (locOf l).isSome then 0 else 2

theorem locOf_text : ∀ k < 24, locOf (locL k) = some k := by decide +kernel
theorem locOf_some {l : List UInt8} {k : Nat} (h : locOf l = some k) : k < 24 ∧ locL k = l := by
  unfold locOf at h
  have h1 := List.find?_some h
  have h2 := List.mem_of_find?_eq_some h
  exact ⟨by simpa using h2, by simpa using h1⟩
theorem locOf_none {l : List UInt8} (h : ∀ k < 24, locL k ≠ l) : locOf l = none := by
  unfold locOf
  rw [List.find?_eq_none]
  intro k hk
  have := h k (by simpa using hk)
  simpa using this
theorem locL_size : ∀ k < 24, 2 ≤ (locL k).length ∧ (locL k).length ≤ 3 := by decide +kernel

def grpF (r : Int) : Int := if r = 114 then 0 else if r = 115 then 8 else 0
def grpC (r : Int) : Int := if r = 114 then 8 else if r = 115 then 16 else 0
def appB (n r : Int) : Bool := decide (48 ≤ r ∧ r ≤ 57 ∧ n ≠ 0)
def appV (n r : Int) : Int := if 48 ≤ r ∧ r ≤ 57 ∧ n ≠ 0 then max n 0 * 10 + (r - 48) else 0
def fin (f n : Int) : Int × Int := if n < 0 then (0, 2) else (f + n, 0)
/-- How loc.Parse goes over a text. -/
def scan (s : ByteArray) : Nat → Nat → Int → Int → Int → Int × Int
  | 0, _, f, _, n => fin f n
  | k + 1, p, f, c, n =>
    if p < s.size then
      if p = 0 then scan s k (p + (Utf8.decode s p).2) (grpF (Utf8.decode s p).1) (grpC (Utf8.decode s p).1) n
      else if appB n (Utf8.decode s p).1 = true ∧ appV n (Utf8.decode s p).1 < c then scan s k (p + (Utf8.decode s p).2) f c (appV n (Utf8.decode s p).1)
      else (0, 2)
    else fin f n
theorem scan_end (s : ByteArray) (k p : Nat) (f c n : Int) (h : ¬ p < s.size) : scan s k p f c n = fin f n := by
  cases k with
  | zero => rfl
  | succ k => rw [scan, if_neg h]

theorem scan_first {s : ByteArray} {k p : Nat} {f c n : Int} (h : p < s.size) (h0 : ((p : Int) == 0) = true) : scan s (k + 1) p f c n = scan s k (p + (Utf8.decode s p).2) (grpF (Utf8.decode s p).1) (grpC (Utf8.decode s p).1) n := by
  have : p = 0 := by simpa using h0
  rw [scan, if_pos h, if_pos this]
theorem scan_more {s : ByteArray} {k p : Nat} {f c n : Int} (h : p < s.size) (h0 : ((p : Int) == 0) = false) (h1 : appB n (Utf8.decode s p).1 = true) (h2 : appV n (Utf8.decode s p).1 < c) : scan s (k + 1) p f c n = scan s k (p + (Utf8.decode s p).2) f c (appV n (Utf8.decode s p).1) := by
  have : ¬ p = 0 := by simpa using h0
  rw [scan, if_pos h, if_neg this, if_pos ⟨h1, h2⟩]
theorem scan_bad {s : ByteArray} {k p : Nat} {f c n : Int} (h : p < s.size) (h0 : ((p : Int) == 0) = false) (h1 : ¬ (appB n (Utf8.decode s p).1 = true ∧ appV n (Utf8.decode s p).1 < c)) : scan s (k + 1) p f c n = (0, 2) := by
  have : ¬ p = 0 := by simpa using h0
  rw [scan, if_pos h, if_neg this, if_neg h1]
theorem grp_in (r : Int) : (0 ≤ grpF r ∧ grpF r ≤ 8) ∧ (0 ≤ grpC r ∧ grpC r ≤ 16) := by unfold grpF grpC; split <;> (try split) <;> omega
theorem appV_in {n r : Int} (_h : -1 ≤ n) : -1 ≤ appV n r := by unfold appV; split <;> omega

theorem scan_texts : ∀ k < 24, scan (locB k) (locB k).size 0 0 0 (-1) = ((k : Int), 0) := by decide +kernel

/-- The digits that were read (-1: none yet). -/
def digs (n : Int) : List UInt8 := if n < 0 then [] else Lib.decDigits n.toNat
/-- What holds on the way. -/
def Way (s : ByteArray) (p : Nat) (f c n : Int) : Prop :=
  p = 0 ∧ n = -1 ∨ c = 0 ∧ n = -1 ∨ ((f = 0 ∧ c = 8 ∧ s.data.toList.take p = 114 :: digs n) ∨ (f = 8 ∧ c = 16 ∧ s.data.toList.take p = 115 :: digs n)) ∧ -1 ≤ n ∧ n < c ∧ 0 < p

theorem byte_of_rune (s : ByteArray) (p : Nat) (h : p < s.size) (ha : (Utf8.decode s p).1 < 128) : s.data.toList[p]? = some (UInt8.ofNat (Utf8.decode s p).1) ∧ (Utf8.decode s p).2 = 1 := by
  by_cases hb : (s[p]'h).toNat < 128
  · have e := decode_ascii s p h hb
    rw [e]
    refine ⟨?_, rfl⟩
    have h1 : p < s.data.size := h
    rw [Array.getElem?_toList, Array.getElem?_eq_getElem h1]
    show some (s[p]'h) = _
    simp
  · have := decode_high s p h (by omega)
    omega

theorem take_more {l : List UInt8} {p : Nat} {c : UInt8} (h : l[p]? = some c) : l.take (p + 1) = l.take p ++ [c] := by
  rw [List.take_add_one, h]; rfl

theorem way_scan (s : ByteArray) : ∀ (k p : Nat) (f c n : Int), s.size ≤ p + k → Way s p f c n → scan s k p f c n = (0, 2) ∨ ∃ j < 24, locL j = s.data.toList := by
  have fin_way : ∀ (p : Nat) (f c n : Int), s.size ≤ p → Way s p f c n → fin f n = (0, 2) ∨ ∃ j < 24, locL j = s.data.toList := by
    intro p f c n hp h
    unfold fin
    by_cases hn : n < 0
    · left; rw [if_pos hn]
    · right
      rcases h with ⟨_, h⟩ | ⟨_, h⟩ | ⟨h, h1, h2, h3⟩
      · omega
      · omega
      · have ht : s.data.toList.take p = s.data.toList := List.take_of_length_le hp
        rw [ht] at h
        have hd : digs n = Lib.decDigits n.toNat := by unfold digs; rw [if_neg hn]
        rw [hd] at h
        rcases h with ⟨rfl, rfl, h⟩ | ⟨rfl, rfl, h⟩
        · exact ⟨n.toNat, by omega, by rw [h]; unfold locL; rw [if_pos (by omega)]⟩
        · exact ⟨n.toNat + 8, by omega, by rw [h]; unfold locL; rw [if_neg (by omega)]; congr 2⟩
  intro k
  induction k with
  | zero => intro p f c n hp h; exact fin_way p f c n hp h
  | succ k ih =>
    intro p f c n hp h
    by_cases hlt : p < s.size
    · rw [scan, if_pos hlt]
      have hle := decode_le s p
      by_cases h0 : p = 0
      · rw [if_pos h0]
        subst h0
        have hn : n = -1 := by
          rcases h with h | h | ⟨_, _, _, h⟩
          · exact h.2
          · exact h.2
          · omega
        have hw : 1 ≤ (Utf8.decode s 0).2 := by
          by_cases hb : (s[0]'hlt).toNat < 128
          · rw [decode_ascii s 0 hlt hb]; exact Nat.le_refl _
          · exact (decode_high s 0 hlt (by omega)).2
        refine ih _ _ _ _ (by omega) ?_
        subst hn
        unfold grpF grpC
        by_cases h1 : ((Utf8.decode s 0).1 : Int) = 114
        · obtain ⟨hb, hw1⟩ := byte_of_rune s 0 hlt (by omega)
          have h1' : (Utf8.decode s 0).1 = 114 := by omega
          rw [if_pos h1, if_pos h1, hw1]
          refine .inr (.inr ⟨.inl ⟨rfl, rfl, ?_⟩, by omega, by omega, by omega⟩)
          rw [take_more hb, h1']; rfl
        · rw [if_neg h1, if_neg h1]
          by_cases h2 : ((Utf8.decode s 0).1 : Int) = 115
          · obtain ⟨hb, hw1⟩ := byte_of_rune s 0 hlt (by omega)
            have h2' : (Utf8.decode s 0).1 = 115 := by omega
            rw [if_pos h2, if_pos h2, hw1]
            refine .inr (.inr ⟨.inr ⟨rfl, rfl, ?_⟩, by omega, by omega, by omega⟩)
            rw [take_more hb, h2']; rfl
          · rw [if_neg h2, if_neg h2]
            exact .inr (.inl ⟨rfl, rfl⟩)
      · rw [if_neg h0]
        split
        · rename_i hc
          obtain ⟨ha, hv⟩ := hc
          have ha' : 48 ≤ ((Utf8.decode s p).1 : Int) ∧ ((Utf8.decode s p).1 : Int) ≤ 57 ∧ n ≠ 0 := by simpa [appB] using ha
          obtain ⟨hb, hw1⟩ := byte_of_rune s p hlt (by omega)
          have hav : appV n (Utf8.decode s p).1 = max n 0 * 10 + ((Utf8.decode s p).1 - 48) := by unfold appV; rw [if_pos ha']
          refine ih _ _ _ _ (by omega) ?_
          rw [hav] at hv ⊢
          rw [hw1]
          generalize hr : (Utf8.decode s p).1 = r at *
          rcases h with ⟨h, _⟩ | ⟨h, rfl⟩ | ⟨h, h1, h2, h3⟩
          · exact absurd h h0
          · omega
          · have hd : digs n ++ [UInt8.ofNat r] = digs (max n 0 * 10 + ((r : Int) - 48)) := by
              unfold digs
              by_cases hn : n < 0
              · rw [if_pos hn, if_neg (by omega)]
                rw [show (max n 0 * 10 + ((r : Int) - 48)).toNat = r - 48 from by omega, Lib.decDigits_one (by omega), show 48 + (r - 48) = r from by omega]
                rfl
              · rw [if_neg hn, if_neg (by omega)]
                have e : (max n 0 * 10 + ((r : Int) - 48)).toNat = n.toNat * 10 + (r - 48) := by omega
                have hn1 : 1 ≤ n.toNat := by omega
                rw [e, decDigits_big (u := n.toNat * 10 + (r - 48)) (by omega)]
                rw [show (n.toNat * 10 + (r - 48)) / 10 = n.toNat from by omega, show 48 + (n.toNat * 10 + (r - 48)) % 10 = r from by omega]
            refine .inr (.inr ⟨?_, by omega, hv, by omega⟩)
            rw [take_more hb, ← hd]
            rcases h with ⟨h4, h5, h6⟩ | ⟨h4, h5, h6⟩
            · exact .inl ⟨h4, h5, by rw [h6]; rfl⟩
            · exact .inr ⟨h4, h5, by rw [h6]; rfl⟩
        · exact .inl rfl
    · rw [scan_end s _ p f c n hlt]
      exact fin_way p f c n (by omega) h

/-- What is scanned of a text: the place whose text it is, and 0; or 0 and 2. -/
theorem scan_is (s : ByteArray) : scan s s.size 0 0 0 (-1) = (locN s.data.toList, locE s.data.toList) := by
  by_cases h : ∃ j < 24, locL j = s.data.toList
  · obtain ⟨j, hj, e⟩ := h
    have hs : s = locB j := bytes_eq (by rw [locB_toList, e])
    subst hs
    rw [scan_texts j hj, locB_toList]
    unfold locN locE
    rw [locOf_text j hj]; rfl
  · have hn : locOf s.data.toList = none := locOf_none fun k hk e => h ⟨k, hk, e⟩
    unfold locN locE
    rw [hn]
    rcases way_scan s s.size 0 0 0 (-1) (by omega) (.inl ⟨rfl, rfl⟩) with h1 | h1
    · exact h1
    · exact absurd h1 h
end Go.Proofs.Ytomclhbekmcaeaa
namespace Go.Proofs.Ytomclhbekmcaeaa
open Go.RowKit Go.Lib

theorem wrap64_in (n : Int) : In64 (wrap64 n) := by unfold In64 wrap64; omega
theorem nDigits_le : ∀ (k u : Nat), u < 10 ^ (k + 1) → Lib.nDigits u ≤ k + 1
  | 0, u, h => by rw [Lib.nDigits_small (by omega)]; omega
  | k + 1, u, h => by
    by_cases h10 : u < 10
    · rw [Lib.nDigits_small h10]; omega
    · rw [Lib.nDigits_big h10]
      have := nDigits_le k (u / 10) (by rw [Nat.pow_succ] at h; omega)
      omega
def textB (n : Int) : ByteArray := ⟨(Lib.itoa n).toArray⟩
theorem textB_toList (n : Int) : (textB n).data.toList = Lib.itoa n := by simp [textB]
/-- What a text is read as. -/
def parseV (l : List UInt8) : Option Int :=
  match Lib.parseIntB 64 l with
  | .ok v => if Lib.itoa v = l then some v else none
  | _ => none

theorem parseIntB_in {l : List UInt8} {v : Int} (h : Lib.parseIntB 64 l = .ok v) : In64 v := by
  unfold Lib.parseIntB at h
  split at h
  · cases h
  · simp only at h
    split at h
    · cases h
    · cases h
    · rename_i c r u hu
      split at h
      · cases h
      · split at h
        · cases h
        · rename_i h1 h2
          have h := Lib.NumEnd.ok.inj h
          subst h
          unfold In64
          split <;> omega

def parN (l : List UInt8) : Int := (parseV l).getD 0
def parE (l : List UInt8) : Int := if (parseV l).isSome then 0 else 2

theorem pu_append : ∀ (l r : List UInt8) (acc : Nat), parseUint10 acc (l ++ r) = (match parseUint10 acc l with | .ok u => parseUint10 u r | e => e)
  | [], _, _ => rfl
  | c :: l, r, acc => by
    simp only [List.cons_append, parseUint10]
    split
    · split
      · rfl
      · split
        · rfl
        · exact pu_append l r _
    · rfl

theorem ofNat_digit {k : Nat} (h : k < 10) : (UInt8.ofNat (48 + k)).toNat = 48 + k := by
  rw [UInt8.toNat_ofNat']; omega

theorem pu_dec : ∀ (n u : Nat), u < n → u < 18446744073709551616 → parseUint10 0 (decDigits u) = .ok u
  | 0, _, h, _ => absurd h (by omega)
  | n + 1, u, h, hu => by
    by_cases h10 : u < 10
    · rw [decDigits_one h10]
      simp only [parseUint10, ofNat_digit h10]
      rw [if_pos (by omega), if_neg (by omega), if_neg (by omega)]
      congr 1; omega
    · rw [decDigits_big h10, pu_append, pu_dec n (u / 10) (by omega) (by omega)]
      have hd : u % 10 < 10 := Nat.mod_lt _ (by decide)
      simp only [parseUint10, ofNat_digit hd]
      rw [if_pos (by omega), if_neg (by omega), if_neg (by omega)]
      congr 1; omega

theorem dec_ne : ∀ u, decDigits u ≠ [] := fun u h => by
  have := decDigits_length u; have := nDigits_pos u; rw [h] at *; simp at *; omega

theorem dec_digit : ∀ (n u : Nat), u < n → ∀ c ∈ decDigits u, 48 ≤ c.toNat ∧ c.toNat ≤ 57
  | 0, _, h, _, _ => absurd h (by omega)
  | n + 1, u, h, c, hc => by
    by_cases h10 : u < 10
    · rw [decDigits_one h10, List.mem_singleton] at hc
      rw [hc, ofNat_digit h10]; omega
    · rw [decDigits_big h10, List.mem_append, List.mem_singleton] at hc
      rcases hc with hc | hc
      · exact dec_digit n (u / 10) (by omega) c hc
      · rw [hc, ofNat_digit (Nat.mod_lt _ (by decide))]; omega

theorem pm_dec (u : Nat) (hu : u < 18446744073709551616) : parseMag (decDigits u) = .ok u := by
  unfold parseMag; rw [if_neg (dec_ne u)]; exact pu_dec (u + 1) u (by omega) hu

theorem parse_itoa {n : Int} (h : In64 n) : parseIntB 64 (itoa n) = .ok n := by
  unfold In64 at h
  unfold itoa
  by_cases hn : n < 0
  · rw [if_pos hn, parseIntB_minus, parseUintB_64, pm_dec _ (by omega)]
    simp only [signedC]
    rw [if_neg (by simp; omega)]
    congr 1; omega
  · rw [if_neg hn]
    cases e : decDigits n.toNat with
    | nil => exact absurd e (dec_ne _)
    | cons c r =>
      have hc := dec_digit (n.toNat + 1) n.toNat (by omega) c (by rw [e]; exact List.mem_cons_self ..)
      rw [parseIntB_plain _ _ _ (by omega) (by omega), ← e, parseUintB_64, pm_dec _ (by omega)]
      simp only [signlessC]
      rw [if_neg (by simp; omega)]
      congr 1; omega

theorem itoa_len {n : Int} (h : In64 n) : (itoa n).length ≤ 20 := by
  unfold In64 at h
  unfold itoa
  by_cases hn : n < 0
  · rw [if_pos hn, List.length_cons, decDigits_length]
    have := nDigits_le 18 n.natAbs (by omega)
    omega
  · rw [if_neg hn, decDigits_length]
    have := nDigits_le 18 n.toNat (by omega)
    omega
theorem parseV_itoa {n : Int} (h : In64 n) : parseV (itoa n) = some n := by
  unfold parseV
  rw [parse_itoa h]
  simp
theorem parseV_some {l : List UInt8} {v : Int} (h : parseV l = some v) : In64 v ∧ Lib.itoa v = l := by
  unfold parseV at h
  split at h
  · rename_i u e
    split at h
    · rename_i e2
      have h := Option.some.inj h
      subst h
      exact ⟨parseIntB_in e, e2⟩
    · cases h
  · cases h
end Go.Proofs.Ytomclhbekmcaeaa
namespace Go.Proofs.Ytomclhbekmcaeaa
open Go.RowKit

/-- An instruction. -/
structure I where
  op : Int
  d : Int
  a : Int
  b : Int
  n : Int
  t : Int

/-- The table of shapes: word and fields, of 0 to 18. -/
def tabL : List (List UInt8) :=
  [[], [],
   [99, 111, 110, 115, 116], [100, 110],
   [109, 111, 118], [100, 97],
   [115, 119, 97, 112], [100, 97],
   [97, 100, 100], [68, 65, 66],
   [115, 117, 98], [68, 65, 66],
   [109, 117, 108], [68, 65, 66],
   [100, 105, 118], [68, 65, 66],
   [97, 110, 100], [68, 65, 66],
   [111, 114], [68, 65, 66],
   [120, 111, 114], [68, 65, 66],
   [108, 101, 115, 115], [68, 65, 66],
   [115, 97, 109, 101], [68, 65, 66],
   [108, 111, 97, 100], [68, 65],
   [115, 116, 111, 114, 101], [65, 66],
   [99, 97, 108, 108], [68, 65, 78],
   [106, 117, 109, 112], [84],
   [122, 101, 114, 111], [65, 84],
   [114, 101, 116], [65]]
def wordL (k : Nat) : List UInt8 := tabL.getD (k * 2) []
def fldsL (k : Nat) : List UInt8 := tabL.getD (k * 2 + 1) []
def knownB (op : Int) : Bool := decide (1 ≤ op ∧ op ≤ 18)
/-- The letters of an operation's fields. -/
def fieldsL (op : Int) : List UInt8 := if knownB op = true then fldsL op.toNat else []
def lettersOf (l : List UInt8) : List Int := l.map fun c => (c.toNat : Int)
def letters (op : Int) : List Int := lettersOf (fieldsL op)

def fieldV (x : I) (c : Int) : Int := if c = 100 ∨ c = 68 then x.d else if c = 97 ∨ c = 65 then x.a else if c = 66 then x.b else if c = 84 then x.t else x.n
def withV (x : I) (c v : Int) : I :=
  if c = 100 ∨ c = 68 then { x with d := v } else if c = 97 ∨ c = 65 then { x with a := v } else if c = 66 then { x with b := v } else if c = 84 then { x with t := v } else if c = 110 ∨ c = 78 then { x with n := v } else x
def faultV (c v n : Int) : Int :=
  if c = 100 ∨ c = 97 then (if 0 ≤ v ∧ v < 24 then 0 else 6)
  else if c = 68 ∨ c = 65 ∨ c = 66 then (if 0 ≤ v ∧ v < 8 then 0 else 6)
  else if c = 78 then (if v < 0 ∨ 99 < v then 1 else 0)
  else if c = 84 then (if v < 0 ∨ n ≤ v then 4 else 0) else 0
def placeB (c : Int) : Bool := decide (c = 100 ∨ c = 97 ∨ c = 68 ∨ c = 65 ∨ c = 66)
def zeroI (op : Int) : I := ⟨op, 0, 0, 0, 0, 0⟩
def sameB (x y : I) : Bool := decide (x.op = y.op ∧ x.d = y.d ∧ x.a = y.a ∧ x.b = y.b ∧ x.n = y.n ∧ x.t = y.t)
theorem same_iff {x y : I} : sameB x y = true ↔ x = y := by
  unfold sameB
  rw [decide_eq_true_iff]
  constructor
  · rintro ⟨h1, h2, h3, h4, h5, h6⟩
    cases x; cases y; simp_all
  · rintro rfl; simp
/-- All fields of the letters set to 0. -/
def bareOf (L : List Int) (x : I) : I := L.foldl (fun r c => withV r c 0) x
def spareB (x : I) : Bool := !sameB (bareOf (letters x.op) x) (zeroI x.op)
def hitB (L : List Int) (x : I) (n e : Int) : Bool := L.any fun c => faultV c (fieldV x c) n == e
/-- P3.1. -/
def chkV (x : I) (n : Int) : Int :=
  if knownB x.op = false then 1 else if spareB x = true then 1
  else if hitB (letters x.op) x n 1 = true then 1 else if hitB (letters x.op) x n 6 = true then 6 else if hitB (letters x.op) x n 4 = true then 4 else 0

/-- A field's text. -/
def pieceL (c v : Int) : List UInt8 := if placeB c = true then (if 0 ≤ v ∧ v < 24 then locL v.toNat else []) else Lib.itoa v
def joinL : List (Int × Int) → List UInt8
  | [] => []
  | q :: L => 32 :: (pieceL q.1 q.2 ++ joinL L)
def valsOf (L : List Int) (x : I) : List (Int × Int) := L.map fun c => (c, fieldV x c)
/-- P3.2: the text. -/
def prtL (x : I) : List UInt8 := wordL x.op.toNat ++ joinL (valsOf (letters x.op) x)

/-- A text cut at its first space. -/
def cutL : List UInt8 → List UInt8 × List UInt8 × Bool
  | [] => ([], [], false)
  | c :: l => if c = 32 then ([], l, true) else (c :: (cutL l).1, (cutL l).2.1, (cutL l).2.2)
def opOfL (l : List UInt8) : Nat := (((List.range 19).drop 1).find? fun k => wordL k == l).getD 0
def readV (c : Int) (p : List UInt8) : Int := if placeB c = true then locN p else parN p
def readE (c : Int) (p : List UInt8) : Int := if placeB c = true then locE p else parE p
def rdI : List Int → List UInt8 → Bool → I → Option I
  | [], _, more, x => if more = true then none else some x
  | c :: L, rest, _, x =>
    if readE c (cutL rest).1 = 0 ∧ faultV c (readV c (cutL rest).1) 200 = 0 then rdI L (cutL rest).2.1 (cutL rest).2.2 (withV x c (readV c (cutL rest).1)) else none
/-- P3.2: what a text is read as. -/
def prs (s : List UInt8) : Option I :=
  if opOfL (cutL s).1 = 0 then none else rdI (letters (opOfL (cutL s).1)) (cutL s).2.1 (cutL s).2.2 (zeroI (opOfL (cutL s).1))

-- the table
theorem word_no32 : ∀ k < 19, (32 : UInt8) ∉ wordL k := by decide +kernel
theorem opOf_word : ∀ k < 19, 1 ≤ k → opOfL (wordL k) = k := by decide +kernel
theorem opOf_some {l : List UInt8} (h : opOfL l ≠ 0) : 1 ≤ opOfL l ∧ opOfL l ≤ 18 ∧ wordL (opOfL l) = l := by
  unfold opOfL at h ⊢
  cases e : ((List.range 19).drop 1).find? fun k => wordL k == l with
  | none => rw [e] at h; exact absurd rfl h
  | some k =>
    have h1 := List.find?_some e
    have h2 := List.mem_of_find?_eq_some e
    have h3 : k ∈ (List.range 19).drop 1 → 1 ≤ k ∧ k ≤ 18 := by
      have : ∀ j ∈ (List.range 19).drop 1, 1 ≤ j ∧ j ≤ 18 := by decide
      exact this k
    exact ⟨(h3 h2).1, (h3 h2).2, by simpa using h1⟩
/-- The nine shapes. -/
theorem shape_of : ∀ k < 19, 1 ≤ k → fldsL k = [100, 110] ∨ fldsL k = [100, 97] ∨ fldsL k = [68, 65, 66] ∨ fldsL k = [68, 65] ∨ fldsL k = [65, 66] ∨ fldsL k = [68, 65, 78] ∨ fldsL k = [84] ∨ fldsL k = [65, 84] ∨ fldsL k = [65] := by decide +kernel
theorem letters_of {op : Int} (h : knownB op = true) : letters op = [100, 110] ∨ letters op = [100, 97] ∨ letters op = [68, 65, 66] ∨ letters op = [68, 65] ∨ letters op = [65, 66] ∨ letters op = [68, 65, 78] ∨ letters op = [84] ∨ letters op = [65, 84] ∨ letters op = [65] := by
  unfold letters fieldsL
  rw [if_pos h]
  unfold knownB at h
  rw [decide_eq_true_iff] at h
  rcases shape_of op.toNat (by omega) (by omega) with h | h | h | h | h | h | h | h | h <;> rw [h] <;> decide

-- cuts
theorem cut_no {l : List UInt8} (h : (32 : UInt8) ∉ l) : cutL l = (l, [], false) := by
  induction l with
  | nil => rfl
  | cons c l ih =>
    have h1 : c ≠ 32 := fun e => h (by simp [e])
    have h2 : (32 : UInt8) ∉ l := fun e => h (List.mem_cons_of_mem _ e)
    rw [cutL, if_neg h1, ih h2]
theorem cut_at {p l : List UInt8} (h : (32 : UInt8) ∉ p) : cutL (p ++ 32 :: l) = (p, l, true) := by
  induction p with
  | nil => simp [cutL]
  | cons c p ih =>
    have h1 : c ≠ 32 := fun e => h (by simp [e])
    have h2 : (32 : UInt8) ∉ p := fun e => h (List.mem_cons_of_mem _ e)
    rw [List.cons_append, cutL, if_neg h1, ih h2]
def tailT (more : Bool) (rest : List UInt8) : List UInt8 := if more = true then 32 :: rest else []
theorem cut_back (l : List UInt8) : l = (cutL l).1 ++ tailT (cutL l).2.2 (cutL l).2.1 ∧ ((cutL l).2.2 = false → (cutL l).2.1 = []) ∧ (32 : UInt8) ∉ (cutL l).1 := by
  induction l with
  | nil => simp [cutL, tailT]
  | cons c l ih =>
    by_cases h : c = 32
    · rw [cutL, if_pos h, h]; simp [tailT]
    · rw [cutL, if_neg h]
      refine ⟨?_, ih.2.1, ?_⟩
      · show c :: l = c :: ((cutL l).1 ++ _)
        rw [← ih.1]
      · simp only [List.mem_cons, not_or]
        exact ⟨fun e => h e.symm, ih.2.2⟩

-- pieces
theorem loc_no32 : ∀ k < 24, (32 : UInt8) ∉ locL k := by decide +kernel
theorem dec_no32 (n : Nat) : (32 : UInt8) ∉ Lib.decDigits n := by
  induction n using Nat.strongRecOn with
  | _ n ih =>
    by_cases h : n < 10
    · rw [Lib.decDigits_one h]
      intro hm
      have e : (32 : UInt8) = UInt8.ofNat (48 + n) := by simpa using hm
      have := congrArg UInt8.toNat e
      simp at this
      omega
    · rw [decDigits_big h]
      intro hm
      rcases List.mem_append.mp hm with hm | hm
      · exact ih (n / 10) (by omega) hm
      · have e : (32 : UInt8) = UInt8.ofNat (48 + n % 10) := by simpa using hm
        have := congrArg UInt8.toNat e
        simp at this
        omega
theorem itoa_no32 (v : Int) : (32 : UInt8) ∉ Lib.itoa v := by
  unfold Lib.itoa
  split
  · intro h
    rcases List.mem_cons.mp h with h | h
    · exact absurd h (by decide)
    · exact dec_no32 _ h
  · exact dec_no32 _
theorem piece_no32 (c v : Int) : (32 : UInt8) ∉ pieceL c v := by
  unfold pieceL
  split
  · split
    · exact loc_no32 _ (by omega)
    · simp
  · exact itoa_no32 v

end Go.Proofs.Ytomclhbekmcaeaa
namespace Go.Proofs.Ytomclhbekmcaeaa
open Go.RowKit

theorem loc_read {v : Int} (h : 0 ≤ v ∧ v < 24) : locN (locL v.toNat) = v ∧ locE (locL v.toNat) = 0 := by
  unfold locN locE
  rw [locOf_text v.toNat (by omega)]
  exact ⟨by show ((v.toNat : Nat) : Int) = v; omega, rfl⟩
/-- A field that is right is read back off its text. -/
theorem piece_read {c v n : Int} (hv : In64 v) (h : faultV c v n = 0) : readE c (pieceL c v) = 0 ∧ readV c (pieceL c v) = v := by
  unfold readE readV pieceL
  by_cases hp : placeB c = true
  · have hr : 0 ≤ v ∧ v < 24 := by
      unfold placeB at hp
      rw [decide_eq_true_iff] at hp
      unfold faultV at h
      by_cases h1 : c = 100 ∨ c = 97
      · rw [if_pos h1] at h
        split at h
        · assumption
        · omega
      · rw [if_neg h1, if_pos (by omega)] at h
        split at h
        · omega
        · omega
    rw [if_pos hp, if_pos hp, if_pos hp, if_pos hr]
    exact ⟨(loc_read hr).2, (loc_read hr).1⟩
  · rw [if_neg hp, if_neg hp, if_neg hp]
    unfold parE parN
    rw [parseV_itoa hv]
    exact ⟨rfl, rfl⟩
theorem read_piece {c : Int} {p : List UInt8} (h : readE c p = 0) : pieceL c (readV c p) = p ∧ In64 (readV c p) := by
  unfold readE at h
  unfold readV pieceL
  by_cases hp : placeB c = true
  · rw [if_pos hp] at h ⊢
    unfold locE at h
    cases e : locOf p with
    | none => rw [e] at h; exact absurd h (by decide)
    | some k =>
      obtain ⟨hk, hl⟩ := locOf_some e
      have hn : locN p = k := by unfold locN; rw [e]; rfl
      rw [if_pos hp, hn, if_pos (by omega)]
      refine ⟨?_, by unfold In64; omega⟩
      rw [show ((k : Int)).toNat = k from by omega, hl]
  · rw [if_neg hp] at h ⊢
    rw [if_neg hp]
    unfold parE at h
    cases e : parseV p with
    | none => rw [e] at h; exact absurd h (by decide)
    | some v =>
      have hn : parN p = v := by unfold parN; rw [e]; rfl
      rw [hn]
      exact ⟨(parseV_some e).2, (parseV_some e).1⟩
theorem readE_nil (c : Int) : readE c [] = 2 := by
  unfold readE
  split
  · decide +kernel
  · decide +kernel

def putAll (q : List (Int × Int)) (x : I) : I := q.foldl (fun r q => withV r q.1 q.2) x
def In64I (x : I) : Prop := In64 x.op ∧ In64 x.d ∧ In64 x.a ∧ In64 x.b ∧ In64 x.n ∧ In64 x.t
theorem field_in {x : I} (h : In64I x) (c : Int) : In64 (fieldV x c) := by
  obtain ⟨h1, h2, h3, h4, h5, h6⟩ := h
  unfold fieldV
  split
  · exact h2
  · split
    · exact h3
    · split
      · exact h4
      · split
        · exact h6
        · exact h5

theorem join_cut (c v : Int) (q : List (Int × Int)) : cutL (pieceL c v ++ joinL q) = (pieceL c v, (joinL q).tail, !q.isEmpty) := by
  cases q with
  | nil => simp only [joinL, List.append_nil]; rw [cut_no (piece_no32 c v)]; rfl
  | cons q L => simp only [joinL]; rw [cut_at (piece_no32 c v)]; rfl
/-- Texts of fields are read as these fields. -/
theorem rd_join : ∀ (q : List (Int × Int)) (y : I), (∀ p ∈ q, In64 p.2 ∧ faultV p.1 p.2 200 = 0) → rdI (q.map (·.1)) (joinL q).tail (!q.isEmpty) y = some (putAll q y)
  | [], y, _ => rfl
  | (c, v) :: q, y, h => by
    obtain ⟨hv, hf⟩ := h (c, v) (List.mem_cons_self ..)
    obtain ⟨h1, h2⟩ := piece_read hv hf
    have e : (joinL ((c, v) :: q)).tail = pieceL c v ++ joinL q := rfl
    rw [List.map_cons, e, rdI, join_cut]
    simp only
    rw [h1, h2, if_pos ⟨rfl, hf⟩]
    exact rd_join q _ (fun p hp => h p (List.mem_cons_of_mem _ hp))
/-- What was read is of such a text. -/
theorem join_rd : ∀ (L : List Int) (rest : List UInt8) (more : Bool) (y z : I), (more = false → rest = []) → rdI L rest more y = some z →
    ∃ q : List (Int × Int), q.map (·.1) = L ∧ z = putAll q y ∧ (∀ p ∈ q, In64 p.2 ∧ faultV p.1 p.2 200 = 0) ∧ tailT more rest = joinL q
  | [], rest, more, y, z, _, h => by
    rw [rdI] at h
    cases more with
    | true => exact absurd h (by simp)
    | false =>
      have h : y = z := by simpa using h
      exact ⟨[], rfl, h.symm, by simp, rfl⟩
  | c :: L, rest, more, y, z, hm, h => by
    rw [rdI] at h
    split at h
    · rename_i hc
      obtain ⟨h1, h2⟩ := read_piece hc.1
      obtain ⟨hb, hbm, _⟩ := cut_back rest
      obtain ⟨q, hq, hz, ha, ht⟩ := join_rd L _ _ _ z hbm h
      refine ⟨(c, readV c (cutL rest).1) :: q, by rw [List.map_cons, hq], hz, ?_, ?_⟩
      · intro p hp
        rcases List.mem_cons.mp hp with rfl | hp
        · exact ⟨h2, hc.2⟩
        · exact ha p hp
      · cases more with
        | false =>
          rw [hm rfl] at hc
          have := hc.1
          rw [show (cutL []).1 = [] from rfl, readE_nil] at this
          exact absurd this (by decide)
        | true =>
          show 32 :: rest = 32 :: (pieceL c (readV c (cutL rest).1) ++ joinL q)
          rw [h1, ← ht, ← hb]
    · cases h

-- the shapes: what stands in the fields
theorem vals_map (L : List Int) (x : I) : (valsOf L x).map (·.1) = L := by
  unfold valsOf
  rw [List.map_map]
  exact List.map_id'' (fun _ => rfl) L
theorem put_vals {x : I} (h : knownB x.op = true) (hs : spareB x = false) : putAll (valsOf (letters x.op) x) (zeroI x.op) = x := by
  have hs' : bareOf (letters x.op) x = zeroI x.op := by
    unfold spareB at hs
    exact same_iff.mp (by simpa using hs)
  rw [← hs']
  rcases letters_of h with e | e | e | e | e | e | e | e | e <;> rw [e] <;> simp [putAll, valsOf, bareOf, withV, fieldV]
theorem chk_zero {x : I} {n : Int} (h : chkV x n = 0) : knownB x.op = true ∧ spareB x = false ∧ ∀ c ∈ letters x.op, faultV c (fieldV x c) n = 0 := by
  unfold chkV at h
  split at h
  · omega
  rename_i h1
  split at h
  · omega
  rename_i h2
  split at h
  · omega
  rename_i h3
  split at h
  · omega
  rename_i h4
  split at h
  · omega
  rename_i h5
  refine ⟨by simpa using h1, by simpa using h2, fun c hc => ?_⟩
  have g : ∀ e, ¬ hitB (letters x.op) x n e = true → faultV c (fieldV x c) n ≠ e := by
    intro e he hh
    apply he
    unfold hitB
    rw [List.any_eq_true]
    exact ⟨c, hc, by simp [hh]⟩
  have k1 := g 1 h3
  have k2 := g 6 h4
  have k3 := g 4 h5
  have : faultV c (fieldV x c) n = 0 ∨ faultV c (fieldV x c) n = 1 ∨ faultV c (fieldV x c) n = 6 ∨ faultV c (fieldV x c) n = 4 := by
    unfold faultV
    repeat' split
    all_goals simp
  omega
theorem zero_chk {x : I} {n : Int} (h1 : knownB x.op = true) (h2 : spareB x = false) (h3 : ∀ c ∈ letters x.op, faultV c (fieldV x c) n = 0) : chkV x n = 0 := by
  have g : ∀ e, e ≠ 0 → hitB (letters x.op) x n e = false := by
    intro e he
    unfold hitB
    rw [List.any_eq_false]
    intro c hc hh
    rw [h3 c hc] at hh
    exact he (by have : (0 : Int) = e := by simpa using hh
                 omega)
  unfold chkV
  rw [h1, h2, g 1 (by decide), g 6 (by decide), g 4 (by decide)]
  rfl
theorem known_iff {op : Int} : knownB op = true ↔ 1 ≤ op ∧ op ≤ 18 := by unfold knownB; rw [decide_eq_true_iff]

/-- An instruction's text is read as it. -/
theorem prs_prt {x : I} (hx : In64I x) (h : chkV x 200 = 0) : prs (prtL x) = some x := by
  obtain ⟨h1, h2, h3⟩ := chk_zero h
  have hk := known_iff.mp h1
  have hne : letters x.op ≠ [] := by rcases letters_of h1 with e | e | e | e | e | e | e | e | e <;> rw [e] <;> simp
  have hj : ∃ t, joinL (valsOf (letters x.op) x) = 32 :: t ∧ (joinL (valsOf (letters x.op) x)).tail = t := by
    cases e : letters x.op with
    | nil => exact absurd e hne
    | cons c L => exact ⟨_, rfl, rfl⟩
  obtain ⟨t, ht, ht2⟩ := hj
  have hc : cutL (prtL x) = (wordL x.op.toNat, t, true) := by
    unfold prtL
    rw [ht, cut_at (word_no32 _ (by omega))]
  unfold prs
  rw [hc]
  simp only
  rw [opOf_word _ (by omega) (by omega), if_neg (by omega), show ((x.op.toNat : Nat) : Int) = x.op from by omega]
  have := rd_join (valsOf (letters x.op) x) (zeroI x.op) (by
    intro p hp
    unfold valsOf at hp
    obtain ⟨c, hc, rfl⟩ := List.mem_map.mp hp
    exact ⟨field_in hx c, h3 c hc⟩)
  rw [vals_map, ht2, put_vals h1 h2] at this
  have hb : (!(valsOf (letters x.op) x).isEmpty) = true := by
    cases e : letters x.op with
    | nil => exact absurd e hne
    | cons c L => rfl
  rw [hb] at this
  exact this

theorem put_op : ∀ (q : List (Int × Int)) (y : I), (putAll q y).op = y.op
  | [], _ => rfl
  | p :: q, y => by
    show (putAll q (withV y p.1 p.2)).op = y.op
    rw [put_op q]
    unfold withV
    repeat' split
    all_goals rfl
theorem map_one {q : List (Int × Int)} {a : Int} (h : q.map (·.1) = [a]) : ∃ v, q = [(a, v)] := by
  match q, h with
  | [(c, v)], h => exact ⟨v, by simp at h; rw [h]⟩
theorem map_two {q : List (Int × Int)} {a b : Int} (h : q.map (·.1) = [a, b]) : ∃ v w, q = [(a, v), (b, w)] := by
  match q, h with
  | [(c, v), (d, w)], h => exact ⟨v, w, by simp at h; rw [h.1, h.2]⟩
theorem map_three {q : List (Int × Int)} {a b c : Int} (h : q.map (·.1) = [a, b, c]) : ∃ u v w, q = [(a, u), (b, v), (c, w)] := by
  match q, h with
  | [(d, u), (e, v), (f, w)], h => exact ⟨u, v, w, by simp at h; rw [h.1, h.2.1, h.2.2]⟩
/-- What is put into a shape's fields stands there, and nothing else. -/
theorem put_shape {op : Int} {q : List (Int × Int)} (h : knownB op = true) (hq : q.map (·.1) = letters op) :
    valsOf (letters op) (putAll q (zeroI op)) = q ∧ spareB (putAll q (zeroI op)) = false := by
  unfold spareB
  rw [put_op]
  show _ ∧ (!sameB (bareOf (letters op) _) (zeroI op)) = false
  rcases letters_of h with e | e | e | e | e | e | e | e | e <;> rw [e] at hq ⊢
  · obtain ⟨u, v, rfl⟩ := map_two hq; simp [putAll, valsOf, bareOf, withV, fieldV, zeroI, sameB]
  · obtain ⟨u, v, rfl⟩ := map_two hq; simp [putAll, valsOf, bareOf, withV, fieldV, zeroI, sameB]
  · obtain ⟨u, v, w, rfl⟩ := map_three hq; simp [putAll, valsOf, bareOf, withV, fieldV, zeroI, sameB]
  · obtain ⟨u, v, rfl⟩ := map_two hq; simp [putAll, valsOf, bareOf, withV, fieldV, zeroI, sameB]
  · obtain ⟨u, v, rfl⟩ := map_two hq; simp [putAll, valsOf, bareOf, withV, fieldV, zeroI, sameB]
  · obtain ⟨u, v, w, rfl⟩ := map_three hq; simp [putAll, valsOf, bareOf, withV, fieldV, zeroI, sameB]
  · obtain ⟨u, rfl⟩ := map_one hq; simp [putAll, valsOf, bareOf, withV, fieldV, zeroI, sameB]
  · obtain ⟨u, v, rfl⟩ := map_two hq; simp [putAll, valsOf, bareOf, withV, fieldV, zeroI, sameB]
  · obtain ⟨u, rfl⟩ := map_one hq; simp [putAll, valsOf, bareOf, withV, fieldV, zeroI, sameB]
theorem with_in {y : I} (h : In64I y) {c v : Int} (hv : In64 v) : In64I (withV y c v) := by
  obtain ⟨h1, h2, h3, h4, h5, h6⟩ := h
  unfold withV In64I
  repeat' split
  all_goals exact ⟨by assumption, by assumption, by assumption, by assumption, by assumption, by assumption⟩
theorem put_in : ∀ (q : List (Int × Int)) (y : I), In64I y → (∀ p ∈ q, In64 p.2) → In64I (putAll q y)
  | [], _, h, _ => h
  | p :: q, _, h, hq => put_in q _ (with_in h (hq p (List.mem_cons_self ..))) (fun r hr => hq r (List.mem_cons_of_mem _ hr))
theorem zeroI_in {op : Int} (h : In64 op) : In64I (zeroI op) := ⟨h, by unfold In64 zeroI; simp, by unfold In64 zeroI; simp, by unfold In64 zeroI; simp, by unfold In64 zeroI; simp, by unfold In64 zeroI; simp⟩

/-- What was read is right, and has just that text. -/
theorem prt_prs {s : List UInt8} {x : I} (h : prs s = some x) : chkV x 200 = 0 ∧ prtL x = s ∧ In64I x := by
  unfold prs at h
  split at h
  · cases h
  rename_i hne
  obtain ⟨h1, h2, h3⟩ := opOf_some hne
  obtain ⟨hb, hbm, _⟩ := cut_back s
  obtain ⟨q, hq, hz, ha, ht⟩ := join_rd _ _ _ _ x hbm h
  generalize hop : opOfL (cutL s).1 = k at *
  have hk : knownB (k : Int) = true := known_iff.mpr (by omega)
  obtain ⟨g1, g2⟩ := put_shape hk hq
  rw [← hz] at g1 g2
  have hxo : x.op = k := by rw [hz, put_op]; rfl
  have g1' : valsOf (letters x.op) x = q := by rw [hxo]; exact g1
  refine ⟨zero_chk (by rw [hxo]; exact hk) g2 ?_, ?_, ?_⟩
  · intro c hc
    have : (c, fieldV x c) ∈ q := by rw [← g1']; unfold valsOf; exact List.mem_map.mpr ⟨c, hc, rfl⟩
    exact (ha _ this).2
  · unfold prtL
    rw [g1', hxo, show ((k : Int)).toNat = k from by omega, h3, ← ht]
    exact hb.symm
  · rw [hz]
    exact put_in q _ (zeroI_in (by unfold In64; omega)) (fun p hp => (ha p hp).1)
theorem prs_iff {s : List UInt8} {x : I} : prs s = some x ↔ In64I x ∧ chkV x 200 = 0 ∧ prtL x = s :=
  ⟨fun h => ⟨(prt_prs h).2.2, (prt_prs h).1, (prt_prs h).2.1⟩, fun ⟨h1, h2, h3⟩ => h3 ▸ prs_prt h1 h2⟩

-- how long a text is
theorem piece_len {c v : Int} (h : In64 v) : (pieceL c v).length ≤ 20 := by
  unfold pieceL
  split
  · split
    · have := (locL_size v.toNat (by omega)).2; omega
    · simp
  · exact itoa_len h
theorem join_len : ∀ q : List (Int × Int), (∀ p ∈ q, In64 p.2) → (joinL q).length ≤ 21 * q.length
  | [], _ => by simp [joinL]
  | p :: q, h => by
    have h1 := join_len q (fun r hr => h r (List.mem_cons_of_mem _ hr))
    have h2 := piece_len (c := p.1) (h p (List.mem_cons_self ..))
    simp only [joinL, List.length_cons, List.length_append]
    omega
theorem word_len : ∀ k < 19, (wordL k).length ≤ 5 := by decide +kernel
theorem prt_len {x : I} (hx : In64I x) (h : knownB x.op = true) : (prtL x).length ≤ 100 := by
  have h1 := known_iff.mp h
  have h2 := word_len x.op.toNat (by omega)
  have h3 := join_len (valsOf (letters x.op) x) (by
    intro p hp
    obtain ⟨c, _, rfl⟩ := List.mem_map.mp hp
    exact field_in hx c)
  have h4 : (valsOf (letters x.op) x).length ≤ 3 := by
    unfold valsOf
    rw [List.length_map]
    rcases letters_of h with e | e | e | e | e | e | e | e | e <;> rw [e] <;> simp
  unfold prtL
  rw [List.length_append]
  omega
end Go.Proofs.Ytomclhbekmcaeaa
namespace Go.Proofs.Ytomclhbekmcaeaa
open Go.RowKit

def movesB (op : Int) : Bool := decide (op = 1 ∨ op = 2 ∨ op = 3 ∨ op = 16)
def setsB (op : Int) : Bool := decide ((68 : Int) ∈ letters op)
def setsV (x : I) : Int := if setsB x.op = true then x.d else 0
theorem sets_at {op : Int} {pos : Nat} {c : Int} (h : (letters op).drop pos = c :: (letters op).drop (pos + 1)) (hc : c = 68) : setsB op = true := by
  unfold setsB
  rw [decide_eq_true_iff]
  exact List.mem_of_mem_drop (i := pos) (by rw [h, hc]; exact List.mem_cons_self ..)
def usesR (x : I) : List Int → List Int
  | [] => []
  | c :: L => if c = 65 then x.a :: usesR x L else if c = 66 then x.b :: usesR x L else usesR x L
def usesL (x : I) : List Int := usesR x (letters x.op)
theorem letters_none {op : Int} (h : ¬ (1 ≤ op ∧ op ≤ 18)) : letters op = [] := by
  unfold letters fieldsL
  rw [if_neg (by rw [known_iff]; exact h)]; rfl
def usesQ (op : Int) : Int := if (4 ≤ op ∧ op ≤ 12) ∨ op = 14 then 2 else if ((op = 13 ∨ op = 15) ∨ op = 17) ∨ op = 18 then 1 else 0
theorem uses_class (x : I) : usesL x = if usesQ x.op = 2 then [x.a, x.b] else if usesQ x.op = 1 then [x.a] else [] := by
  by_cases h : 1 ≤ x.op ∧ x.op ≤ 18
  · have hl : letters x.op = if usesQ x.op = 2 then (if x.op = 14 then [65, 66] else [68, 65, 66]) else if usesQ x.op = 1 then (if x.op = 13 then [68, 65] else if x.op = 15 then [68, 65, 78] else if x.op = 17 then [65, 84] else [65]) else (if x.op = 1 then [100, 110] else if x.op = 16 then [84] else [100, 97]) := by
      have : ∀ k < 19, 1 ≤ k → letters (k : Nat) = if usesQ (k : Nat) = 2 then (if ((k : Nat) : Int) = 14 then [65, 66] else [68, 65, 66]) else if usesQ (k : Nat) = 1 then (if ((k : Nat) : Int) = 13 then [68, 65] else if ((k : Nat) : Int) = 15 then [68, 65, 78] else if ((k : Nat) : Int) = 17 then [65, 84] else [65]) else (if ((k : Nat) : Int) = 1 then [100, 110] else if ((k : Nat) : Int) = 16 then [84] else [100, 97]) := by decide +kernel
      have := this x.op.toNat (by omega) (by omega)
      rw [show ((x.op.toNat : Nat) : Int) = x.op from by omega] at this
      exact this
    unfold usesL
    rw [hl]
    repeat' split
    all_goals simp [usesR]
  · unfold usesL
    rw [letters_none h]
    have : usesQ x.op = 0 := by unfold usesQ; rw [if_neg (by omega), if_neg (by omega)]
    rw [this]
    rfl
end Go.Proofs.Ytomclhbekmcaeaa
namespace Go.Proofs.Ytomclhbekmcaeaa
open Go.RowKit

/-- The first instruction that isn't right in a function of n, from place k on. -/
def badF (n : Int) : List I → Nat → Option (Nat × Int)
  | [], _ => none
  | x :: r, k => if chkV x n = 0 then badF n r (k + 1) else some (k, chkV x n)
def endB (x : I) : Bool := decide (x.op = 16 ∨ x.op = 18)
def lastI (f : List I) : I := f.getD (f.length - 1) ⟨0, 0, 0, 0, 0, 0⟩
/-- Check: the place and the error. -/
def chkF (f : List I) : Nat × Int :=
  if 200 < f.length then (0, 3) else if f.length = 0 then (0, 5)
  else match badF f.length f 0 with
    | some p => p
    | none => if endB (lastI f) = true then (0, 0) else (f.length - 1, 5)
def rightF (f : List I) : Bool := decide ((chkF f).2 = 0)
/-- A function's text. -/
def prtF (f : List I) : List UInt8 := f.flatMap fun x => prtL x ++ [10]
/-- A text is read: cur: what stands of the line so far; b: where the line begins; f, bs: what has been read. Answered: where the first line begins that isn't taken (or the end), what has been read and where its lines begin. -/
def rdF : List UInt8 → List UInt8 → Nat → List I → List Nat → Nat × List I × List Nat
  | [], _, b, f, bs => (b, f, bs)
  | c :: l, cur, b, f, bs =>
    if c = 10 then
      match prs cur with
      | some x => rdF l [] (b + cur.length + 1) (f ++ [x]) (bs ++ [b])
      | none => (b, f, bs)
    else rdF l (cur ++ [c]) b f bs
def readF (s : List UInt8) : Nat × List I × List Nat := rdF s [] 0 [] []
/-- Parse: the function, the place, the error. -/
def prsF (s : List UInt8) : List I × Nat × Int :=
  if 20000 < s.length then ([], 0, 3)
  else if (readF s).1 < s.length then ([], (readF s).1, 2)
  else if (chkF (readF s).2.1).2 = 0 then ((readF s).2.1, 0, 0)
  else if (readF s).2.2.length = 0 then ([], 0, (chkF (readF s).2.1).2)
  else ([], (readF s).2.2.getD (chkF (readF s).2.1).1 0, (chkF (readF s).2.1).2)

/-! Check. -/
theorem bad_drop {n : Int} {f : List I} {k : Nat} (h : k < f.length) (h' : chkV f[k] n = 0) : badF n (f.drop k) k = badF n (f.drop (k + 1)) (k + 1) := by
  rw [List.drop_eq_getElem_cons h, badF, if_pos h']
theorem bad_here {n : Int} {f : List I} {k : Nat} (h : k < f.length) (h' : ¬ chkV f[k] n = 0) : badF n (f.drop k) k = some (k, chkV f[k] n) := by
  rw [List.drop_eq_getElem_cons h, badF, if_neg h']
theorem bad_none {n : Int} : ∀ (f : List I) (k : Nat), badF n f k = none ↔ ∀ x ∈ f, chkV x n = 0
  | [], k => by simp [badF]
  | x :: r, k => by
    rw [badF]
    by_cases h : chkV x n = 0
    · rw [if_pos h, bad_none r (k + 1)]
      simp [h]
    · rw [if_neg h]
      simp [h]
theorem bad_some {n : Int} : ∀ (f : List I) (k : Nat) (p : Nat × Int), badF n f k = some p → p.2 ≠ 0 ∧ k ≤ p.1 ∧ p.1 < k + f.length
  | [], k, p => by simp [badF]
  | x :: r, k, p => by
    rw [badF]
    by_cases h : chkV x n = 0
    · rw [if_pos h]
      intro h'
      obtain ⟨a, b, c⟩ := bad_some r (k + 1) p h'
      refine ⟨a, by omega, ?_⟩
      simp only [List.length_cons]; omega
    · rw [if_neg h]
      intro h'
      obtain rfl := Option.some.inj h'
      exact ⟨h, Nat.le_refl _, by simp⟩
theorem chkF_full {f : List I} (h : 200 < f.length) : chkF f = (0, 3) := by unfold chkF; rw [if_pos h]
theorem chkF_none {f : List I} (h : f.length = 0) : chkF f = (0, 5) := by unfold chkF; rw [if_neg (by omega), if_pos h]
theorem chkF_bad {f : List I} (h : f.length ≤ 200) {p : Nat × Int} (h' : badF f.length f 0 = some p) : chkF f = p := by
  have h0 : f.length ≠ 0 := by
    intro h0
    rw [List.length_eq_zero_iff.mp h0] at h'
    simp [badF] at h'
  unfold chkF; rw [if_neg (by omega), if_neg h0, h']
theorem chkF_last {f : List I} (h : f.length ≤ 200) (h0 : f.length ≠ 0) (h' : badF f.length f 0 = none) : chkF f = if endB (lastI f) = true then (0, 0) else (f.length - 1, 5) := by
  unfold chkF; rw [if_neg (by omega), if_neg h0, h']
theorem right_iff {f : List I} : (chkF f).2 = 0 ↔ f.length ≤ 200 ∧ f.length ≠ 0 ∧ (∀ x ∈ f, chkV x f.length = 0) ∧ endB (lastI f) = true := by
  by_cases h : 200 < f.length
  · rw [chkF_full h]
    constructor
    · intro h; exact absurd h (by decide)
    · intro h; omega
  · by_cases h0 : f.length = 0
    · rw [chkF_none h0]
      constructor
      · intro h; exact absurd h (by decide)
      · intro h; omega
    · cases hb : badF f.length f 0 with
      | some p =>
        rw [chkF_bad (by omega) hb]
        constructor
        · intro h; exact absurd h (bad_some f 0 p hb).1
        · intro h
          rw [(bad_none f 0).mpr h.2.2.1] at hb
          exact absurd hb (by simp)
      | none =>
        rw [chkF_last (by omega) h0 hb]
        by_cases he : endB (lastI f) = true
        · rw [if_pos he]
          exact ⟨fun _ => ⟨by omega, h0, (bad_none f 0).mp hb, he⟩, fun _ => rfl⟩
        · rw [if_neg he]
          constructor
          · intro h; exact absurd (show (5 : Int) = 0 from h) (by decide)
          · intro h; exact absurd h.2.2.2 he
theorem right_zero {f : List I} (h : (chkF f).2 = 0) : chkF f = (0, 0) := by
  obtain ⟨h1, h2, h3, h4⟩ := right_iff.mp h
  rw [chkF_last h1 h2 ((bad_none f 0).mpr h3), if_pos h4]
theorem chkF_lt {f : List I} (h0 : f.length ≠ 0) : (chkF f).1 < f.length := by
  by_cases h : 200 < f.length
  · rw [chkF_full h]; show 0 < _; omega
  · cases hb : badF f.length f 0 with
    | some p => rw [chkF_bad (by omega) hb]; have := (bad_some f 0 p hb).2.2; omega
    | none =>
      rw [chkF_last (by omega) h0 hb]
      split
      · show 0 < _; omega
      · show f.length - 1 < _; omega

/-! What is right in a function of n is right in one of more. -/
theorem fault_mono {c v n m : Int} (h : n ≤ m) (h' : faultV c v n = 0) : faultV c v m = 0 := by
  unfold faultV at h' ⊢
  by_cases h1 : c = 100 ∨ c = 97
  · rw [if_pos h1] at h' ⊢; exact h'
  · rw [if_neg h1] at h' ⊢
    by_cases h2 : c = 68 ∨ c = 65 ∨ c = 66
    · rw [if_pos h2] at h' ⊢; exact h'
    · rw [if_neg h2] at h' ⊢
      by_cases h3 : c = 78
      · rw [if_pos h3] at h' ⊢; exact h'
      · rw [if_neg h3] at h' ⊢
        by_cases h4 : c = 84
        · rw [if_pos h4] at h' ⊢
          by_cases h5 : v < 0 ∨ n ≤ v
          · rw [if_pos h5] at h'; exact absurd h' (by decide)
          · rw [if_neg (by omega)]
        · rw [if_neg h4]
theorem chk_mono {x : I} {n m : Int} (h : n ≤ m) (h' : chkV x n = 0) : chkV x m = 0 := by
  obtain ⟨a, b, c⟩ := chk_zero h'
  exact zero_chk a b fun l hl => fault_mono h (c l hl)
theorem right_200 {f : List I} (h : (chkF f).2 = 0) : ∀ x ∈ f, chkV x 200 = 0 := by
  obtain ⟨h1, h2, h3, h4⟩ := right_iff.mp h
  exact fun x hx => chk_mono (by omega) (h3 x hx)

/-! Texts: no byte 10 in a line. -/
theorem loc_no10 : ∀ k < 24, (10 : UInt8) ∉ locL k := by decide +kernel
theorem word_no10 : ∀ k < 19, (10 : UInt8) ∉ wordL k := by decide +kernel
theorem dec_no10 (n : Nat) : (10 : UInt8) ∉ Lib.decDigits n := by
  induction n using Nat.strongRecOn with
  | _ n ih =>
    rw [Lib.decDigits]
    split
    · rename_i h
      intro hm
      have hm := List.mem_singleton.mp hm
      have := congrArg UInt8.toNat hm
      simp at this
      omega
    · rename_i h
      intro hm
      rcases List.mem_append.mp hm with hm | hm
      · exact ih (n / 10) (by omega) hm
      · have hm := List.mem_singleton.mp hm
        have := congrArg UInt8.toNat hm
        simp at this
        omega
theorem itoa_no10 (v : Int) : (10 : UInt8) ∉ Lib.itoa v := by
  unfold Lib.itoa
  split
  · intro hm
    rcases List.mem_cons.mp hm with hm | hm
    · exact absurd hm (by decide)
    · exact dec_no10 _ hm
  · exact dec_no10 _
theorem piece_no10 (c v : Int) : (10 : UInt8) ∉ pieceL c v := by
  unfold pieceL
  split
  · split
    · exact loc_no10 _ (by omega)
    · simp
  · exact itoa_no10 v
theorem join_no10 : ∀ q : List (Int × Int), (10 : UInt8) ∉ joinL q
  | [] => by simp [joinL]
  | (c, v) :: q => by
    rw [joinL]
    intro hm
    rcases List.mem_cons.mp hm with hm | hm
    · exact absurd hm (by decide)
    · rcases List.mem_append.mp hm with hm | hm
      · exact piece_no10 _ _ hm
      · exact join_no10 q hm
theorem prt_no10 {x : I} (h : knownB x.op = true) : (10 : UInt8) ∉ prtL x := by
  have hk := known_iff.mp h
  unfold prtL
  intro hm
  rcases List.mem_append.mp hm with hm | hm
  · exact word_no10 _ (by omega) hm
  · exact join_no10 _ hm
theorem prt_ne {x : I} (h : knownB x.op = true) : prtL x ≠ [] := by
  have hk := known_iff.mp h
  have e : ∀ k < 19, 1 ≤ k → wordL k ≠ [] := by decide +kernel
  unfold prtL
  intro h'
  exact e _ (by omega) (by omega) (List.append_eq_nil_iff.mp h').1
theorem prt_short {x : I} (hx : In64I x) (h : knownB x.op = true) : (prtL x).length ≤ 68 := by
  have hk := known_iff.mp h
  have hj := join_len (valsOf (letters x.op) x) (by
    intro p hp
    unfold valsOf at hp
    obtain ⟨c, _, rfl⟩ := List.mem_map.mp hp
    exact field_in hx c)
  have hw := word_len x.op.toNat (by omega)
  have hl : (valsOf (letters x.op) x).length ≤ 3 := by
    unfold valsOf
    rw [List.length_map]
    rcases letters_of h with e | e | e | e | e | e | e | e | e <;> rw [e] <;> simp
  unfold prtL
  rw [List.length_append]
  omega
theorem prtF_len : ∀ f : List I, (∀ x ∈ f, In64I x ∧ chkV x 200 = 0) → (prtF f).length ≤ 69 * f.length
  | [], _ => by simp [prtF]
  | x :: r, h => by
    have h1 := prt_short (h x (by simp)).1 (chk_zero (h x (by simp)).2).1
    have h2 := prtF_len r (fun y hy => h y (by simp [hy]))
    unfold prtF at h2 ⊢
    rw [List.flatMap_cons]
    simp only [List.length_append, List.length_cons, List.length_nil]
    omega
theorem prtF_app (f g : List I) : prtF (f ++ g) = prtF f ++ prtF g := by unfold prtF; rw [List.flatMap_append]
theorem prtF_one (x : I) : prtF [x] = prtL x ++ [10] := by simp [prtF]
theorem prtF_cons (x : I) (f : List I) : prtF (x :: f) = prtL x ++ [10] ++ prtF f := by simp [prtF]

/-! Reading. -/
theorem rd_app : ∀ (p l cur : List UInt8) (b : Nat) (f : List I) (bs : List Nat), (10 : UInt8) ∉ p → rdF (p ++ l) cur b f bs = rdF l (cur ++ p) b f bs
  | [], l, cur, b, f, bs, _ => by simp
  | c :: p, l, cur, b, f, bs, h => by
    rw [List.cons_append, rdF, if_neg (fun e => h (by simp [e])), rd_app p l (cur ++ [c]) b f bs (fun hm => h (by simp [hm]))]
    simp
theorem rd_line {l cur : List UInt8} {b : Nat} {f : List I} {bs : List Nat} {x : I} (h : prs cur = some x) : rdF (10 :: l) cur b f bs = rdF l [] (b + cur.length + 1) (f ++ [x]) (bs ++ [b]) := by
  rw [rdF, if_pos rfl, h]
theorem rd_stop {l cur : List UInt8} {b : Nat} {f : List I} {bs : List Nat} (h : prs cur = none) : rdF (10 :: l) cur b f bs = (b, f, bs) := by
  rw [rdF, if_pos rfl, h]
theorem rd_begins : ∀ (l cur : List UInt8) (b : Nat) (f : List I) (bs : List Nat), bs.length = f.length → (rdF l cur b f bs).2.2.length = (rdF l cur b f bs).2.1.length
  | [], cur, b, f, bs, h => by simpa [rdF] using h
  | c :: l, cur, b, f, bs, h => by
    rw [rdF]
    split
    · split
      · exact rd_begins l _ _ _ _ (by simp [h])
      · exact h
    · exact rd_begins l _ _ _ _ h
/-- What is read: all of it right, and its text is what stands ahead of the place that is answered. -/
theorem rd_text : ∀ (l cur : List UInt8) (b : Nat) (f : List I) (bs : List Nat), b = (prtF f).length → (∀ x ∈ f, In64I x ∧ chkV x 200 = 0) →
    (∀ x ∈ (rdF l cur b f bs).2.1, In64I x ∧ chkV x 200 = 0) ∧ (rdF l cur b f bs).1 = (prtF (rdF l cur b f bs).2.1).length ∧ ∃ r, prtF f ++ cur ++ l = prtF (rdF l cur b f bs).2.1 ++ r
  | [], cur, b, f, bs, hb, hf => ⟨hf, hb, cur, by simp [rdF]⟩
  | c :: l, cur, b, f, bs, hb, hf => by
    by_cases hc : c = 10
    · subst hc
      cases hp : prs cur with
      | some x =>
        rw [rd_line hp]
        obtain ⟨h1, h2, h3⟩ := prt_prs hp
        have hl : (prtF (f ++ [x])) = prtF f ++ (cur ++ [10]) := by rw [prtF_app, prtF_one, h2]
        obtain ⟨i1, i2, r, i3⟩ := rd_text l [] (b + cur.length + 1) (f ++ [x]) (bs ++ [b]) (by rw [hl, hb]; simp; omega) (by
          intro y hy
          rcases List.mem_append.mp hy with hy | hy
          · exact hf y hy
          · obtain rfl := List.mem_singleton.mp hy
            exact ⟨h3, h1⟩)
        refine ⟨i1, i2, r, ?_⟩
        rw [← i3, hl]
        simp
      | none =>
        rw [rd_stop hp]
        exact ⟨hf, hb, cur ++ 10 :: l, by simp⟩
    · rw [rdF, if_neg hc]
      obtain ⟨i1, i2, r, i3⟩ := rd_text l (cur ++ [c]) b f bs hb hf
      refine ⟨i1, i2, r, ?_⟩
      rw [← i3]
      simp
theorem read_text (s : List UInt8) : (∀ x ∈ (readF s).2.1, In64I x ∧ chkV x 200 = 0) ∧ (readF s).1 = (prtF (readF s).2.1).length ∧ (readF s).1 ≤ s.length ∧ ((readF s).1 = s.length → prtF (readF s).2.1 = s) := by
  obtain ⟨h1, h2, r, h3⟩ := rd_text s [] 0 [] [] (by simp [prtF]) (by simp)
  unfold readF
  have e : s = prtF (rdF s [] 0 [] []).2.1 ++ r := by rw [← h3]; simp [prtF]
  have el := congrArg List.length e
  rw [List.length_append] at el
  refine ⟨h1, h2, by omega, fun h => ?_⟩
  have : r = [] := List.length_eq_zero_iff.mp (by omega)
  rw [this, List.append_nil] at e
  exact e.symm
/-- A function's text is read as it. -/
theorem rd_prt : ∀ (g : List I) (l : List UInt8) (b : Nat) (f : List I) (bs : List Nat), (∀ x ∈ g, In64I x ∧ chkV x 200 = 0) →
    ∃ bs', rdF (prtF g ++ l) [] b f bs = rdF l [] (b + (prtF g).length) (f ++ g) bs'
  | [], l, b, f, bs, _ => ⟨bs, by simp [prtF]⟩
  | x :: g, l, b, f, bs, h => by
    obtain ⟨hx, hc⟩ := h x (by simp)
    rw [prtF_cons, List.append_assoc, List.append_assoc, rd_app _ _ _ _ _ _ (prt_no10 (chk_zero hc).1)]
    rw [List.nil_append, List.singleton_append, rd_line (prs_prt hx hc)]
    obtain ⟨bs', e⟩ := rd_prt g l (b + (prtL x).length + 1) (f ++ [x]) (bs ++ [b]) (fun y hy => h y (by simp [hy]))
    refine ⟨bs', ?_⟩
    rw [e]
    simp only [List.append_assoc, List.length_append, List.singleton_append, List.length_cons]
    congr 1
    omega
theorem prs_prtF {f : List I} (hf : ∀ x ∈ f, In64I x) (h : (chkF f).2 = 0) : prsF (prtF f) = (f, 0, 0) := by
  have h2 := right_200 h
  have hr := (right_iff.mp h).1
  have hb : ∀ x ∈ f, In64I x ∧ chkV x 200 = 0 := fun x hx => ⟨hf x hx, h2 x hx⟩
  have hl := prtF_len f hb
  obtain ⟨bs', e⟩ := rd_prt f [] 0 [] [] hb
  have e : readF (prtF f) = ((prtF f).length, f, bs') := by
    unfold readF
    rw [List.append_nil] at e
    rw [e]
    simp [rdF]
  unfold prsF
  rw [e]
  rw [if_neg (by omega), if_neg (by simp), if_pos h]
theorem prtF_inj {f g : List I} (hf : ∀ x ∈ f, In64I x) (hg : ∀ x ∈ g, In64I x) (h : (chkF f).2 = 0) (h' : (chkF g).2 = 0) (e : prtF f = prtF g) : f = g := by
  have := prs_prtF hf h
  rw [e, prs_prtF hg h'] at this
  exact (congrArg Prod.fst this).symm
/-- What was read has just that text. -/
theorem prt_prsF {s : List UInt8} (h : (prsF s).2.2 = 0) : (chkF (prsF s).1).2 = 0 ∧ prtF (prsF s).1 = s ∧ (∀ x ∈ (prsF s).1, In64I x) ∧ s.length ≤ 20000 := by
  obtain ⟨h1, h2, h3, h4⟩ := read_text s
  unfold prsF at h ⊢
  by_cases c1 : 20000 < s.length
  · rw [if_pos c1] at h; exact absurd h (by decide)
  · rw [if_neg c1] at h ⊢
    by_cases c2 : (readF s).1 < s.length
    · rw [if_pos c2] at h; exact absurd (show (2 : Int) = 0 from h) (by decide)
    · rw [if_neg c2] at h ⊢
      by_cases c3 : (chkF (readF s).2.1).2 = 0
      · rw [if_pos c3]
        exact ⟨c3, h4 (by omega), fun x hx => (h1 x hx).1, by omega⟩
      · rw [if_neg c3] at h
        split at h
        · exact absurd h c3
        · exact absurd h c3
theorem prsF_bad {s : List UInt8} (h : ¬ (prsF s).2.2 = 0) : (prsF s).1 = [] := by
  unfold prsF at h ⊢
  split
  · rfl
  · rename_i c1
    rw [if_neg c1] at h
    split
    · rfl
    · rename_i c2
      rw [if_neg c2] at h
      split
      · rename_i c3
        rw [if_pos c3] at h
        exact absurd rfl h
      · split <;> rfl
theorem prsF_in (s : List UInt8) : ∀ x ∈ (prsF s).1, In64I x := by
  by_cases h : (prsF s).2.2 = 0
  · exact (prt_prsF h).2.2.1
  · rw [prsF_bad h]; simp
theorem prsF_few (s : List UInt8) : (prsF s).1.length ≤ 200 := by
  by_cases h : (prsF s).2.2 = 0
  · exact (right_iff.mp (prt_prsF h).1).1
  · rw [prsF_bad h]; simp

/-! A text without its last byte. -/
theorem readF_cut {g : List I} {x : I} (hg : ∀ y ∈ g, In64I y ∧ chkV y 200 = 0) (_hx : In64I x) (hc : chkV x 200 = 0) : (readF (prtF g ++ prtL x)).1 = (prtF g).length := by
  obtain ⟨bs', e⟩ := rd_prt g (prtL x) 0 [] [] hg
  unfold readF
  rw [e]
  have h := rd_app (prtL x) [] [] (0 + (prtF g).length) ([] ++ g) bs' (prt_no10 (chk_zero hc).1)
  rw [List.append_nil] at h
  rw [h]
  simp [rdF]

/-! One line more. -/
theorem last_app (f : List I) (x : I) : lastI (f ++ [x]) = x := by
  unfold lastI
  simp
theorem right_more {f : List I} {x : I} (h : (chkF f).2 = 0) (hl : f.length ≤ 199) : (chkF (f ++ [x])).2 = 0 ↔ chkV x (f.length + 1) = 0 ∧ endB x = true := by
  obtain ⟨h1, h2, h3, h4⟩ := right_iff.mp h
  rw [right_iff, last_app]
  have e : ((f ++ [x]).length : Int) = (f.length : Int) + 1 := by simp
  rw [e]
  constructor
  · rintro ⟨_, _, a, b⟩
    exact ⟨a x (by simp), b⟩
  · rintro ⟨a, b⟩
    refine ⟨by simp; omega, by simp, ?_, b⟩
    intro y hy
    rcases List.mem_append.mp hy with hy | hy
    · exact chk_mono (by omega) (h3 y hy)
    · obtain rfl := List.mem_singleton.mp hy
      exact a
end Go.Proofs.Ytomclhbekmcaeaa
namespace Go.Proofs.Ytomclhbekmcaeaa
open Go.RowKit

/-- A rune of a text: it is 10 where the byte is 10, and then one byte wide; else none of its bytes is 10. -/
theorem rune_high (s : ByteArray) (p : Nat) (h : p < s.size) (ha : 128 ≤ (s[p]'h).toNat) :
    1 ≤ (Utf8.decode s p).2 ∧ p + (Utf8.decode s p).2 ≤ s.size ∧ (Utf8.decode s p).1 ≠ 10 ∧ ∀ j < (Utf8.decode s p).2, s.get! (p + j) ≠ 10 := by
  have hn : ¬ (s[p]'h).toNat < 128 := by omega
  have key : ∀ k, s.get! (p + k) = 10 → (s.get! (p + k)).toNat = 10 := fun k e => by rw [e]; rfl
  have g0 := get_at s p h
  have z : s.get! (p + 0) ≠ 10 := fun e => by have := key 0 e; rw [g0] at this; omega
  have one : ∀ j < 1, s.get! (p + j) ≠ 10 := by
    intro j hj
    obtain rfl : j = 0 := by omega
    exact z
  simp only [Utf8.decode, g0, hn, if_false]
  split
  · rename_i c1
    simp only [Bool.and_eq_true, beq_iff_eq, decide_eq_true_iff] at c1
    split
    · rename_i c2
      refine ⟨by omega, by simp only []; omega, by simp only []; omega, fun j hj => ?_⟩
      have hj : j < 2 := hj
      rcases (show j = 0 ∨ j = 1 by omega) with rfl | rfl
      · exact z
      · intro e; have := key 1 e; omega
    · exact ⟨by omega, by simp only []; omega, by simp only [Utf8.runeError]; omega, one⟩
  · split
    · rename_i c1
      simp only [Bool.and_eq_true, beq_iff_eq, decide_eq_true_iff] at c1
      split
      · rename_i c2
        simp only [Bool.and_eq_true, decide_eq_true_iff] at c2
        refine ⟨by omega, by simp only []; omega, by simp only []; omega, fun j hj => ?_⟩
        have hj : j < 3 := hj
        rcases (show j = 0 ∨ j = 1 ∨ j = 2 by omega) with rfl | rfl | rfl
        · exact z
        · intro e; have := key 1 e; omega
        · intro e; have := key 2 e; omega
      · exact ⟨by omega, by simp only []; omega, by simp only [Utf8.runeError]; omega, one⟩
    · split
      · rename_i c1
        simp only [Bool.and_eq_true, beq_iff_eq, decide_eq_true_iff] at c1
        split
        · rename_i c2
          simp only [Bool.and_eq_true, decide_eq_true_iff] at c2
          refine ⟨by omega, by simp only []; omega, by simp only []; omega, fun j hj => ?_⟩
          have hj : j < 4 := hj
          rcases (show j = 0 ∨ j = 1 ∨ j = 2 ∨ j = 3 by omega) with rfl | rfl | rfl | rfl
          · exact z
          · intro e; have := key 1 e; omega
          · intro e; have := key 2 e; omega
          · intro e; have := key 3 e; omega
        · exact ⟨by omega, by simp only []; omega, by simp only [Utf8.runeError]; omega, one⟩
      · exact ⟨by omega, by simp only []; omega, by simp only [Utf8.runeError]; omega, one⟩
theorem get_list (s : ByteArray) (p : Nat) (h : p < s.size) : s.data.toList[p]? = some (s.get! p) := by
  have h1 : p < s.data.size := h
  rw [Array.getElem?_toList, Array.getElem?_eq_getElem h1]
  show some (s[p]'h) = _
  have := get_at s p h
  rw [Nat.add_zero] at this
  rw [this]
/-- What a round of the range over a text meets. -/
theorem rune_at (s : ByteArray) (p : Nat) (h : p < s.size) :
    ((Utf8.decode s p).1 = 10 ∧ (Utf8.decode s p).2 = 1 ∧ s.data.toList.drop p = 10 :: s.data.toList.drop (p + 1)) ∨
    ((Utf8.decode s p).1 ≠ 10 ∧ 1 ≤ (Utf8.decode s p).2 ∧ p + (Utf8.decode s p).2 ≤ s.size ∧ (10 : UInt8) ∉ (s.data.toList.drop p).take (Utf8.decode s p).2) := by
  have g0 := get_at s p h
  have hl : p < s.data.toList.length := by rw [size_list]; exact h
  by_cases hb : (s[p]'h).toNat < 128
  · have e := decode_ascii s p h hb
    rw [e]
    by_cases h10 : (s[p]'h).toNat = 10
    · left
      refine ⟨h10, rfl, ?_⟩
      rw [List.drop_eq_getElem_cons hl]
      congr 1
      have := get_list s p h
      rw [List.getElem?_eq_getElem hl] at this
      rw [Option.some.inj this]
      rw [Nat.add_zero] at g0
      rw [g0]
      exact UInt8.toNat_inj.mp h10
    · right
      refine ⟨h10, Nat.le_refl _, h, ?_⟩
      intro hm
      rw [List.drop_eq_getElem_cons hl] at hm
      simp only [List.take_succ_cons, List.take_zero, List.mem_singleton] at hm
      have := get_list s p h
      rw [List.getElem?_eq_getElem hl] at this
      have this := Option.some.inj this
      rw [Nat.add_zero] at g0
      rw [← hm] at this
      rw [g0] at this
      exact h10 (by rw [← this]; rfl)
  · right
    obtain ⟨h1, h2, h3, h4⟩ := rune_high s p h (by omega)
    refine ⟨h3, h1, h2, ?_⟩
    intro hm
    obtain ⟨j, hj⟩ := List.mem_iff_getElem?.mp hm
    rw [List.getElem?_take] at hj
    split at hj
    · rename_i hlt
      rw [List.getElem?_drop, get_list s (p + j) (by omega)] at hj
      exact h4 j hlt (Option.some.inj hj)
    · exact absurd hj (by simp)

/-! The range over a text: 'begin' b, at p. -/
def cutB (s : List UInt8) (b p : Nat) : List UInt8 := (s.drop b).take (p - b)
theorem cut_self (s : List UInt8) (b : Nat) : cutB s b b = [] := by simp [cutB]
theorem cutB_len {s : List UInt8} {b p : Nat} (h : b ≤ p) (h' : p ≤ s.length) : (cutB s b p).length = p - b := by
  unfold cutB; rw [List.length_take, List.length_drop]; omega
theorem cut_grow {s : List UInt8} {b p k : Nat} (h : b ≤ p) : cutB s b p ++ (s.drop p).take k = cutB s b (p + k) := by
  unfold cutB
  have e : s.drop p = (s.drop b).drop (p - b) := by rw [List.drop_drop]; congr 1; omega
  rw [e, show p + k - b = (p - b) + k by omega, List.take_add]
theorem rd_pass {s : ByteArray} {b p k : Nat} {f : List I} {bs : List Nat} (h : b ≤ p) (h10 : (10 : UInt8) ∉ (s.data.toList.drop p).take k) :
    rdF (s.data.toList.drop p) (cutB s.data.toList b p) b f bs = rdF (s.data.toList.drop (p + k)) (cutB s.data.toList b (p + k)) b f bs := by
  have e : s.data.toList.drop p = (s.data.toList.drop p).take k ++ s.data.toList.drop (p + k) := by
    rw [← List.drop_drop, List.take_append_drop]
  conv => lhs; rw [e]
  rw [rd_app _ _ _ _ _ _ h10, cut_grow h]
theorem rd_take {s : ByteArray} {b p : Nat} {f : List I} {bs : List Nat} {x : I} (h : b ≤ p) (hp : p < s.size) (h10 : s.data.toList.drop p = 10 :: s.data.toList.drop (p + 1)) (hx : prs (cutB s.data.toList b p) = some x) :
    rdF (s.data.toList.drop p) (cutB s.data.toList b p) b f bs = rdF (s.data.toList.drop (p + 1)) (cutB s.data.toList (p + 1) (p + 1)) (p + 1) (f ++ [x]) (bs ++ [b]) := by
  rw [h10, rd_line hx, cut_self, cutB_len h (by rw [size_list]; omega)]
  congr 1
  omega
theorem rd_leave {s : ByteArray} {b p : Nat} {f : List I} {bs : List Nat} (h10 : s.data.toList.drop p = 10 :: s.data.toList.drop (p + 1)) (hx : prs (cutB s.data.toList b p) = none) :
    rdF (s.data.toList.drop p) (cutB s.data.toList b p) b f bs = (b, f, bs) := by
  rw [h10, rd_stop hx]
theorem rd_end {s : ByteArray} {b p : Nat} {f : List I} {bs : List Nat} {cur : List UInt8} (h : ¬ p < s.size) : rdF (s.data.toList.drop p) cur b f bs = (b, f, bs) := by
  rw [List.drop_of_length_le (by rw [size_list]; omega), rdF]

/-! The reference: lines first. -/
def linesR : List UInt8 → List UInt8 → List (List UInt8)
  | [], cur => if cur = [] then [] else [cur]
  | c :: l, cur => if c = 10 then (cur ++ [10]) :: linesR l [] else linesR l (cur ++ [c])
def linesL (l : List UInt8) : List (List UInt8) := linesR l []
/-- The lines are read: none where one isn't ended or isn't an instruction's, with the place where it begins. -/
def rlF : List (List UInt8) → Nat → List I → List Nat → Option (List I × List Nat) × Nat
  | [], b, f, bs => (some (f, bs), b)
  | ln :: r, b, f, bs =>
    if ln.getD (ln.length - 1) 0 = 10 then
      match prs (ln.take (ln.length - 1)) with
      | some x => rlF r (b + ln.length) (f ++ [x]) (bs ++ [b])
      | none => (none, b)
    else (none, b)
theorem lines_ne : ∀ (l cur : List UInt8), ∀ ln ∈ linesR l cur, ln ≠ []
  | [], cur, ln, h => by
    rw [linesR] at h
    split at h
    · simp at h
    · obtain rfl := List.mem_singleton.mp h
      assumption
  | c :: l, cur, ln, h => by
    rw [linesR] at h
    split at h
    · rcases List.mem_cons.mp h with rfl | h
      · simp
      · exact lines_ne l [] ln h
    · exact lines_ne l _ ln h
theorem lines_len : ∀ (l cur : List UInt8), (linesR l cur).length ≤ l.length + cur.length
  | [], cur => by
    rw [linesR]
    split
    · simp
    · rename_i h
      have := List.length_pos_iff.mpr h
      simp only [List.length_cons, List.length_nil]; omega
  | c :: l, cur => by
    rw [linesR]
    split
    · have := lines_len l []
      simp only [List.length_cons, List.length_nil] at this ⊢; omega
    · have := lines_len l (cur ++ [c])
      simp only [List.length_cons, List.length_append, List.length_nil] at this ⊢; omega
theorem lines_sum : ∀ (l cur : List UInt8), (linesR l cur).flatten = cur ++ l
  | [], cur => by
    rw [linesR]
    split
    · rename_i h; simp [h]
    · simp
  | c :: l, cur => by
    rw [linesR]
    split
    · rename_i h
      rw [List.flatten_cons, lines_sum l []]
      simp [h]
    · rw [lines_sum l (cur ++ [c])]
      simp
/-- Both ways to read come to the same. -/
theorem rl_rd : ∀ (l cur : List UInt8) (b : Nat) (f : List I) (bs : List Nat), (10 : UInt8) ∉ cur →
    ((rdF l cur b f bs).1 = b + cur.length + l.length ∧ rlF (linesR l cur) b f bs = (some (rdF l cur b f bs).2, b + cur.length + l.length)) ∨
    ((rdF l cur b f bs).1 < b + cur.length + l.length ∧ rlF (linesR l cur) b f bs = (none, (rdF l cur b f bs).1))
  | [], cur, b, f, bs, h => by
    rw [linesR, rdF]
    by_cases hc : cur = []
    · left
      rw [if_pos hc, rlF, hc]
      exact ⟨rfl, rfl⟩
    · right
      have hl := List.length_pos_iff.mpr hc
      rw [if_neg hc]
      refine ⟨by simp; omega, ?_⟩
      rw [rlF, if_neg]
      intro e
      apply h
      rw [List.mem_iff_getElem?]
      refine ⟨cur.length - 1, ?_⟩
      rw [← e, List.getD_eq_getElem?_getD, List.getElem?_eq_getElem (by omega)]
      rfl
  | c :: l, cur, b, f, bs, h => by
    rw [linesR]
    by_cases hc : c = 10
    · subst hc
      rw [if_pos rfl]
      have e1 : (cur ++ [10]).getD ((cur ++ [10]).length - 1) (0 : UInt8) = 10 := by simp
      have e2 : (cur ++ [(10 : UInt8)]).take ((cur ++ [(10 : UInt8)]).length - 1) = cur := by simp
      cases hp : prs cur with
      | some x =>
        rw [rd_line hp, rlF, if_pos e1, e2, hp]
        have e3 : (cur ++ [(10 : UInt8)]).length = cur.length + 1 := by simp
        simp only [e3]
        rcases rl_rd l [] (b + (cur.length + 1)) (f ++ [x]) (bs ++ [b]) (by simp) with ⟨h1, h2⟩ | ⟨h1, h2⟩
        · left
          simp only [List.length_nil, List.length_cons] at h1 h2 ⊢
          refine ⟨?_, ?_⟩
          · rw [show b + cur.length + 1 = b + (cur.length + 1) by omega, h1]; omega
          · show rlF (linesR l []) _ _ _ = _
            rw [h2, show b + cur.length + 1 = b + (cur.length + 1) by omega]
            congr 1; omega
        · right
          simp only [List.length_nil, List.length_cons] at h1 h2 ⊢
          refine ⟨?_, ?_⟩
          · rw [show b + cur.length + 1 = b + (cur.length + 1) by omega]; omega
          · show rlF (linesR l []) _ _ _ = _
            rw [h2, show b + cur.length + 1 = b + (cur.length + 1) by omega]
      | none =>
        right
        rw [rd_stop hp, rlF, if_pos e1, e2, hp]
        exact ⟨by simp; omega, rfl⟩
    · rw [if_neg hc, rdF, if_neg hc]
      have := rl_rd l (cur ++ [c]) b f bs (by
        intro hm
        rcases List.mem_append.mp hm with hm | hm
        · exact h hm
        · exact hc (List.mem_singleton.mp hm).symm)
      simp only [List.length_append, List.length_cons, List.length_nil] at this ⊢
      rw [show b + cur.length + (l.length + 1) = b + (cur.length + (0 + 1)) + l.length by omega]
      exact this
end Go.Proofs.Ytomclhbekmcaeaa
namespace Go.Proofs.Ytomclhbekmcaeaa

/-- A heap that has the word of this number. -/
def inB (zs : List Int) (a : Int) : Bool := decide (zs.length ≤ 16 ∧ 0 ≤ a ∧ a < (zs.length : Int))
def hpLd (zs : List Int) (a : Int) : Int := if inB zs a = true then zs.getD a.toNat 0 else 0
def hpHow (zs : List Int) (a : Int) : Int := if inB zs a = true then 0 else 4
def hpSt (zs : List Int) (a v : Int) : List Int := if inB zs a = true then zs.set a.toNat v else []
def eqB (xs ys : List Int) : Bool := decide (xs = ys)

theorem inB_nat {zs : List Int} {a : Int} (h : inB zs a = true) : zs.length ≤ 16 ∧ a = (a.toNat : Int) ∧ a.toNat < zs.length := by
  unfold inB at h
  rw [decide_eq_true_iff] at h
  omega
theorem inB_mk {zs : List Int} {k : Nat} (h1 : zs.length ≤ 16) (h2 : k < zs.length) : inB zs (k : Int) = true := by
  unfold inB
  rw [decide_eq_true_iff]
  omega
theorem inB_none {zs : List Int} {a : Int} (h : ∀ k : Nat, k < zs.length → (k : Int) ≠ a) : inB zs a = false := by
  unfold inB
  rw [decide_eq_false_iff_not]
  rintro ⟨_, h2, h3⟩
  exact h a.toNat (by omega) (by omega)
theorem inB_big {zs : List Int} (a : Int) (h : ¬ zs.length ≤ 16) : inB zs a = false := by
  unfold inB
  rw [decide_eq_false_iff_not]
  rintro ⟨h1, _⟩
  exact h h1
theorem inB_len {xs ys : List Int} (h : xs.length = ys.length) (a : Int) : inB xs a = inB ys a := by unfold inB; rw [h]
theorem hpHow_in {zs : List Int} {a : Int} (h : inB zs a = true) : hpHow zs a = 0 := if_pos h
theorem hpHow_out {zs : List Int} {a : Int} (h : inB zs a = false) : hpHow zs a = 4 := if_neg (by rw [h]; decide)
theorem hpLd_out {zs : List Int} {a : Int} (h : inB zs a = false) : hpLd zs a = 0 := if_neg (by rw [h]; decide)
theorem hpLd_in {zs : List Int} {a : Int} (h : inB zs a = true) : zs[a.toNat]? = some (hpLd zs a) := by
  unfold hpLd
  rw [if_pos h, List.getD_eq_getElem?_getD, List.getElem?_eq_getElem (inB_nat h).2.2]
  rfl
theorem hpSt_out {zs : List Int} {a : Int} (v : Int) (h : inB zs a = false) : hpSt zs a v = [] := if_neg (by rw [h]; decide)
theorem hpSt_in {zs : List Int} {a : Int} (v : Int) (h : inB zs a = true) : hpSt zs a v = zs.set a.toNat v := if_pos h
theorem hpSt_len {zs : List Int} {a : Int} (v : Int) (h : inB zs a = true) : (hpSt zs a v).length = zs.length := by rw [hpSt_in v h, List.length_set]
theorem hpSt_bound (zs : List Int) (a v : Int) : (hpSt zs a v).length ≤ 16 := by
  cases h : inB zs a with
  | false => rw [hpSt_out v h]; simp
  | true => rw [hpSt_len v h]; exact (inB_nat h).1
/-- What was stored is loaded. -/
theorem ld_st {zs : List Int} {a : Int} (v : Int) (h : inB zs a = true) : hpLd (hpSt zs a v) a = v := by
  have h' : inB (hpSt zs a v) a = true := by rw [inB_len (hpSt_len v h)]; exact h
  have := hpLd_in h'
  rw [hpSt_in v h, List.getElem?_set_self (inB_nat h).2.2] at this
  rw [hpSt_in v h]
  exact (Option.some.inj this).symm
/-- All other words stay. -/
theorem ld_other {zs : List Int} {a b : Int} (v : Int) (h : inB zs a = true) (hn : b ≠ a) : hpLd (hpSt zs a v) b = hpLd zs b := by
  have e : inB (hpSt zs a v) b = inB zs b := inB_len (hpSt_len v h) b
  cases hb : inB zs b with
  | false => rw [hpLd_out hb, hpLd_out (by rw [e]; exact hb)]
  | true =>
    have h1 := hpLd_in (e.trans hb)
    have h2 := hpLd_in hb
    rw [hpSt_in v h] at h1 ⊢
    rw [List.getElem?_set_ne (by have := inB_nat h; have := inB_nat hb; omega), h2] at h1
    exact (Option.some.inj h1).symm
theorem how_st {zs : List Int} {a : Int} (v : Int) (h : inB zs a = true) (b : Int) : hpHow (hpSt zs a v) b = hpHow zs b := by
  unfold hpHow
  rw [inB_len (hpSt_len v h)]
/-- To store again there is as to store that alone. -/
theorem st_again {zs : List Int} {a : Int} (v x : Int) (h : inB zs a = true) : hpSt (hpSt zs a v) a x = hpSt zs a x := by
  have h' : inB (hpSt zs a v) a = true := by rw [inB_len (hpSt_len v h)]; exact h
  rw [hpSt_in x h', hpSt_in v h, hpSt_in x h, List.set_set]
/-- At two places: in either order. -/
theorem st_orders {zs : List Int} {a b : Int} (v x : Int) (ha : inB zs a = true) (hb : inB zs b = true) (hn : a ≠ b) : hpSt (hpSt zs a v) b x = hpSt (hpSt zs b x) a v := by
  have h1 : inB (hpSt zs a v) b = true := by rw [inB_len (hpSt_len v ha)]; exact hb
  have h2 : inB (hpSt zs b x) a = true := by rw [inB_len (hpSt_len x hb)]; exact ha
  rw [hpSt_in x h1, hpSt_in v h2, hpSt_in v ha, hpSt_in x hb, List.set_comm]
  have := inB_nat ha
  have := inB_nat hb
  omega
theorem st_self {zs : List Int} {a : Int} (h : inB zs a = true) : hpSt zs a (hpLd zs a) = zs := by
  rw [hpSt_in _ h]
  apply List.ext_getElem?
  intro i
  by_cases hi : i = a.toNat
  · subst hi
    rw [List.getElem?_set_self (inB_nat h).2.2, hpLd_in h]
  · rw [List.getElem?_set_ne (Ne.symm hi)]
theorem eqB_refl (xs : List Int) : eqB xs xs = true := decide_eq_true rfl
theorem eqB_symm (xs ys : List Int) : eqB xs ys = eqB ys xs := by
  unfold eqB
  exact decide_eq_decide.2 ⟨Eq.symm, Eq.symm⟩
theorem eqB_of {xs ys : List Int} (h : eqB xs ys = true) : xs = ys := of_decide_eq_true h
theorem eqB_mk {xs ys : List Int} (h : xs = ys) : eqB xs ys = true := decide_eq_true h
theorem eqB_len {xs ys : List Int} (h : xs.length ≠ ys.length) : eqB xs ys = false := decide_eq_false (fun e => h (congrArg List.length e))
theorem eqB_at {xs ys : List Int} {k : Nat} {x y : Int} (hx : xs[k]? = some x) (hy : ys[k]? = some y) (h : x ≠ y) : eqB xs ys = false :=
  decide_eq_false (fun e => by subst e; rw [hx] at hy; exact h (Option.some.inj hy))
theorem eqB_all {xs ys : List Int} (hl : xs.length = ys.length) (h : ∀ k : Nat, k < xs.length → xs[k]? = ys[k]?) : eqB xs ys = true := by
  refine eqB_mk (List.ext_getElem? fun i => ?_)
  by_cases hi : i < xs.length
  · exact h i hi
  · rw [List.getElem?_eq_none (by omega), List.getElem?_eq_none (by omega)]
end Go.Proofs.Ytomclhbekmcaeaa
namespace Go.Proofs.Ytomclhbekmcaeaa
open Go.RowKit

/-- A word: is it there, and its number. -/
abbrev Wd := Bool × Int
abbrev Ws := Nat → Wd
def wcells (x : Wd) : List Value := [.bool x.1, .int .i64 x.2]
def cellsW (l : Ws) : Array Value := ((List.range 24).flatMap fun i => wcells (l i)).toArray
def updW (l : Ws) (k : Nat) (x : Wd) : Ws := fun i => if i = k then x else l i
theorem flat_len (l : Ws) : ∀ n, ((List.range n).flatMap fun i => wcells (l i)).length = 2 * n
  | 0 => rfl
  | n + 1 => by rw [List.range_succ, List.flatMap_append, List.length_append, flat_len l n]; simp [wcells]; omega
theorem flat_at (l : Ws) : ∀ n k j, k < n → j < 2 → ((List.range n).flatMap fun i => wcells (l i))[2 * k + j]? = (wcells (l k))[j]?
  | 0, k, j, h, _ => absurd h (Nat.not_lt_zero _)
  | n + 1, k, j, h, hj => by
    rw [List.range_succ, List.flatMap_append]
    by_cases hk : k < n
    · rw [List.getElem?_append_left (by rw [flat_len]; omega), flat_at l n k j hk hj]
    · obtain rfl : k = n := by omega
      rw [List.getElem?_append_right (by rw [flat_len]; omega), flat_len]
      rw [show 2 * k + j - 2 * k = j by omega]
      simp
theorem cellsW_size (l : Ws) : (cellsW l).size = 48 := by
  unfold cellsW
  rw [List.size_toArray, flat_len]
theorem cellsW_at (l : Ws) {k j : Nat} (h : k < 24) (hj : j < 2) : (cellsW l)[2 * k + j]? = (wcells (l k))[j]? := by
  unfold cellsW
  rw [List.getElem?_toArray, flat_at l 24 k j h hj]
theorem cellsW_ext {l m : Ws} (h : ∀ i < 24, l i = m i) : cellsW l = cellsW m := by
  unfold cellsW
  congr 1
  rw [List.flatMap_def, List.flatMap_def]
  congr 1
  apply List.map_congr_left
  intro i hi
  rw [h i (List.mem_range.mp hi)]
theorem cellsW_one (l : Ws) : ∀ v ∈ (cellsW l).toList, v.oneCell' = true := by
  intro v hv
  simp only [cellsW, List.mem_flatMap, wcells, List.mem_cons, List.not_mem_nil, or_false] at hv
  obtain ⟨i, _, rfl | rfl⟩ := hv <;> rfl
theorem cellsW_set (l : Ws) {k : Nat} (x : Wd) (h : k < 24) : (cellsW l).toList.take (2 * k) ++ wcells x ++ (cellsW l).toList.drop (2 * k + 2) = (cellsW (updW l k x)).toList := by
  have hz : (cellsW l).toList.length = 48 := by rw [Array.length_toList]; exact cellsW_size l
  have hat : ∀ (m : Ws) (i j : Nat), i < 24 → j < 2 → (cellsW m).toList[2 * i + j]? = (wcells (m i))[j]? := by
    intro m i j hi hj
    rw [Array.getElem?_toList]
    exact cellsW_at m hi hj
  have hlen : (cellsW (updW l k x)).toList.length = 48 := by rw [Array.length_toList]; exact cellsW_size _
  apply List.ext_getElem?
  intro q
  obtain ⟨i, j, hj, rfl⟩ : ∃ i j, j < 2 ∧ q = 2 * i + j := ⟨q / 2, q % 2, by omega, by omega⟩
  by_cases hi : i < 24
  · rw [hat _ i j hi hj]
    by_cases hik : i < k
    · rw [List.append_assoc, List.getElem?_append_left (by simp [hz]; omega), List.getElem?_take, if_pos (by omega), hat l i j hi hj]
      simp [updW, Nat.ne_of_lt hik]
    · rw [List.append_assoc, List.getElem?_append_right (by simp [hz]; omega)]
      rw [List.length_take, hz, Nat.min_eq_left (by omega)]
      by_cases e : i = k
      · subst e
        rw [List.getElem?_append_left (by simp [wcells]; omega)]
        rw [show 2 * i + j - 2 * i = j by omega]
        simp [updW]
      · rw [List.getElem?_append_right (by simp [wcells]; omega), List.getElem?_drop]
        rw [show 2 * k + 2 + (2 * i + j - 2 * k - (wcells x).length) = 2 * i + j by simp [wcells]; omega]
        rw [hat l i j hi hj]
        simp [updW, e]
  · rw [List.getElem?_eq_none (by simp [hz, wcells]; omega), List.getElem?_eq_none (by omega)]
end Go.Proofs.Ytomclhbekmcaeaa
namespace Go.Proofs.Ytomclhbekmcaeaa
open Go.RowKit

def doV (op a b : Int) : Int :=
  if op = 4 then wrap64 (a + b) else if op = 5 then wrap64 (a - b) else if op = 6 then wrap64 (a * b)
  else if op = 7 then (if b = 0 then 0 else wrap64 (a.tdiv b))
  else if op = 8 then bits .and .i64 a b else if op = 9 then bits .or .i64 a b else if op = 10 then bits .xor .i64 a b
  else if op = 11 then (if a < b then 1 else 0) else if op = 12 then (if a = b then 1 else 0) else 0
def doH (op b : Int) : Int := if op < 4 ∨ 12 < op then 2 else if op = 7 ∧ b = 0 then 3 else 0
def hasB (op : Int) : Bool := decide (4 ≤ op ∧ op ≤ 12)
theorem wrap64_toInt (n : Int) : wrap64 n = (BitVec.ofInt 64 n).toInt := by
  rw [BitVec.toInt_ofInt, Int.bmod_def]; unfold wrap64; split <;> omega
theorem wrapNat_toInt (x : BitVec 64) : IntKind.i64.wrap (x.toNat : Int) = x.toInt := by
  rw [IntKind.wrap_i64, BitVec.toInt_eq_toNat_cond]; have := x.isLt; split <;> omega
theorem bits_and_toInt (a b : Int) : bits .and .i64 a b = (BitVec.ofInt 64 a &&& BitVec.ofInt 64 b).toInt := wrapNat_toInt _
theorem bits_or_toInt (a b : Int) : bits .or .i64 a b = (BitVec.ofInt 64 a ||| BitVec.ofInt 64 b).toInt := wrapNat_toInt _
theorem bits_xor_toInt (a b : Int) : bits .xor .i64 a b = (BitVec.ofInt 64 a ^^^ BitVec.ofInt 64 b).toInt := wrapNat_toInt _
theorem ofInt_toInt (x : BitVec 64) : BitVec.ofInt 64 x.toInt = x := BitVec.ofInt_toInt
theorem bits_in (op : BinOp) (a b : Int) : In64 (bits op .i64 a b) := by
  unfold bits; simp only; rw [IntKind.wrap_i64]; unfold In64; omega
theorem wrap64_sub (x y : BitVec 64) : wrap64 (x.toInt - y.toInt) = (x - y).toInt := by
  rw [wrap64_toInt, Int.sub_eq_add_neg, BitVec.ofInt_add, BitVec.ofInt_neg, ofInt_toInt, ofInt_toInt, BitVec.sub_eq_add_neg]
theorem or_sub_and (x y : BitVec 64) : (x ||| y) - (x &&& y) = x ^^^ y := by
  have h : (x ^^^ y) + (x &&& y) = x ||| y := by
    have h0 : (x ^^^ y) &&& (x &&& y) = 0#64 := by
      ext i hi; simp only [BitVec.getElem_and, BitVec.getElem_xor, BitVec.getElem_zero]; cases x[i] <;> cases y[i] <;> rfl
    rw [BitVec.add_eq_or_of_and_eq_zero _ _ h0]
    ext i hi; simp only [BitVec.getElem_and, BitVec.getElem_xor, BitVec.getElem_or]; cases x[i] <;> cases y[i] <;> rfl
  rw [← h, BitVec.add_sub_cancel]
theorem ref_sub (a b : Int) : wrap64 (a + wrap64 (-b)) = wrap64 (a - b) := by unfold wrap64; omega
theorem ref_xor (a b : Int) : wrap64 (bits .or .i64 a b - bits .and .i64 a b) = bits .xor .i64 a b := by
  rw [bits_and_toInt, bits_or_toInt, bits_xor_toInt, wrap64_sub, or_sub_and]
theorem ref_div (a : Int) : wrap64 (-a) = wrap64 (a.tdiv (-1)) := by simp [Int.tdiv_neg]
theorem wrap64_any (n : Int) : In64 (wrap64 n) := by unfold In64 wrap64; omega
theorem doV_in (op a b : Int) : In64 (doV op a b) := by
  unfold doV
  repeat (first | exact wrap64_any _ | exact bits_in _ _ _ | (unfold In64; omega) | split)
end Go.Proofs.Ytomclhbekmcaeaa
namespace Go.Proofs.Ytomclhbekmcaeaa
open Go.RowKit

/-- A machine's state. -/
structure Mc where
  l : Ws
  h : List Int
  p : Int
  q : Int
/-- An event: N, Arg, Answer. -/
abbrev Ev := Int × Int × Int
def wdB (x : Wd) : Bool := x.1 || decide (x.2 = 0)
def wordsB (l : Ws) : Bool := (List.range 24).all fun i => wdB (l i)
theorem words_at {l : Ws} (h : wordsB l = true) {i : Nat} (hi : i < 24) : wdB (l i) = true := (List.all_eq_true.mp h) i (List.mem_range.mpr hi)
theorem words_mk {l : Ws} (h : ∀ i < 24, wdB (l i) = true) : wordsB l = true := List.all_eq_true.mpr fun i hi => h i (List.mem_range.mp hi)
theorem words_no {l : Ws} {i : Nat} (hi : i < 24) (h : wdB (l i) = false) : wordsB l = false := by
  rw [Bool.eq_false_iff]
  intro e
  rw [words_at e hi] at h
  cases h
/-- Which states are right for a function. -/
def mcB (f : List I) (s : Mc) : Bool := decide ((chkF f).2 = 0 ∧ 0 ≤ s.p ∧ s.p < f.length ∧ s.h.length ≤ 16 ∧ 0 ≤ s.q ∧ wordsB s.l = true)
theorem mc_iff {f : List I} {s : Mc} : mcB f s = true ↔ (chkF f).2 = 0 ∧ 0 ≤ s.p ∧ s.p < f.length ∧ s.h.length ≤ 16 ∧ 0 ≤ s.q ∧ wordsB s.l = true := by
  unfold mcB
  rw [decide_eq_true_iff]
theorem mc_not {f : List I} {s : Mc} (h : ¬ ((chkF f).2 = 0 ∧ 0 ≤ s.p ∧ s.p < f.length ∧ s.h.length ≤ 16 ∧ 0 ≤ s.q ∧ wordsB s.l = true)) : mcB f s = false := decide_eq_false h
def noI : I := ⟨0, 0, 0, 0, 0, 0⟩
def insA (f : List I) (p : Int) : I := f.getD p.toNat noI
theorem insA_get {f : List I} {p : Int} (_h0 : 0 ≤ p) (h : p < f.length) : insA f p = f[p.toNat]'(by omega) := by
  unfold insA
  rw [List.getD_eq_getElem?_getD, List.getElem?_eq_getElem (by omega)]
  rfl
/-- What is known of an instruction that is right. -/
structure Ri (x : I) (n : Int) : Prop where
  o1 : 1 ≤ x.op
  o2 : x.op ≤ 18
  d0 : 0 ≤ x.d
  d1 : x.d < 24
  a0 : 0 ≤ x.a
  a1 : x.a < 24
  b0 : 0 ≤ x.b
  b1 : x.b < 24
  t0 : x.op = 16 ∨ x.op = 17 → 0 ≤ x.t ∧ x.t < n
theorem spare_letters {x : I} (h1 : knownB x.op = true) (h2 : spareB x = false) :
    (x.d = 0 ∨ (100 : Int) ∈ letters x.op ∨ (68 : Int) ∈ letters x.op) ∧ (x.a = 0 ∨ (97 : Int) ∈ letters x.op ∨ (65 : Int) ∈ letters x.op) ∧ (x.b = 0 ∨ (66 : Int) ∈ letters x.op) := by
  have h := put_vals h1 h2
  rcases letters_of h1 with e | e | e | e | e | e | e | e | e <;> rw [e] at h ⊢ <;> rw [← h] <;> simp [putAll, valsOf, withV, zeroI]
theorem fault_place {c v n : Int} (hc : c = 100 ∨ c = 97 ∨ c = 68 ∨ c = 65 ∨ c = 66) (h : faultV c v n = 0) : 0 ≤ v ∧ v < 24 := by
  unfold faultV at h
  split at h
  · split at h <;> omega
  · rw [if_pos (by omega)] at h
    split at h <;> omega
theorem ri_of {x : I} {n : Int} (h : chkV x n = 0) : Ri x n := by
  obtain ⟨h1, h2, h3⟩ := chk_zero h
  have hk := known_iff.mp h1
  obtain ⟨hd, ha, hb⟩ := spare_letters h1 h2
  have hD : 0 ≤ x.d ∧ x.d < 24 := by
    rcases hd with e | m | m
    · omega
    · exact fault_place (c := 100) (n := n) (by omega) (h3 100 m)
    · exact fault_place (c := 68) (n := n) (by omega) (h3 68 m)
  have hA : 0 ≤ x.a ∧ x.a < 24 := by
    rcases ha with e | m | m
    · omega
    · exact fault_place (c := 97) (n := n) (by omega) (h3 97 m)
    · exact fault_place (c := 65) (n := n) (by omega) (h3 65 m)
  have hB : 0 ≤ x.b ∧ x.b < 24 := by
    rcases hb with e | m
    · omega
    · exact fault_place (c := 66) (n := n) (by omega) (h3 66 m)
  refine ⟨hk.1, hk.2, hD.1, hD.2, hA.1, hA.2, hB.1, hB.2, fun ht => ?_⟩
  have hm : (84 : Int) ∈ letters x.op := by
    rcases ht with e | e <;> rw [e] <;> decide +kernel
  have := h3 84 hm
  have e : fieldV x 84 = x.t := rfl
  rw [e] at this
  have hf : (if x.t < 0 ∨ n ≤ x.t then (4 : Int) else 0) = 0 := this
  split at hf
  · omega
  · omega
theorem ri_at {f : List I} {s : Mc} (h : mcB f s = true) : Ri (insA f s.p) f.length := by
  have h' := mc_iff.mp h
  have hr := right_iff.mp h'.1
  refine ri_of ?_
  rw [insA_get h'.2.1 h'.2.2.1]
  exact hr.2.2.1 _ (List.getElem_mem _)
/-- Have all places a number that an instruction needs? -/
def knwB (x : I) (l : Ws) : Bool := (usesL x).all fun k => (l k.toNat).1
/-- What an instruction makes of a state, its event, and how it stands, if all that it needs is known. -/
def flw (x : I) (s : Mc) (az : List Int) : Mc × List Ev × Int :=
  if x.op = 1 then (⟨updW s.l x.d.toNat (true, x.n), s.h, s.p + 1, s.q⟩, [], 0)
  else if x.op = 2 then (⟨updW s.l x.d.toNat (s.l x.a.toNat), s.h, s.p + 1, s.q⟩, [], 0)
  else if x.op = 3 then (⟨updW (updW s.l x.a.toNat (s.l x.d.toNat)) x.d.toNat (s.l x.a.toNat), s.h, s.p + 1, s.q⟩, [], 0)
  else if x.op = 13 then (⟨updW s.l x.d.toNat (true, hpLd s.h (s.l x.a.toNat).2), s.h, s.p + 1, s.q⟩, [], hpHow s.h (s.l x.a.toNat).2)
  else if x.op = 14 then (⟨s.l, hpSt s.h (s.l x.a.toNat).2 (s.l x.b.toNat).2, s.p + 1, s.q⟩, [], hpHow s.h (s.l x.a.toNat).2)
  else if x.op = 15 then (if (az.length : Int) ≤ s.q then (⟨s.l, s.h, s.p + 1, s.q⟩, [], 5)
    else (⟨updW s.l x.d.toNat (true, az.getD s.q.toNat 0), s.h, s.p + 1, s.q + 1⟩, [(x.n, (s.l x.a.toNat).2, az.getD s.q.toNat 0)], 0))
  else if x.op = 16 then (⟨s.l, s.h, x.t, s.q⟩, [], 0)
  else if x.op = 17 then (if (s.l x.a.toNat).2 = 0 then (⟨s.l, s.h, x.t, s.q⟩, [], 0) else (⟨s.l, s.h, s.p + 1, s.q⟩, [], 0))
  else if x.op = 18 then (⟨s.l, s.h, s.p + 1, s.q⟩, [], 1)
  else (⟨updW s.l x.d.toNat (true, doV x.op (s.l x.a.toNat).2 (s.l x.b.toNat).2), s.h, s.p + 1, s.q⟩, [], doH x.op (s.l x.b.toNat).2)
/-- A step: the state, the events, how it stands, its value, its heap. -/
structure Tl where
  s : Mc
  ev : List Ev
  how : Int
  val : Int
  hp : List Int
def stp (f : List I) (s : Mc) (az : List Int) : Tl :=
  if knwB (insA f s.p) s.l = false then ⟨s, [], 2, 0, []⟩
  else if (flw (insA f s.p) s az).2.2 = 0 then ⟨(flw (insA f s.p) s az).1, (flw (insA f s.p) s az).2.1, 0, 0, []⟩
  else if (flw (insA f s.p) s az).2.2 = 1 then ⟨s, [], 1, (s.l (insA f s.p).a.toNat).2, s.h⟩
  else ⟨s, [], (flw (insA f s.p) s az).2.2, 0, []⟩
theorem hpHow_cases (zs : List Int) (a : Int) : (hpHow zs a = 0 ∧ inB zs a = true) ∨ (hpHow zs a = 4 ∧ inB zs a = false) := by
  cases h : inB zs a with
  | true => exact .inl ⟨hpHow_in h, rfl⟩
  | false => exact .inr ⟨hpHow_out h, rfl⟩
theorem doH_cases {op b : Int} (h : 4 ≤ op ∧ op ≤ 12) : doH op b = 0 ∨ doH op b = 3 := by
  unfold doH
  rw [if_neg (by omega)]
  split
  · exact .inr rfl
  · exact .inl rfl
end Go.Proofs.Ytomclhbekmcaeaa
namespace Go.Proofs.Ytomclhbekmcaeaa
open Go.RowKit

theorem word_upd {l : Ws} (h : wordsB l = true) (k : Nat) {x : Wd} (hx : wdB x = true) : wordsB (updW l k x) = true := by
  refine words_mk fun i hi => ?_
  unfold updW
  split
  · exact hx
  · exact words_at h hi
theorem flw_how {x : I} {n : Int} (h : Ri x n) (s : Mc) (az : List Int) : (flw x s az).2.2 = 0 ∨ (flw x s az).2.2 = 1 ∨ (flw x s az).2.2 = 3 ∨ (flw x s az).2.2 = 4 ∨ (flw x s az).2.2 = 5 := by
  have h1 := h.o1
  have h2 := h.o2
  unfold flw
  repeat' split
  all_goals first
    | (left; rfl)
    | (right; left; rfl)
    | (right; right; right; right; rfl)
    | (rcases hpHow_cases s.h (s.l x.a.toNat).2 with ⟨e, _⟩ | ⟨e, _⟩ <;> simp [e]; done)
    | (rcases doH_cases (op := x.op) (b := (s.l x.b.toNat).2) (by omega) with e | e <;> simp [e]; done)
theorem flw_ev (x : I) (s : Mc) (az : List Int) : (flw x s az).2.1.length ≤ 1 := by
  unfold flw
  repeat' split
  all_goals simp
theorem flw_words {x : I} {n : Int} (h : Ri x n) {s : Mc} (az : List Int) (hw : wordsB s.l = true) : wordsB (flw x s az).1.l = true := by
  have ha := words_at hw (i := x.a.toNat) (by have := h.a0; have := h.a1; omega)
  have hd := words_at hw (i := x.d.toNat) (by have := h.d0; have := h.d1; omega)
  unfold flw
  repeat' split
  all_goals first
    | exact hw
    | exact word_upd hw _ rfl
    | exact word_upd hw _ ha
    | exact word_upd (word_upd hw _ hd) _ ha
theorem flw_len {x : I} {s : Mc} {az : List Int} (h : (flw x s az).2.2 = 0) : (flw x s az).1.h.length = s.h.length := by
  unfold flw at h ⊢
  repeat' split
  all_goals first
    | rfl
    | (rename_i h1 h2 h3 h4 h5
       rw [if_neg h1, if_neg h2, if_neg h3, if_neg h4, if_pos h5] at h
       rcases hpHow_cases s.h (s.l x.a.toNat).2 with ⟨_, e⟩ | ⟨e, _⟩
       · exact hpSt_len _ e
       · simp [e] at h)
theorem flw_q (x : I) (s : Mc) (az : List Int) : s.q ≤ (flw x s az).1.q := by
  unfold flw
  repeat' split
  all_goals simp
  all_goals omega
theorem last_getD {f : List I} (_h : f.length ≠ 0) {k : Nat} (hk : k + 1 = f.length) : lastI f = f[k]'(by omega) := by
  unfold lastI
  rw [List.getD_eq_getElem?_getD, List.getElem?_eq_getElem (by omega)]
  simp only [Option.getD_some]
  congr 1
  omega
/-- Behind an instruction that is no end there is another one. -/
theorem not_last {f : List I} {s : Mc} (h : mcB f s = true) (h16 : (insA f s.p).op ≠ 16) (h18 : (insA f s.p).op ≠ 18) : s.p + 1 < f.length := by
  obtain ⟨h1, h2, h3, _⟩ := mc_iff.mp h
  obtain ⟨_, h5, _, h7⟩ := right_iff.mp h1
  rcases Int.lt_or_eq_of_le (show s.p + 1 ≤ f.length by omega) with hl | he
  · exact hl
  · exfalso
    rw [last_getD (k := s.p.toNat) h5 (by omega)] at h7
    rw [insA_get h2 h3] at h16 h18
    have h7 := of_decide_eq_true h7
    rcases h7 with e | e
    · exact h16 e
    · exact h18 e
theorem flw_p {f : List I} {s : Mc} (h : mcB f s = true) {az : List Int} (h0 : (flw (insA f s.p) s az).2.2 = 0) : 0 ≤ (flw (insA f s.p) s az).1.p ∧ (flw (insA f s.p) s az).1.p < f.length := by
  have hr := ri_at h
  have hn := not_last h
  have hp := (mc_iff.mp h).2.1
  generalize insA f s.p = x at *
  have ht := hr.t0
  by_cases e16 : x.op = 16
  · have : flw x s az = (⟨s.l, s.h, x.t, s.q⟩, [], 0) := by simp [flw, e16]
    rw [this]
    exact ht (.inl e16)
  · by_cases e18 : x.op = 18
    · have : flw x s az = (⟨s.l, s.h, s.p + 1, s.q⟩, [], 1) := by simp [flw, e18]
      rw [this] at h0
      simp at h0
    · have hn := hn e16 e18
      have hs : 0 ≤ s.p + 1 ∧ s.p + 1 < f.length := by omega
      by_cases e17 : x.op = 17
      · have : flw x s az = (if (s.l x.a.toNat).2 = 0 then (⟨s.l, s.h, x.t, s.q⟩, [], 0) else (⟨s.l, s.h, s.p + 1, s.q⟩, [], 0)) := by simp [flw, e17]
        rw [this]
        split
        · exact ht (.inr e17)
        · exact hs
      · have : (flw x s az).1.p = s.p + 1 := by
          unfold flw
          repeat' split
          all_goals first | rfl | (exfalso; omega)
        rw [this]
        exact hs
/-- What a step that goes on makes of a state is right again. -/
theorem stp_right {f : List I} {s : Mc} {az : List Int} (h : mcB f s = true) (h0 : (stp f s az).how = 0) : mcB f (stp f s az).s = true := by
  have hr := ri_at h
  have hm := mc_iff.mp h
  have hp := flw_p h (az := az)
  unfold stp at h0 ⊢
  split at h0
  · cases h0
  · rename_i hk
    rw [if_neg hk]
    split at h0
    · rename_i e
      rw [if_pos e]
      exact mc_iff.mpr ⟨hm.1, (hp e).1, (hp e).2, by rw [flw_len e]; exact hm.2.2.2.1, Int.le_trans hm.2.2.2.2.1 (flw_q _ _ _), flw_words hr az hm.2.2.2.2.2⟩
    · rename_i e
      split at h0
      · cases h0
      · exact absurd h0 e
/-- What one that ends makes of it is that state. -/
theorem stp_ends {f : List I} {s : Mc} {az : List Int} (h : mcB f s = true) (h0 : (stp f s az).how ≠ 0) : (stp f s az).s = s ∧ (stp f s az).ev = [] ∧ 1 ≤ (stp f s az).how ∧ (stp f s az).how ≤ 5 := by
  have hw := flw_how (ri_at h) s az
  unfold stp at h0 ⊢
  split at h0
  · rename_i hk
    rw [if_pos hk]
    exact ⟨rfl, rfl, by simp, by simp⟩
  · rename_i hk
    rw [if_neg hk]
    split at h0
    · exact absurd rfl h0
    · rename_i e
      rw [if_neg e]
      split at h0
      · rename_i e1
        rw [if_pos e1]
        exact ⟨rfl, rfl, by simp, by simp⟩
      · rename_i e1
        rw [if_neg e1]
        refine ⟨rfl, rfl, ?_, ?_⟩
        · show 1 ≤ (flw (insA f s.p) s az).2.2
          omega
        · show (flw (insA f s.p) s az).2.2 ≤ 5
          omega
theorem stp_ev {f : List I} {s : Mc} {az : List Int} : (stp f s az).ev.length ≤ 1 := by
  unfold stp
  repeat' split
  all_goals first | exact flw_ev _ _ _ | simp
theorem knw_moves {x : I} (h : movesB x.op = true) (l : Ws) : knwB x l = true := by
  have h := of_decide_eq_true h
  unfold knwB
  rw [uses_class]
  have : usesQ x.op = 0 := by unfold usesQ; rw [if_neg (by omega), if_neg (by omega)]
  rw [this]
  rfl
theorem flw_moves {x : I} (h : movesB x.op = true) (s : Mc) (az : List Int) : (flw x s az).2.2 = 0 ∧ (flw x s az).2.1 = [] ∧ (flw x s az).1.h = s.h ∧ (flw x s az).1.q = s.q := by
  have h := of_decide_eq_true h
  unfold flw
  repeat' split
  all_goals first | exact ⟨rfl, rfl, rfl, rfl⟩ | (exfalso; omega)
/-- What only moves makes no event, changes no heap, never ends. -/
theorem stp_moves {f : List I} {s : Mc} (h : movesB (insA f s.p).op = true) (az : List Int) : (stp f s az).how = 0 ∧ (stp f s az).ev = [] ∧ (stp f s az).s.h = s.h ∧ (stp f s az).s.q = s.q := by
  obtain ⟨h1, h2, h3, h4⟩ := flw_moves h s az
  unfold stp
  rw [if_neg (by rw [knw_moves h]; decide), if_pos h1]
  exact ⟨rfl, h2, h3, h4⟩
/-- The heap: as many words; only a Store changes one. -/
theorem flw_heap {x : I} {s : Mc} {az : List Int} (h : (flw x s az).2.2 = 0) : (flw x s az).1.h = s.h ∨ (x.op = 14 ∧ ∃ k v, (flw x s az).1.h = s.h.set k v) := by
  by_cases h5 : x.op = 14
  · have E : flw x s az = (⟨s.l, hpSt s.h (s.l x.a.toNat).2 (s.l x.b.toNat).2, s.p + 1, s.q⟩, [], hpHow s.h (s.l x.a.toNat).2) := by simp [flw, h5]
    rw [E] at h ⊢
    rcases hpHow_cases s.h (s.l x.a.toNat).2 with ⟨_, e⟩ | ⟨e, _⟩
    · exact .inr ⟨h5, _, _, hpSt_in _ e⟩
    · simp [e] at h
  · left
    unfold flw
    repeat' split
    all_goals first | rfl | (exfalso; omega)
theorem stp_heap {f : List I} {s : Mc} {az : List Int} (h : mcB f s = true) : (stp f s az).s.h = s.h ∨ ((insA f s.p).op = 14 ∧ ∃ k v, (stp f s az).s.h = s.h.set k v) := by
  by_cases h0 : (stp f s az).how = 0
  · unfold stp at h0 ⊢
    split at h0
    · cases h0
    · rename_i hk
      rw [if_neg hk]
      split at h0
      · rename_i e
        rw [if_pos e]
        exact flw_heap e
      · rename_i e
        split at h0
        · cases h0
        · exact absurd h0 e
  · rw [(stp_ends h h0).1]
    exact .inl rfl
/-- Answers behind the one that is next make no difference. -/
theorem flw_more {x : I} {s : Mc} {az bz : List Int} (hq : 0 ≤ s.q) (h : (flw x s az).2.2 ≠ 5) : flw x s (az ++ bz) = flw x s az := by
  by_cases e15 : x.op = 15
  · have E : ∀ cz, flw x s cz = (if (cz.length : Int) ≤ s.q then (⟨s.l, s.h, s.p + 1, s.q⟩, [], 5)
      else (⟨updW s.l x.d.toNat (true, cz.getD s.q.toNat 0), s.h, s.p + 1, s.q + 1⟩, [(x.n, (s.l x.a.toNat).2, cz.getD s.q.toNat 0)], 0)) := fun cz => by simp [flw, e15]
    rw [E] at h
    split at h
    · exact absurd rfl h
    · rename_i hl
      rw [E, E, if_neg hl, if_neg (by rw [List.length_append]; omega)]
      have : (az ++ bz).getD s.q.toNat 0 = az.getD s.q.toNat 0 := by
        rw [List.getD_eq_getElem?_getD, List.getD_eq_getElem?_getD, List.getElem?_append_left (by omega)]
      rw [this]
  · unfold flw
    simp only [if_neg e15]
theorem stp_more {f : List I} {s : Mc} {az bz : List Int} (h : mcB f s = true) (h5 : (stp f s az).how ≠ 5) : stp f s (az ++ bz) = stp f s az := by
  have hq := (mc_iff.mp h).2.2.2.2.1
  by_cases hk : knwB (insA f s.p) s.l = false
  · unfold stp
    rw [if_pos hk, if_pos hk]
  · have hf : (flw (insA f s.p) s az).2.2 ≠ 5 := by
      intro e
      apply h5
      unfold stp
      rw [if_neg hk, if_neg (by rw [e]; decide), if_neg (by rw [e]; decide)]
      exact e
    unfold stp
    rw [flw_more hq hf]
/-- What an instruction does not name stays, and makes no difference. -/
theorem upd_comm {l : Ws} {k j : Nat} (h : k ≠ j) (x y : Wd) : updW (updW l k x) j y = updW (updW l j y) k x := by
  funext i
  unfold updW
  by_cases h1 : i = j
  · subst h1
    simp [Ne.symm h]
  · by_cases h2 : i = k
    · subst h2; simp [h1]
    · simp [h1, h2]
theorem upd_get {l : Ws} {k j : Nat} (h : k ≠ j) (x : Wd) : updW l k x j = l j := if_neg (Ne.symm h)
theorem upd_here {l : Ws} {k : Nat} (x : Wd) : updW l k x k = x := if_pos rfl
def putL (s : Mc) (j : Nat) (w : Wd) : Mc := ⟨updW s.l j w, s.h, s.p, s.q⟩
theorem flw_put {x : I} {j : Nat} (hd : x.d.toNat ≠ j) (ha : x.a.toNat ≠ j) (hb : x.b.toNat ≠ j) (s : Mc) (w : Wd) (az : List Int) :
    flw x (putL s j w) az = (putL (flw x s az).1 j w, (flw x s az).2) ∧ (flw x s az).1.l j = s.l j := by
  have ga : (putL s j w).l x.a.toNat = s.l x.a.toNat := upd_get (Ne.symm ha) w
  have gb : (putL s j w).l x.b.toNat = s.l x.b.toNat := upd_get (Ne.symm hb) w
  have gd : (putL s j w).l x.d.toNat = s.l x.d.toNat := upd_get (Ne.symm hd) w
  have hh : (putL s j w).h = s.h := rfl
  have hp : (putL s j w).p = s.p := rfl
  have hq : (putL s j w).q = s.q := rfl
  have u1 : ∀ v, updW (putL s j w).l x.d.toNat v = updW (updW s.l x.d.toNat v) j w := fun v => upd_comm (Ne.symm hd) w v
  have u2 : ∀ u v, updW (updW (putL s j w).l x.a.toNat u) x.d.toNat v = updW (updW (updW s.l x.a.toNat u) x.d.toNat v) j w := fun u v => by
    show updW (updW (updW s.l j w) x.a.toNat u) x.d.toNat v = _
    rw [upd_comm (Ne.symm ha), upd_comm (Ne.symm hd)]
  have A1 : (flw x s az).1.l j = s.l j := by
    unfold flw
    repeat' split
    all_goals first
      | rfl
      | exact upd_get hd _
      | exact (upd_get hd _).trans (upd_get ha _)
  refine ⟨?_, A1⟩
  unfold flw
  rw [ga, gb, gd, hh, hp, hq]
  simp only [u1, u2]
  by_cases h1 : x.op = 1
  · simp only [if_pos h1]
    rfl
  simp only [if_neg h1]
  by_cases h2 : x.op = 2
  · simp only [if_pos h2]
    rfl
  simp only [if_neg h2]
  by_cases h3 : x.op = 3
  · simp only [if_pos h3]
    rfl
  simp only [if_neg h3]
  by_cases h13 : x.op = 13
  · simp only [if_pos h13]
    rfl
  simp only [if_neg h13]
  by_cases h14 : x.op = 14
  · simp only [if_pos h14]
    rfl
  simp only [if_neg h14]
  by_cases h15 : x.op = 15
  · simp only [if_pos h15]
    split <;> rfl
  simp only [if_neg h15]
  by_cases h16 : x.op = 16
  · simp only [if_pos h16]
    rfl
  simp only [if_neg h16]
  by_cases h17 : x.op = 17
  · simp only [if_pos h17]
    split <;> rfl
  simp only [if_neg h17]
  by_cases h18 : x.op = 18
  · simp only [if_pos h18]
    rfl
  simp only [if_neg h18]
  rfl
theorem knw_put {x : I} {j : Nat} (ha : x.a.toNat ≠ j) (hb : x.b.toNat ≠ j) (l : Ws) (w : Wd) : knwB x (updW l j w) = knwB x l := by
  unfold knwB
  rw [uses_class]
  split
  · simp [upd_get (Ne.symm ha), upd_get (Ne.symm hb)]
  · split
    · simp [upd_get (Ne.symm ha)]
    · rfl
theorem stp_put {f : List I} {s : Mc} {j : Nat} (hd : (insA f s.p).d.toNat ≠ j) (ha : (insA f s.p).a.toNat ≠ j) (hb : (insA f s.p).b.toNat ≠ j) (w : Wd) (az : List Int) :
    (stp f (putL s j w) az).s = putL (stp f s az).s j w ∧ (stp f s az).s.l j = s.l j := by
  obtain ⟨h1, h2⟩ := flw_put hd ha hb s w az
  have hk : knwB (insA f s.p) (putL s j w).l = knwB (insA f s.p) s.l := knw_put ha hb s.l w
  have hi : insA f (putL s j w).p = insA f s.p := rfl
  unfold stp
  rw [hi, hk, h1]
  repeat' split
  all_goals first
    | exact ⟨rfl, rfl⟩
    | exact ⟨rfl, h2⟩
theorem put_right {f : List I} {s : Mc} {j : Nat} {w : Wd} (h : mcB f s = true) (hw : wdB w = true) : mcB f (putL s j w) = true := by
  have hm := mc_iff.mp h
  exact mc_iff.mpr ⟨hm.1, hm.2.1, hm.2.2.1, hm.2.2.2.1, hm.2.2.2.2.1, word_upd hm.2.2.2.2.2 j hw⟩
theorem put_back (l : Ws) (j : Nat) (w : Wd) : updW (updW l j w) j (l j) = l := by
  funext i
  unfold updW
  by_cases h : i = j
  · subst h; simp
  · simp [h]
end Go.Proofs.Ytomclhbekmcaeaa
namespace Go.Proofs.Ytomclhbekmcaeaa
open Go.RowKit

/-- A trace: events, how it stands, its value, its heap, steps, work. -/
structure Tr where
  ev : List Ev
  how : Int
  val : Int
  hp : List Int
  st : Int
  wk : Int
def wk1 (x : I) : Int := if movesB x.op = true then 0 else 1
def noTr : Tr := ⟨[], 0, 0, [], 0, 0⟩
/-- A trace with a step more. -/
def oneT (t : Tr) (r : Tl) (x : I) : Tr := ⟨t.ev ++ r.ev, r.how, r.val, r.hp, t.st + 1, t.wk + wk1 x⟩
/-- So many steps more. -/
def onR (f : List I) (az : List Int) : Nat → Mc → Tr → Tr × Mc
  | 0, m, t => (t, m)
  | k + 1, m, t => if t.how = 0 then onR f az k (stp f m az).s (oneT t (stp f m az) (insA f m.p)) else (t, m)
theorem onR_ended {f : List I} {az : List Int} {t : Tr} (h : t.how ≠ 0) (m : Mc) : ∀ k, onR f az k m t = (t, m)
  | 0 => rfl
  | k + 1 => by unfold onR; rw [if_neg h]
theorem onR_step {f : List I} {az : List Int} {t : Tr} (h : t.how = 0) (m : Mc) (k : Nat) : onR f az (k + 1) m t = onR f az k (stp f m az).s (oneT t (stp f m az) (insA f m.p)) := by
  rw [onR, if_pos h]
theorem onR_add {f : List I} {az : List Int} (b : Nat) : ∀ (a : Nat) (m : Mc) (t : Tr), onR f az (a + b) m t = onR f az b (onR f az a m t).2 (onR f az a m t).1
  | 0, m, t => by rw [Nat.zero_add]; rfl
  | a + 1, m, t => by
    by_cases h : t.how = 0
    · rw [show a + 1 + b = (a + b) + 1 by omega, onR_step h, onR_step h, onR_add b a]
    · rw [onR_ended h, onR_ended h, onR_ended h]
theorem wk1_bound (x : I) : 0 ≤ wk1 x ∧ wk1 x ≤ 1 := by
  unfold wk1
  split <;> omega
/-- What holds of a run: bounds. -/
structure Rn (f : List I) (az : List Int) (n : Nat) (m : Mc) (t : Tr) (k : Nat) (t' : Tr) (m' : Mc) : Prop where
  right : mcB f m' = true
  len : m'.h.length = n
  pre : ∃ es, t'.ev = t.ev ++ es
  st1 : t.st ≤ t'.st
  st2 : t'.st ≤ t.st + k
  goes : t'.how = 0 → t'.st = t.st + k
  wk1 : t.wk ≤ t'.wk
  wk2 : t'.wk - t.wk ≤ t'.st - t.st
  hp : t'.hp.length ≤ 16
  evl : t'.ev.length ≤ t.ev.length + k
  how : 0 ≤ t'.how ∧ t'.how ≤ 5
theorem stp_len {f : List I} {s : Mc} {az : List Int} (h : mcB f s = true) : (stp f s az).s.h.length = s.h.length := by
  rcases stp_heap (az := az) h with e | ⟨_, k, v, e⟩ <;> rw [e]
  rw [List.length_set]
theorem stp_hp {f : List I} {s : Mc} {az : List Int} (h : mcB f s = true) : (stp f s az).hp.length ≤ 16 := by
  have h16 := (mc_iff.mp h).2.2.2.1
  unfold stp
  repeat' split
  all_goals simp
  exact h16
theorem stp_keeps {f : List I} {s : Mc} {az : List Int} (h : mcB f s = true) : mcB f (stp f s az).s = true := by
  by_cases e : (stp f s az).how = 0
  · exact stp_right h e
  · rw [(stp_ends h e).1]
    exact h
theorem stp_how {f : List I} {s : Mc} {az : List Int} (h : mcB f s = true) : 0 ≤ (stp f s az).how ∧ (stp f s az).how ≤ 5 := by
  by_cases e : (stp f s az).how = 0
  · omega
  · have := stp_ends h e
    omega
theorem onR_rn {f : List I} {az : List Int} : ∀ (k : Nat) (m : Mc) (t : Tr), mcB f m = true → t.hp.length ≤ 16 → (0 ≤ t.how ∧ t.how ≤ 5) → Rn f az m.h.length m t k (onR f az k m t).1 (onR f az k m t).2 := by
  intro k
  induction k with
  | zero => exact fun m t h ht hw => ⟨h, rfl, ⟨[], by simp [onR]⟩, by simp [onR], by simp [onR], by simp [onR], by simp [onR], by simp [onR], ht, by simp [onR], hw⟩
  | succ k ih =>
    intro m t h ht hw
    by_cases e : t.how = 0
    · rw [onR_step e]
      have r := ih (stp f m az).s (oneT t (stp f m az) (insA f m.p)) (stp_keeps h) (stp_hp h) (stp_how h)
      have b := wk1_bound (insA f m.p)
      have b2 := stp_ev (f := f) (s := m) (az := az)
      generalize onR f az k (stp f m az).s (oneT t (stp f m az) (insA f m.p)) = R at *
      obtain ⟨es, hes⟩ := r.pre
      have r3 := r.st1; have r4 := r.st2; have r5 := r.goes; have r6 := r.wk1; have r7 := r.wk2; have r8 := r.evl
      simp only [oneT, List.length_append] at r3 r4 r5 r6 r7 r8 hes
      exact ⟨r.right, by rw [r.len, stp_len h], ⟨(stp f m az).ev ++ es, by rw [hes, List.append_assoc]⟩, by omega, by omega, fun h0 => by have := r5 h0; omega, by omega, by omega, r.hp, by omega, r.how⟩
    · rw [onR_ended e]
      exact ⟨h, rfl, ⟨[], by simp⟩, by simp, by simp; omega, fun h0 => absurd h0 e, by simp, by simp, ht, by simp, hw⟩
theorem flw_asks (x : I) (s : Mc) (az : List Int) : ((flw x s az).2.1 = [] ∧ (flw x s az).1.q = s.q) ∨ (x.op = 15 ∧ s.q < az.length ∧ (flw x s az).1.q = s.q + 1 ∧ ∃ a, (flw x s az).2.1 = [(x.n, a, az.getD s.q.toNat 0)]) := by
  by_cases h15 : x.op = 15
  · have E : flw x s az = (if (az.length : Int) ≤ s.q then (⟨s.l, s.h, s.p + 1, s.q⟩, [], 5)
      else (⟨updW s.l x.d.toNat (true, az.getD s.q.toNat 0), s.h, s.p + 1, s.q + 1⟩, [(x.n, (s.l x.a.toNat).2, az.getD s.q.toNat 0)], 0)) := by simp [flw, h15]
    rw [E]
    split
    · exact .inl ⟨rfl, rfl⟩
    · exact .inr ⟨h15, by omega, rfl, _, rfl⟩
  · left
    unfold flw
    repeat' split
    all_goals first | exact ⟨rfl, rfl⟩ | (exfalso; omega)
/-- What leaves all as it was does so for ever. -/
theorem stp_still {f : List I} {m : Mc} {az : List Int} (h0 : (stp f m az).how = 0) (hq : (stp f m az).s.q = m.q) : (stp f m az).ev = [] ∧ (stp f m az).val = 0 ∧ (stp f m az).hp = [] := by
  unfold stp at h0 hq ⊢
  split at h0
  · cases h0
  · rename_i hk
    rw [if_neg hk] at hq ⊢
    split at h0
    · rename_i e
      rw [if_pos e] at hq ⊢
      refine ⟨?_, rfl, rfl⟩
      rcases flw_asks (insA f m.p) m az with ⟨a, _⟩ | ⟨_, _, e2, _⟩
      · exact a
      · have hq' : (flw (insA f m.p) m az).1.q = m.q := hq
        omega
    · rename_i e
      split at h0
      · cases h0
      · exact absurd h0 e
theorem onR_still {f : List I} {m : Mc} {az : List Int} (hs : (stp f m az).s = m) (h0 : (stp f m az).how = 0) : ∀ (k : Nat) (t : Tr), t.how = 0 → t.val = 0 → t.hp = [] →
    onR f az k m t = (⟨t.ev, 0, 0, [], t.st + k, t.wk + k * wk1 (insA f m.p)⟩, m) := by
  obtain ⟨e1, e2, e3⟩ := stp_still h0 (by rw [hs])
  intro k
  induction k with
  | zero =>
    intro t h1 h2 h3
    obtain ⟨ev, how, val, hp, st, wk⟩ := t
    simp only at h1 h2 h3
    subst h1 h2 h3
    simp [onR]
  | succ k ih =>
    intro t h1 h2 h3
    rw [onR_step h1, hs, ih (oneT t (stp f m az) (insA f m.p)) h0 e2 e3]
    simp only [oneT, e1, List.append_nil, Prod.mk.injEq, Tr.mk.injEq, true_and, and_true]
    refine ⟨by push_cast; omega, ?_⟩
    rw [Int.add_assoc, show ((k + 1 : Nat) : Int) = (k : Int) + 1 by push_cast; rfl, Int.add_mul, Int.one_mul, Int.add_comm (wk1 _)]
/-- States that are alike in their 24 places. -/
theorem flw_far {x : I} {n : Int} (h : Ri x n) (s : Mc) (az : List Int) {j : Nat} (hj : 24 ≤ j) : (flw x s az).1.l j = s.l j := by
  have h1 := h.d0; have h2 := h.d1; have h3 := h.a0; have h4 := h.a1
  have hd : x.d.toNat ≠ j := by omega
  have ha : x.a.toNat ≠ j := by omega
  unfold flw
  repeat' split
  all_goals first
    | rfl
    | exact upd_get hd _
    | exact (upd_get hd _).trans (upd_get ha _)
theorem stp_far {f : List I} {s : Mc} {az : List Int} (h : mcB f s = true) {j : Nat} (hj : 24 ≤ j) : (stp f s az).s.l j = s.l j := by
  have := flw_far (ri_at h) s az hj
  unfold stp
  repeat' split
  all_goals first | rfl | exact this
theorem stp_same {f : List I} {s : Mc} {az : List Int} (h : mcB f s = true) (hl : ∀ i < 24, (stp f s az).s.l i = s.l i) (hh : (stp f s az).s.h = s.h) (hp : (stp f s az).s.p = s.p) (hq : (stp f s az).s.q = s.q) : (stp f s az).s = s := by
  have hf : (stp f s az).s.l = s.l := by
    funext j
    by_cases hj : j < 24
    · exact hl j hj
    · exact stp_far h (by omega)
  generalize (stp f s az).s = r at *
  obtain ⟨a, b, c, d⟩ := r
  obtain ⟨a', b', c', d'⟩ := s
  simp only at hf hh hp hq
  subst hf hh hp hq
  rfl
/-- More answers. -/
theorem onR_more {f : List I} {az bz : List Int} : ∀ (k : Nat) (m : Mc) (t : Tr), mcB f m = true → ((onR f az k m t).1.how ≠ 5 → onR f (az ++ bz) k m t = onR f az k m t) ∧ ∃ es, (onR f (az ++ bz) k m t).1.ev = (onR f az k m t).1.ev ++ es := by
  intro k
  induction k with
  | zero => exact fun m t _ => ⟨fun _ => rfl, [], by simp [onR]⟩
  | succ k ih =>
    intro m t h
    by_cases e : t.how = 0
    · by_cases e5 : (stp f m az).how = 5
      · obtain ⟨s1, s2, _⟩ := stp_ends h (az := az) (by omega)
        have he : onR f az (k + 1) m t = (oneT t (stp f m az) (insA f m.p), m) := by
          rw [onR_step e, onR_ended (by show (stp f m az).how ≠ 0; omega), s1]
        rw [he]
        refine ⟨fun h5 => absurd e5 h5, ?_⟩
        have ht : (oneT t (stp f m az) (insA f m.p)).ev = t.ev := by simp [oneT, s2]
        rw [ht]
        have hq := (mc_iff.mp h).2.2.2
        rw [onR_step e]
        have r : ∃ es, (onR f (az ++ bz) k (stp f m (az ++ bz)).s (oneT t (stp f m (az ++ bz)) (insA f m.p))).1.ev = (oneT t (stp f m (az ++ bz)) (insA f m.p)).ev ++ es :=
          (onR_rn k _ _ (stp_keeps h) (stp_hp h) (stp_how h)).pre
        obtain ⟨es, hes⟩ := r
        exact ⟨(stp f m (az ++ bz)).ev ++ es, by rw [hes]; simp [oneT]⟩
      · have hm := stp_more (bz := bz) h e5
        rw [onR_step e, onR_step e, hm]
        exact ih _ _ (stp_keeps h)
    · rw [onR_ended e, onR_ended e]
      exact ⟨fun _ => rfl, [], by simp⟩
/-- Events and answers. -/
structure Ans (az : List Int) (m : Mc) (t : Tr) : Prop where
  q : m.q = t.ev.length
  le : t.ev.length ≤ az.length
  ans : ∀ i (h : i < t.ev.length), (t.ev[i]).2.2 = az.getD i 0
  num : ∀ i (h : i < t.ev.length), 0 ≤ (t.ev[i]).1 ∧ (t.ev[i]).1 ≤ 99
theorem num_of {x : I} {n : Int} (h : chkV x n = 0) (h15 : x.op = 15) : 0 ≤ x.n ∧ x.n ≤ 99 := by
  obtain ⟨_, _, h3⟩ := chk_zero h
  have hm : (78 : Int) ∈ letters x.op := by rw [h15]; decide +kernel
  have := h3 78 hm
  have e : fieldV x 78 = x.n := rfl
  rw [e] at this
  have hf : (if x.n < 0 ∨ 99 < x.n then (1 : Int) else 0) = 0 := this
  split at hf <;> omega
theorem num_at {f : List I} {s : Mc} (h : mcB f s = true) (h15 : (insA f s.p).op = 15) : 0 ≤ (insA f s.p).n ∧ (insA f s.p).n ≤ 99 := by
  have h' := mc_iff.mp h
  have hr := right_iff.mp h'.1
  refine num_of (n := f.length) ?_ h15
  rw [insA_get h'.2.1 h'.2.2.1]
  exact hr.2.2.1 _ (List.getElem_mem _)
theorem stp_asks {f : List I} {s : Mc} {az : List Int} (h : mcB f s = true) : ((stp f s az).ev = [] ∧ (stp f s az).s.q = s.q) ∨ ((insA f s.p).op = 15 ∧ s.q < az.length ∧ (stp f s az).s.q = s.q + 1 ∧ ∃ a, (stp f s az).ev = [((insA f s.p).n, a, az.getD s.q.toNat 0)]) := by
  by_cases h0 : (stp f s az).how = 0
  · have hw := flw_asks (insA f s.p) s az
    unfold stp at h0 ⊢
    split at h0
    · cases h0
    · rename_i hk
      rw [if_neg hk]
      split at h0
      · rename_i e
        rw [if_pos e]
        exact hw
      · rename_i e
        split at h0
        · cases h0
        · exact absurd h0 e
  · obtain ⟨e1, e2, _⟩ := stp_ends h h0
    exact .inl ⟨e2, by rw [e1]⟩
theorem ans_step {f : List I} {m : Mc} {az : List Int} {t : Tr} (h : mcB f m = true) (a : Ans az m t) : Ans az (stp f m az).s (oneT t (stp f m az) (insA f m.p)) := by
  have aq := a.q
  have al := a.le
  rcases stp_asks (az := az) h with ⟨e1, e2⟩ | ⟨h15, hq, e2, c, e1⟩
  · have : (oneT t (stp f m az) (insA f m.p)).ev = t.ev := by simp [oneT, e1]
    refine ⟨?_, ?_, ?_, ?_⟩
    · rw [this, e2]; exact aq
    · rw [this]; exact al
    · rw [this]; exact a.ans
    · rw [this]; exact a.num
  · have : (oneT t (stp f m az) (insA f m.p)).ev = t.ev ++ [((insA f m.p).n, c, az.getD m.q.toNat 0)] := by simp [oneT, e1]
    refine ⟨?_, ?_, ?_, ?_⟩
    · rw [this, e2, List.length_append, aq]; simp
    · rw [this, List.length_append]
      show t.ev.length + 1 ≤ az.length
      omega
    · rw [this]
      intro i hi
      rw [List.length_append] at hi
      have hi : i < t.ev.length + 1 := hi
      by_cases hl : i < t.ev.length
      · rw [List.getElem_append_left hl]
        exact a.ans i hl
      · obtain rfl : i = t.ev.length := by omega
        rw [List.getElem_append_right (Nat.le_refl _)]
        simp [aq]
    · rw [this]
      intro i hi
      rw [List.length_append] at hi
      have hi : i < t.ev.length + 1 := hi
      by_cases hl : i < t.ev.length
      · rw [List.getElem_append_left hl]
        exact a.num i hl
      · obtain rfl : i = t.ev.length := by omega
        rw [List.getElem_append_right (Nat.le_refl _)]
        simp
        exact num_at h h15
theorem onR_ans {f : List I} {az : List Int} : ∀ (k : Nat) (m : Mc) (t : Tr), mcB f m = true → Ans az m t → Ans az (onR f az k m t).2 (onR f az k m t).1 := by
  intro k
  induction k with
  | zero => exact fun _ _ _ a => a
  | succ k ih =>
    intro m t h a
    by_cases e : t.how = 0
    · rw [onR_step e]
      exact ih _ _ (stp_keeps h) (ans_step h a)
    · rw [onR_ended e]
      exact a
/-- A case's beginning. -/
def begL (rs : Nat → Int) : Ws := fun i => if i < 8 then (true, rs i) else (false, 0)
def begM (rs : Nat → Int) (zs : List Int) : Mc := ⟨begL rs, zs, 0, 0⟩
theorem beg_right {f : List I} {rs : Nat → Int} {zs : List Int} (hf : (chkF f).2 = 0) (hz : zs.length ≤ 16) : mcB f (begM rs zs) = true := by
  have h5 := (right_iff.mp hf).2.1
  refine mc_iff.mpr ⟨hf, Int.le_refl 0, by show (0 : Int) < f.length; omega, hz, Int.le_refl 0, words_mk fun i _ => ?_⟩
  show wdB (begL rs i) = true
  unfold begL wdB
  split <;> simp
/-- Which cases are right. -/
def caseB (zs az : List Int) (n : Int) : Bool := decide (zs.length ≤ 16 ∧ az.length ≤ 5000 ∧ 0 ≤ n ∧ n ≤ 5000)
/-- A run. -/
def runR (f : List I) (rs : Nat → Int) (zs az : List Int) (n : Nat) : Tr × Mc := onR f az n (begM rs zs) noTr
end Go.Proofs.Ytomclhbekmcaeaa
