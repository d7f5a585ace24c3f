/-
  Blocks of memory in a world that is not written out: a string's iterator, a struct of six numbers. No program stands in this text but the struct type's number.
-/
import Derived.Test.YtdghhedenjgjiaaGreatDoorBase
import Derived.Laws.Rows
import Derived.Laws.CopyRow
namespace Go.Proofs.YtdghhedenjgjiaaGreatDoor
open Go.RowKit

/-- A world with another object in a block. -/
def putO (w : World) (g : Nat) (o : Obj) : World := { w with heap := w.heap.setIfInBounds g o }
theorem putO_same {w : World} {g : Nat} {o o' : Obj} (h : w.heap[g]? = some o') : (putO w g o).heap[g]? = some o := by
  have hlt : g < w.heap.size := (Array.getElem?_eq_some_iff.1 h).1
  show (w.heap.setIfInBounds g o)[g]? = _
  rw [Array.getElem?_setIfInBounds]
  simp [hlt]
theorem putO_other {w : World} {g k : Nat} {o : Obj} (h : k ≠ g) : (putO w g o).heap[k]? = w.heap[k]? := by
  show (w.heap.setIfInBounds g o)[k]? = _
  rw [Array.getElem?_setIfInBounds, if_neg (Ne.symm h)]
theorem putO_size (w : World) (g : Nat) (o : Obj) : (putO w g o).heap.size = w.heap.size := by
  show (w.heap.setIfInBounds g o).size = _
  simp
theorem New.put {a w : World} (h : New a w) {g : Nat} (hg : a.heap.size ≤ g) (o : Obj) : New a (putO w g o) :=
  ⟨h.os, h.tape, h.output, by rw [putO_size]; exact h.size, fun k hk => by rw [putO_other (by omega)]; exact h.block k hk⟩
theorem heap_lt {w : World} {g : Nat} {o : Obj} (h : w.heap[g]? = some o) : g < w.heap.size := (Array.getElem?_eq_some_iff.1 h).1
theorem New.heap {w w' : World} (h : New w w') {g : Nat} {o : Obj} (hg : w.heap[g]? = some o) : w'.heap[g]? = some o := by
  rw [h.block g (heap_lt hg)]; exact hg

theorem alloc_at {w : World} {g : Nat} (hg : g = w.heap.size) (o : Obj) : (w.alloc o).heap[g]? = some o := by subst hg; exact heap_alloc_new _ _
theorem alloc_size (w : World) (o : Obj) : (w.alloc o).heap.size = w.heap.size + 1 := by
  show (w.heap.push o).size = _
  simp
theorem alloc_new (w : World) (o : Obj) : New w (w.alloc o) := (New.refl _).alloc o
section
variable {P : Program}
theorem next_at {w : World} {g : Nat} {s : ByteArray} {pos : Nat} (hg : w.heap[g]? = some (.stringIter s pos)) (h : pos < s.size) (ty : TypeId) :
    (Instr.next (.pointer (some ⟨g, 0, none⟩)) true ty).run P w = .ok (.tuple #[.bool true, .int .i64 pos, .int .i32 (Utf8.decode s pos).1]) (putO w g (.stringIter s (pos + (Utf8.decode s pos).2))) := by
  simp only [Instr.next, getObj, setObj, Sem.run_bind, Sem.run, hg, Result.andThen, h, if_true]
  simp [goInt, putO]
theorem next_stop {w : World} {g : Nat} {s : ByteArray} {pos : Nat} (hg : w.heap[g]? = some (.stringIter s pos)) (h : ¬ pos < s.size) (ty : TypeId) :
    (Instr.next (.pointer (some ⟨g, 0, none⟩)) true ty).run P w = .ok (.tuple #[.bool false]) w := by
  simp only [Instr.next, getObj, Sem.run_bind, Sem.run, hg, Result.andThen, h, if_false]
  rfl
theorem setRow_putO {w : World} {g : Nat} {cs : Array Value} {t : TypeId} {fr : Nat × Nat} (h : w.heap[g]? = some (.cells cs t fr)) (cs' : Array Value) : w.setRow g cs' = putO w g (.cells cs' t fr) := by
  unfold World.setRow putO
  congr 1
  apply Array.ext_getElem?
  intro k
  by_cases hk : k = g
  · subst hk
    have hlt := heap_lt h
    have hv : w.heap[k] = _ := (Array.getElem?_eq_some_iff.1 h).2
    rw [Array.getElem?_modify, Array.getElem?_setIfInBounds]
    simp [hlt, hv]
  · rw [Array.getElem?_modify, Array.getElem?_setIfInBounds]
    simp [Ne.symm hk]
/-- A whole row is stored into its block. -/
theorem store_row (w : World) (g : Nat) (ty : TypeId) (cs cs' : Array Value) (h : w.heap[g]? = some (.cells cs ty (0, 0))) (hz : cs.size = cs'.size) (hi : (P.info? ty).map (·.size) = some cs'.size) (h1 : ∀ v ∈ cs'.toList, v.oneCell' = true) :
    (Instr.storeAt ty (.pointer (some ⟨g, 0, none⟩)) (.agg cs')).run P w = .ok () (putO w g (.cells cs' ty (0, 0))) := by
  have hs := run_storeCells_at (P := P) g 0 ty cs'.toList 0 cs w h (by simp [hz]) h1
  cases hq : P.info? ty with
  | none => simp [hq] at hi
  | some i =>
    have h6 : i.size = cs'.size := by simpa [hq] using hi
    have hd : List.drop cs'.size cs.toList = [] := List.drop_of_length_le (by rw [Array.length_toList]; omega)
    simp only [Nat.zero_add, List.take_zero, List.nil_append, Array.length_toList, hd, List.append_nil, Array.toArray_toList] at hs
    rw [← setRow_putO h]
    simp [Instr.storeAt, Instr.sureAddr, storeVar, sizeOf, typeInfo, hq, Value.cells, h6, hs]
end

theorem iterPos_at {w : World} {g : Nat} {s : ByteArray} {pos : Nat} (hg : w.heap[g]? = some (.stringIter s pos)) : w.iterPos g = pos := by
  unfold World.iterPos; rw [hg]
/-- A string of small bytes: each rune is the byte. -/
theorem decode_small {s : ByteArray} {pos : Nat} (h : pos < s.size) (hs : ∀ c ∈ s.data.toList, c.toNat < 128) : ∃ c, s.data.toList[pos]? = some c ∧ Utf8.decode s pos = (c.toNat, 1) := by
  have hm : s[pos]'h ∈ s.data.toList := by
    rw [List.mem_iff_getElem?]
    refine ⟨pos, ?_⟩
    have h1 : pos < s.data.size := h
    rw [Array.getElem?_toList, Array.getElem?_eq_getElem h1]; rfl
  refine ⟨s[pos]'h, ?_, decode_ascii s pos h (hs _ hm)⟩
  have h1 : pos < s.data.size := h
  rw [Array.getElem?_toList, Array.getElem?_eq_getElem h1]; rfl
end Go.Proofs.YtdghhedenjgjiaaGreatDoor
