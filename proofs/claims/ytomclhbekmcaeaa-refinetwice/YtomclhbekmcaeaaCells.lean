/-
  Blocks of any kind: what lies in one; loads and stores of parts of it at the operation; new variables; the world behind them under a new name.
-/
import Derived.Test.YtomclhbekmcaeaaProg
import Derived.Test.YtomclhbekmcaeaaPlain
import Derived.Deep.MidRow
namespace Go.Proofs.Ytomclhbekmcaeaa
open Go.RowKit

/-- Only block g has turned. -/
structure Kept (g : Nat) (w w' : World) : Prop where
  size : w'.heap.size = w.heap.size
  other : ∀ k, k ≠ g → w'.heap[k]? = w.heap[k]?
  below : ∀ w0 : World, w0.heap.size ≤ g → New w0 w → New w0 w'
theorem Kept.put (w : World) (g : Nat) (o : Obj) : Kept g w (putO w g o) := ⟨putO_size _ _ _, fun _ hk => putO_other hk, fun _ hg hn => hn.put hg _⟩
/-- A block holds these cells. -/
def HasC (w : World) (g : Nat) (ty : TypeId) (cs : List Value) : Prop := w.heap[g]? = some (.cells cs.toArray ty (0, 0))
section
variable {w w' : World} {g : Nat} {ty : TypeId} {cs : List Value}
theorem HasC.new (h : HasC w g ty cs) (n : New w w') : HasC w' g ty cs := n.heap h
theorem HasC.kept {k : Nat} (h : HasC w g ty cs) (n : Kept k w w') (hk : g ≠ k) : HasC w' g ty cs := (n.other g hk).trans h
theorem HasC.lt (h : HasC w g ty cs) : g < w.heap.size := heap_lt h
theorem HasC.box (w : World) (ty : TypeId) (cs : List Value) : HasC (w.alloc (.cells cs.toArray ty)) w.heap.size ty cs := heap_alloc_new _ _
theorem HasC.cell (h : HasC w g ty cs) {k : Nat} {v : Value} (hk : cs[k]? = some v) : w.cell? ⟨g, k, none⟩ = some v := by
  rw [cell_of_row w g _ _ _ _ h]
  simpa using hk
theorem HasC.range (h : HasC w g ty cs) (k : Nat) (xs : List Value) (hk : ∀ j v, xs[j]? = some v → cs[k + j]? = some v) : w.rangeAt g k xs := fun j v hv => h.cell (hk j v hv)
theorem HasC.all (h : HasC w g ty cs) : w.rangeAt g 0 cs := h.range 0 cs fun j v hv => by rw [Nat.zero_add]; exact hv
theorem HasC.store (h : HasC w g ty cs) (k : Nat) (xs : List Value) (t : TypeId) (u : Value) (hu : u.cells = xs.toArray) (hl : k + xs.length ≤ cs.length) (h1 : ∀ v ∈ xs, v.oneCell' = true) (hi : (Try.prog.info? t).map (·.size) = some xs.length) :
    (Instr.storeAt t (.pointer (some ⟨g, k, none⟩)) u).run Try.prog w = .ok () (putO w g (.cells (cs.take k ++ xs ++ cs.drop (k + xs.length)).toArray ty (0, 0))) := by
  have hs := run_storeCells_at (P := Try.prog) g k ty xs 0 cs.toArray w h (by simpa using hl) h1
  cases hq : Try.prog.info? t with
  | none => simp [hq] at hi
  | some i =>
    have h6 : i.size = xs.length := by simpa [hq] using hi
    simp only [Nat.add_zero] at hs
    rw [setRow_putO h] at hs
    simp [Instr.storeAt, Instr.sureAddr, storeVar, sizeOf, typeInfo, hq, hu, h6, hs]
end
section
variable {ops : Array Oper} {rest : List Oper} {op : Oper} {act : Act} {w : World} {Q : Exit → Act → World → Prop}
theorem wpList_stX (hgd : op.guard = none) (hdst : op.dst = none) (t : TypeId) (p q : Operand) (ho : op.op = .store t p q) (g k : Nat) (hx : act.eval p = .pointer (some ⟨g, k, none⟩)) (u : Value) (hy : act.eval q = u)
    {ty : TypeId} {cs : List Value} (h : HasC w g ty cs) (xs : List Value) (hu : u.cells = xs.toArray) (hl : k + xs.length ≤ cs.length) (h1 : ∀ v ∈ xs, v.oneCell' = true) (hi : (Try.prog.info? t).map (·.size) = some xs.length)
    {cs' : List Value} (hc : cs.take k ++ xs ++ cs.drop (k + xs.length) = cs')
    (hk : ∀ w', HasC w' g ty cs' → Kept g w w' → wpList Try.prog ops Q rest act w') : wpList Try.prog ops Q (op :: rest) act w :=
  wpList_plain hgd fun _ hK => by
    unfold Oper.wp execOp
    simp only [ho, hx, hy, h.store k xs t u hu hl h1 hi, Sem.run_bind, Sem.run_pure, Result.andThen_ok]
    refine hK _ _ ?_
    rw [hdst]
    refine hk _ ?_ (Kept.put _ _ _)
    rw [← hc]
    exact putO_same h
theorem wpList_boxX (hgd : op.guard = none) (t : TypeId) (p : Operand) (ho : op.op = .box t p) (cs : List Value) (hx : (act.eval p).cells = cs.toArray)
    (hk : ∀ w' g, w.heap.size ≤ g → g < w'.heap.size → HasC w' g t cs → New w w' → wpList Try.prog ops Q rest (act.put op.dst (.pointer (some ⟨g, 0, none⟩))) w') : wpList Try.prog ops Q (op :: rest) act w :=
  wpList_plain hgd fun _ hK => by
    unfold Oper.wp execOp
    simp only [ho, Sem.run_bind, Instr.box, newVar, newRow, run_newObj_alloc, Sem.run_pure, Result.andThen_ok, hx]
    exact hK _ _ (hk _ _ (Nat.le_refl _) (by rw [alloc_size]; omega) (HasC.box w t cs) (alloc_new _ _))
theorem wpList_alX (hgd : op.guard = none) (t : TypeId) (ho : op.op = .alloc t) (z : Value) (hz : ∀ w, (zeroValue t).run Try.prog w = .ok z w) (cs : List Value) (hc : z.cells = cs.toArray)
    (hk : ∀ w' g, w.heap.size ≤ g → g < w'.heap.size → HasC w' g t cs → New w w' → wpList Try.prog ops Q rest (act.put op.dst (.pointer (some ⟨g, 0, none⟩))) w') : wpList Try.prog ops Q (op :: rest) act w :=
  wpList_plain hgd fun _ hK => by
    unfold Oper.wp execOp
    simp only [ho, Instr.alloc, Sem.run_bind, hz w, Result.andThen_ok, newVar, newRow, hc, run_newObj_alloc, Sem.run_pure]
    exact hK _ _ (hk _ _ (Nat.le_refl _) (by rw [alloc_size]; omega) (HasC.box w t cs) (alloc_new _ _))
end
/-- What a function's end reads out of a result's block. -/
theorem loadVar_C {w : World} {g : Nat} {ty t : TypeId} {cs : List Value} (h : HasC w g ty cs) {d : TypeDesc} (hu : Try.prog.underlying t = some d) (hd : d.isRow = true) (hi : (Try.prog.info? t).map (·.size) = some cs.length) :
    (loadVar t ⟨g, 0, none⟩).run Try.prog w = .ok (.agg cs.toArray) w := run_loadVar_mid w g 0 t cs d h.all hu hd hi
end Go.Proofs.Ytomclhbekmcaeaa
