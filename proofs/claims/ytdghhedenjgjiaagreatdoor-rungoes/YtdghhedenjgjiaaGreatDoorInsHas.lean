/-
  A block that holds an instruction: its load and store, at the operation.
-/
import Derived.Test.YtdghhedenjgjiaaGreatDoorProg
import Derived.Test.YtdghhedenjgjiaaGreatDoorInsMath
import Derived.Test.YtdghhedenjgjiaaGreatDoorBlocks
namespace Go.Proofs.YtdghhedenjgjiaaGreatDoor
open Go.RowKit

/-- A block holds an instruction. -/
def Has (w : World) (g : Nat) (x : I) : Prop := w.heap[g]? = some (.cells #[.int .i64 x.op, .int .i64 x.d, .int .i64 x.a, .int .i64 x.b, .int .i64 x.n, .int .i64 x.t] 72 (0, 0))
theorem infoI : (Tryz.prog.info? 72).map (·.size) = some 6 := by kernel_rfl
theorem Has.ld {w : World} {g : Nat} {x : I} (h : Has w g x) :
    (Instr.loadAt 72 (.pointer (some ⟨g, 0, none⟩))).run Tryz.prog w = .ok (.agg #[.int .i64 (x).op, .int .i64 (x).d, .int .i64 (x).a, .int .i64 (x).b, .int .i64 (x).n, .int .i64 (x).t]) w := by
  simp only [Instr.loadAt, Instr.sureAddr, Sem.run_bind, Sem.run_pure, Result.andThen_ok]
  exact run_loadVar_row w g _ _ _ _ _ h Tryz.underlying72 rfl infoI
theorem Has.cell {w : World} {g : Nat} {x : I} (h : Has w g x) :
    w.cell? ⟨g, 0, none⟩ = some (.int .i64 x.op) ∧ w.cell? ⟨g, 1, none⟩ = some (.int .i64 x.d) ∧ w.cell? ⟨g, 2, none⟩ = some (.int .i64 x.a) ∧ w.cell? ⟨g, 3, none⟩ = some (.int .i64 x.b) := by
  refine ⟨?_, ?_, ?_, ?_⟩ <;> exact cell_of_row w g _ _ _ _ h
theorem Has.new {w w' : World} {g : Nat} {x : I} (h : Has w g x) (n : New w w') : Has w' g x := n.heap h
theorem Has.put {w : World} {g k : Nat} {x : I} (h : Has w g x) (o : Obj) (hk : g ≠ k) : Has (putO w k o) g x := by
  unfold Has; rw [putO_other hk]; exact h
theorem Has.box (w : World) (x : I) : Has (w.alloc (.cells #[.int .i64 x.op, .int .i64 x.d, .int .i64 x.a, .int .i64 x.b, .int .i64 x.n, .int .i64 x.t] 72)) w.heap.size x := heap_alloc_new _ _
/-- Another instruction is stored into its block. -/
theorem Has.store {w : World} {g : Nat} {x : I} (h : Has w g x) (y : I) :
    (Instr.storeAt 72 (.pointer (some ⟨g, 0, none⟩)) (.agg #[.int .i64 (y).op, .int .i64 (y).d, .int .i64 (y).a, .int .i64 (y).b, .int .i64 (y).n, .int .i64 (y).t])).run Tryz.prog w = .ok () (putO w g (.cells #[.int .i64 y.op, .int .i64 y.d, .int .i64 y.a, .int .i64 y.b, .int .i64 y.n, .int .i64 y.t] 72 (0, 0))) := by
  exact store_row w g 72 _ _ h rfl infoI (by simp [Value.oneCell'])
/-- The load of an instruction, at the operation. -/
theorem wpList_ldI {ops : Array Oper} {rest : List Oper} {op : Oper} {act : Act} {w : World} {Q : Exit → Act → World → Prop} (hgd : op.guard = none) (p : Operand) (ho : op.op = .load 72 p)
    (g : Nat) (hx : act.eval p = .pointer (some ⟨g, 0, none⟩)) {x : I} (h : Has w g x)
    (hk : wpList Tryz.prog ops Q rest (act.put op.dst (.agg #[.int .i64 (x).op, .int .i64 (x).d, .int .i64 (x).a, .int .i64 (x).b, .int .i64 (x).n, .int .i64 (x).t])) w) : wpList Tryz.prog ops Q (op :: rest) act w :=
  wpList_load_row hgd _ p ho g hx _ _ _ _ h Tryz.underlying72 rfl infoI hk
/-- The store of an instruction, at the operation. -/
theorem wpList_stI {ops : Array Oper} {rest : List Oper} {op : Oper} {act : Act} {w : World} {Q : Exit → Act → World → Prop} (hgd : op.guard = none) (hdst : op.dst = none) (p q : Operand) (ho : op.op = .store 72 p q)
    (g : Nat) (hx : act.eval p = .pointer (some ⟨g, 0, none⟩)) (y : I) (hy : act.eval q = .agg #[.int .i64 (y).op, .int .i64 (y).d, .int .i64 (y).a, .int .i64 (y).b, .int .i64 (y).n, .int .i64 (y).t]) {x : I} (h : Has w g x)
    (hk : wpList Tryz.prog ops Q rest act (putO w g (.cells #[.int .i64 y.op, .int .i64 y.d, .int .i64 y.a, .int .i64 y.b, .int .i64 y.n, .int .i64 y.t] 72 (0, 0)))) : wpList Tryz.prog ops Q (op :: rest) act w :=
  wpList_plain hgd fun _ hK => by
    unfold Oper.wp execOp
    simp only [ho, hx, hy, Has.store h y, Sem.run_bind, Sem.run_pure, Result.andThen_ok]
    refine hK _ _ ?_
    rw [hdst]
    exact hk
theorem Has.stored {w : World} {g : Nat} {x : I} (h : Has w g x) (y : I) : Has (putO w g (.cells #[.int .i64 y.op, .int .i64 y.d, .int .i64 y.a, .int .i64 y.b, .int .i64 y.n, .int .i64 y.t] 72 (0, 0))) g y := putO_same h
theorem Has.cell4 {w : World} {g : Nat} {x : I} (h : Has w g x) : w.cell? ⟨g, 4, none⟩ = some (.int .i64 x.n) := cell_of_row w g _ _ _ _ h
end Go.Proofs.YtdghhedenjgjiaaGreatDoor
