/-
  Stores and new variables, the world behind them under a new name: what stays, what has turned.
-/
import Derived.Test.YthdbehalbcoibaaEnvE
import Derived.Test.YthdbehalbcoibaaInsHas
namespace Go.Proofs.Ythdbehalbcoibaa
open Go.RowKit

/-- Only block g has turned. -/
structure Kept (g : Nat) (w w' : World) : Prop where
  size : w'.heap.size = w.heap.size
  other : ∀ k, k ≠ g → w'.heap[k]? = w.heap[k]?
  below : ∀ w0 : World, w0.heap.size ≤ g → New w0 w → New w0 w'
theorem Kept.put (w : World) (g : Nat) (o : Obj) : Kept g w (putO w g o) := ⟨putO_size _ _ _, fun _ hk => putO_other hk, fun _ hg hn => hn.put hg _⟩
theorem Kept.T {g k : Nat} {w w' : World} {t : Tb} (h : Kept g w w') (ht : HasT w k t) (hk : k ≠ g) : HasT w' k t := (h.other k hk).trans ht
theorem Kept.W {g k : Nat} {w w' : World} {t : Ws} (h : Kept g w w') (ht : HasW w k t) (hk : k ≠ g) : HasW w' k t := (h.other k hk).trans ht
theorem Kept.I {g k : Nat} {w w' : World} {x : I} (h : Kept g w w') (ht : Has w k x) (hk : k ≠ g) : Has w' k x := (h.other k hk).trans ht
section
variable {ops : Array Oper} {rest : List Oper} {op : Oper} {act : Act} {w : World} {Q : Exit → Act → World → Prop}
theorem wpList_stTk (hgd : op.guard = none) (hdst : op.dst = none) (p q : Operand) (ho : op.op = .store 28 p q)
    (g : Nat) (hx : act.eval p = .pointer (some ⟨g, 0, none⟩)) (u : Tb) (hy : act.eval q = .agg (cellsT u)) {t : Tb} (h : HasT w g t)
    (hk : ∀ w', HasT w' g u → Kept g w w' → wpList Try.prog ops Q rest act w') : wpList Try.prog ops Q (op :: rest) act w :=
  wpList_stT hgd hdst p q ho g hx u hy h (hk _ (h.stored u) (Kept.put _ _ _))
theorem wpList_stWk (hgd : op.guard = none) (hdst : op.dst = none) (p q : Operand) (ho : op.op = .store 32 p q)
    (g : Nat) (hx : act.eval p = .pointer (some ⟨g, 0, none⟩)) (u : Ws) (hy : act.eval q = .agg (cellsW u)) {t : Ws} (h : HasW w g t)
    (hk : ∀ w', HasW w' g u → Kept g w w' → wpList Try.prog ops Q rest act w') : wpList Try.prog ops Q (op :: rest) act w :=
  wpList_stW hgd hdst p q ho g hx u hy h (hk _ (h.stored u) (Kept.put _ _ _))
theorem run_alT (w : World) : (Instr.alloc 28 true (.tuple #[])).run Try.prog w = .ok (.pointer (some ⟨w.heap.size, 0, none⟩)) (w.alloc (oT noT)) := by
  have hz := Try.zeroValue28 w
  unfold oT
  rw [zeroT]
  simp only [Instr.alloc, Sem.run_bind, hz, Result.andThen_ok, newVar, newRow, Value.cells, run_newObj_alloc, Sem.run_pure]
theorem wpList_alT (hgd : op.guard = none) (ho : op.op = .alloc 28)
    (hk : ∀ w' g, w.heap.size ≤ g → g < w'.heap.size → HasT w' g noT → New w w' → wpList Try.prog ops Q rest (act.put op.dst (.pointer (some ⟨g, 0, none⟩))) w') : wpList Try.prog ops Q (op :: rest) act w :=
  wpList_plain hgd fun _ hK => by
    unfold Oper.wp execOp
    simp only [ho, run_alT, Sem.run_bind, Sem.run_pure, Result.andThen_ok]
    exact hK _ _ (hk _ _ (Nat.le_refl _) (by rw [alloc_size]; omega) (HasT.box w noT) (alloc_new _ _))
theorem run_alI (w : World) : (Instr.alloc 47 true (.tuple #[])).run Try.prog w = .ok (.pointer (some ⟨w.heap.size, 0, none⟩)) (w.alloc (.cells #[.int .i64 0, .int .i64 0, .int .i64 0, .int .i64 0, .int .i64 0, .int .i64 0] 47)) := by
  have hz := Try.zeroValue47 w
  simp only [Instr.alloc, Sem.run_bind, hz, Result.andThen_ok, newVar, newRow, Value.cells, run_newObj_alloc, Sem.run_pure]
theorem wpList_alI (hgd : op.guard = none) (ho : op.op = .alloc 47)
    (hk : ∀ w' g, w.heap.size ≤ g → g < w'.heap.size → Has w' g ⟨0, 0, 0, 0, 0, 0⟩ → New w w' → wpList Try.prog ops Q rest (act.put op.dst (.pointer (some ⟨g, 0, none⟩))) w') : wpList Try.prog ops Q (op :: rest) act w :=
  wpList_plain hgd fun _ hK => by
    unfold Oper.wp execOp
    simp only [ho, run_alI, Sem.run_bind, Sem.run_pure, Result.andThen_ok]
    exact hK _ _ (hk _ _ (Nat.le_refl _) (by rw [alloc_size]; omega) (Has.box w ⟨0, 0, 0, 0, 0, 0⟩) (alloc_new _ _))
theorem wpList_stIk (hgd : op.guard = none) (hdst : op.dst = none) (p q : Operand) (ho : op.op = .store 47 p q)
    (g : Nat) (hx : act.eval p = .pointer (some ⟨g, 0, none⟩)) (y : I) (hy : act.eval q = .agg #[.int .i64 (y).op, .int .i64 (y).d, .int .i64 (y).a, .int .i64 (y).b, .int .i64 (y).n, .int .i64 (y).t]) {x : I} (h : Has w g x)
    (hk : ∀ w', Has w' g y → Kept g w w' → wpList Try.prog ops Q rest act w') : wpList Try.prog ops Q (op :: rest) act w :=
  wpList_stI hgd hdst p q ho g hx y hy h (hk _ (h.stored y) (Kept.put _ _ _))
theorem run_alW (w : World) : (Instr.alloc 32 true (.tuple #[])).run Try.prog w = .ok (.pointer (some ⟨w.heap.size, 0, none⟩)) (w.alloc (oW noW)) := by
  have hz := Try.zeroValue32 w
  unfold oW
  rw [zeroW]
  simp only [Instr.alloc, Sem.run_bind, hz, Result.andThen_ok, newVar, newRow, Value.cells, run_newObj_alloc, Sem.run_pure]
theorem wpList_alW (hgd : op.guard = none) (ho : op.op = .alloc 32)
    (hk : ∀ w' g, w.heap.size ≤ g → g < w'.heap.size → HasW w' g noW → New w w' → wpList Try.prog ops Q rest (act.put op.dst (.pointer (some ⟨g, 0, none⟩))) w') : wpList Try.prog ops Q (op :: rest) act w :=
  wpList_plain hgd fun _ hK => by
    unfold Oper.wp execOp
    simp only [ho, run_alW, Sem.run_bind, Sem.run_pure, Result.andThen_ok]
    exact hK _ _ (hk _ _ (Nat.le_refl _) (by rw [alloc_size]; omega) (HasW.box w noW) (alloc_new _ _))
end
/-! Quiet loads, guarded or not. -/
section
variable {P : Program} {ops : Array Oper} {C : World → Prop} {Q : Act → Prop} {op : Oper} {rest : List Oper} {act : Act}
theorem wpQuiet_valueG (hw : Region.wanted op (yielded ops act.tmps) = true) (v : Value) (hv : ∀ w, C w → (execOp act.eval op).run P w = .ok (.value v) w)
    (hk : wpQuiet P ops C Q rest (act.put op.dst v)) : wpQuiet P ops C Q (op :: rest) act :=
  wpQuiet_step fun K hK => by
    rw [if_pos hw]
    exact ⟨v, fun w hw => by unfold Oper.quietAt; rw [hv w hw]; exact ⟨rfl, rfl⟩, hK _ hk⟩
end
section
variable {ops : Array Oper} {C : World → Prop} {Q : Act → Prop} {op : Oper} {rest : List Oper} {act : Act}
theorem wpQuiet_ldTG (hw : Region.wanted op (yielded ops act.tmps) = true) (p : Operand) (ho : op.op = .load 28 p)
    (g : Nat) (hx : act.eval p = .pointer (some ⟨g, 0, none⟩)) {t : Tb} (h : ∀ w, C w → HasT w g t)
    (hk : wpQuiet Try.prog ops C Q rest (act.put op.dst (.agg (cellsT t)))) : wpQuiet Try.prog ops C Q (op :: rest) act :=
  wpQuiet_valueG hw _ (fun w hw => by
    unfold execOp
    have := run_loadVar_row (P := Try.prog) w g _ 28 _ _ _ (h w hw) Try.underlying28 rfl (by rw [cellsT_size]; exact infoT)
    simp only [ho, hx, Instr.loadAt, Instr.sureAddr, Sem.run_bind, Sem.run_pure, Result.andThen_ok, this]) hk
theorem wpQuiet_ldWG (hw : Region.wanted op (yielded ops act.tmps) = true) (p : Operand) (ho : op.op = .load 32 p)
    (g : Nat) (hx : act.eval p = .pointer (some ⟨g, 0, none⟩)) {t : Ws} (h : ∀ w, C w → HasW w g t)
    (hk : wpQuiet Try.prog ops C Q rest (act.put op.dst (.agg (cellsW t)))) : wpQuiet Try.prog ops C Q (op :: rest) act :=
  wpQuiet_valueG hw _ (fun w hw => by
    unfold execOp
    have := run_loadVar_row (P := Try.prog) w g _ 32 _ _ _ (h w hw) Try.underlying32 rfl (by rw [cellsW_size]; exact infoW)
    simp only [ho, hx, Instr.loadAt, Instr.sureAddr, Sem.run_bind, Sem.run_pure, Result.andThen_ok, this]) hk
theorem wpQuiet_ldIG (hw : Region.wanted op (yielded ops act.tmps) = true) (p : Operand) (ho : op.op = .load 47 p)
    (g : Nat) (hx : act.eval p = .pointer (some ⟨g, 0, none⟩)) {x : I} (h : ∀ w, C w → Has w g x)
    (hk : wpQuiet Try.prog ops C Q rest (act.put op.dst (.agg #[.int .i64 (x).op, .int .i64 (x).d, .int .i64 (x).a, .int .i64 (x).b, .int .i64 (x).n, .int .i64 (x).t]))) : wpQuiet Try.prog ops C Q (op :: rest) act :=
  wpQuiet_valueG hw _ (fun w hw => by
    unfold execOp
    have := (h w hw).ld
    simp only [ho, hx, this, Sem.run_bind, Sem.run_pure, Result.andThen_ok]) hk
end
end Go.Proofs.Ythdbehalbcoibaa
