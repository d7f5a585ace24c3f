/-
  The load of an instruction out of a slice that came in, quiet; quiet operations ahead of a new variable.
-/
import Derived.Test.YthdbehalbcoibaaEnvF
import Derived.Test.YthdbehalbcoibaaFunAt
import Derived.Test.YthdbehalbcoibaaOrder2
namespace Go.Proofs.Ythdbehalbcoibaa
open Go.RowKit

theorem sizeI6 : ∀ w, (sizeOf 47).run Try.prog w = .ok 6 w := Try.sizeOf47
theorem FunAt.ix {w : World} {ao : Option Addr} {n cap : Nat} {f : List I} (h : FunAt w (.slice ao n cap) f) {i : Nat} (hi : i < n) :
    ∃ (b o : Nat) (x : I), f[i]? = some x ∧ (∀ w', (Instr.indexAt 43 (.slice ao n cap) (.int .i64 (i : Int))).run Try.prog w' = .ok (.pointer (some ⟨b, o, none⟩)) w') ∧ ∀ w', New w w' → w'.rangeAt b o (cells6 x) := by
  rcases h with ⟨_, ao', cap', e⟩ | ⟨b, off, cap', e, hf⟩
  · simp only [Value.slice.injEq] at e
    omega
  · simp only [Value.slice.injEq] at e
    obtain ⟨rfl, rfl, rfl⟩ := e
    refine ⟨b, off + i * 6, f[i], List.getElem?_eq_getElem hi, fun w' => ?_, fun w' hn => (hf.new hn) i hi⟩
    have h1 : (0 : Int) ≤ (i : Int) ∧ (i : Int) < (f.length : Int) := by omega
    simp [Instr.indexAt, run_underlying Try.underlying43, asIntOf, Addr.add_mid]
    intro; omega
theorem FunAt.len {w : World} {ao : Option Addr} {n cap : Nat} {f : List I} (h : FunAt w (.slice ao n cap) f) : n = f.length := by
  rcases h with ⟨rfl, ao', cap', e⟩ | ⟨b, off, cap', e, hf⟩ <;> simp only [Value.slice.injEq] at e
  · exact e.2.1
  · exact e.2.1
section
variable {ops : Array Oper} {C : World → Prop} {Q : Act → Prop} {op : Oper} {rest : List Oper} {act : Act}
theorem wpQuiet_ldEG (hw : Region.wanted op (yielded ops act.tmps) = true) (p : Operand) (ho : op.op = .load 47 p)
    (b o : Nat) (hx : act.eval p = .pointer (some ⟨b, o, none⟩)) {x : I} (h : ∀ w, C w → w.rangeAt b o (cells6 x))
    (hk : wpQuiet Try.prog ops C Q rest (act.put op.dst (.agg #[.int .i64 (x).op, .int .i64 (x).d, .int .i64 (x).a, .int .i64 (x).b, .int .i64 (x).n, .int .i64 (x).t]))) : wpQuiet Try.prog ops C Q (op :: rest) act :=
  wpQuiet_valueG hw _ (fun w hw => by
    unfold execOp
    have := run_loadAt_mid (P := Try.prog) w b o 47 (cells6 x) _ (h w hw) Try.underlying47 rfl (by rw [cells6_len]; exact infoI)
    simp only [ho, hx, this, Sem.run_bind, Sem.run_pure, Result.andThen_ok]
    rfl) hk
end
section
variable {ops : Array Oper} {W0 : World} {Q : Act → Prop} {op : Oper} {rest : List Oper} {act : Act}
theorem wpQN_value (hw : Region.wanted op (yielded ops act.tmps) = true) (v : Value) (hv : ∀ w, New W0 w → (execOp act.eval op).run Try.prog w = .ok (.value v) w)
    (hk : wpQN Try.prog ops W0 Q rest (act.put op.dst v)) : wpQN Try.prog ops W0 Q (op :: rest) act := by
  unfold wpQN
  rw [if_pos hw]
  exact ⟨v, fun w hn => by unfold Oper.quietAt; rw [hv w hn]; exact ⟨rfl, rfl⟩, hk⟩
theorem wpQN_call (hw : Region.wanted op (yielded ops act.tmps) = true) (f : FuncId) (args : Array Value) (hr : ∀ w, (execOp act.eval op).run Try.prog w = .ok (.enter f args) w) {v : Value}
    (hc : ∀ w, New W0 w → Calls Try.prog f args w fun e w' => e = .returned v ∧ New w w')
    (hk : wpQN Try.prog ops W0 Q rest (act.put op.dst v)) : wpQN Try.prog ops W0 Q (op :: rest) act := by
  unfold wpQN
  rw [if_pos hw]
  exact ⟨v, fun w hn => by unfold Oper.quietAt; rw [hr w]; exact ⟨rfl, hc w hn⟩, hk⟩
theorem wpQN_ldT (hw : Region.wanted op (yielded ops act.tmps) = true) (p : Operand) (ho : op.op = .load 28 p)
    (g : Nat) (hx : act.eval p = .pointer (some ⟨g, 0, none⟩)) {t : Tb} (h : HasT W0 g t)
    (hk : wpQN Try.prog ops W0 Q rest (act.put op.dst (.agg (cellsT t)))) : wpQN Try.prog ops W0 Q (op :: rest) act :=
  wpQN_value hw _ (fun w hn => by
    unfold execOp
    have := run_loadVar_row (P := Try.prog) w g _ 28 _ _ _ (h.new hn) Try.underlying28 rfl (by rw [cellsT_size]; exact infoT)
    simp only [ho, hx, Instr.loadAt, Instr.sureAddr, Sem.run_bind, Sem.run_pure, Result.andThen_ok, this]) hk
theorem wpQN_nil (h : Q act) : wpQN Try.prog ops W0 Q [] act := h
end
theorem exec_alT {op : Oper} (ho : op.op = .alloc 28) (ρ : Operand → Value) (w : World) : (execOp ρ op).run Try.prog w = .ok (.value (.pointer (some ⟨w.heap.size, 0, none⟩))) (w.alloc (oT noT)) := by
  unfold execOp
  simp only [ho, run_alT, Sem.run_bind, Sem.run_pure, Result.andThen_ok]
theorem then_from {w0 : World} (a b : Tb) (w : World) (h : New w0 w) :
    Calls Try.prog 17 #[.agg (cellsT a), .agg (cellsT b)] w fun e w' => e = .returned (.agg (cellsT (thn a b))) ∧ New w0 w' := (then_any a b w).mono fun _ _ ⟨he, hw⟩ => ⟨he, h.trans hw⟩
theorem fill_from {w0 : World} (t : Tb) (l : Ws) (w : World) (h : New w0 w) :
    Calls Try.prog 11 #[.agg (cellsT t), .agg (cellsW l)] w fun e w' => e = .returned (.agg (cellsW (fil t l))) ∧ New w0 w' := (fill_any t l w).mono fun _ _ ⟨he, hw⟩ => ⟨he, h.trans hw⟩
theorem envNew_from {w0 : World} (w : World) (h : New w0 w) :
    Calls Try.prog 15 #[] w fun e w' => e = .returned (.agg (cellsT newT)) ∧ New w0 w' := (envNew_any w).mono fun _ _ ⟨he, hw⟩ => ⟨he, h.trans hw⟩
end Go.Proofs.Ythdbehalbcoibaa
