/-
  The reference's Begin: for every case.
-/
import Derived.Test.YtlmnodbhfpgplaaGreatDoorRunF
import Derived.Test.YtlmnodbhfpgplaaGreatDoorStepRef
namespace Go.Proofs.YtlmnodbhfpgplaaGreatDoor
open Go.RowKit

/-- A call whose guard is met, that alone may come up. -/
theorem wpAnyH_callG {P : Program} {ops : Array Oper} {md : Region.Mode} {S : World → Prop} {Q : Exit → Act → World → Prop} {i : Nat} {o : Oper} {fuel : Nat} {l : Array Bool} {a : Act} {w : World} (hi : ops[i]? = some o) (hw : Region.wanted o (yielded ops a.tmps) = true) (hr : Region.ready md ops l = [i]) (f : FuncId) (args : Array Value) (hrun : (execOp a.eval o).run P w = .ok (.enter f args) w)
    (h : Calls P f args w fun e w' => ∃ v, e = .returned v ∧ S w' ∧ wpAnyH P md ops Q S fuel (l.setIfInBounds i true) (a.put o.dst v) w') : wpAnyH P md ops Q S (fuel + 1) l a w := by
  refine wpAnyH_all hr (by simp) ?_
  simp only [List.mem_cons, List.not_mem_nil, or_false]
  rintro t rfl
  unfold wpOp
  simp only [hi, hw, if_true]
  refine .inl ?_
  unfold Oper.wp
  rw [hrun]
  refine h.mono fun e w' ⟨v, he, hh⟩ => ?_
  subst he
  exact hh
theorem ldK_if {ops : Array Oper} {S : World → Prop} {op : Oper} {act : Act} (hw : Region.wanted op (yielded ops act.tmps) = true) (x : Operand) (ho : op.op = .load 26 x) (g : Nat) (hx : act.eval x = .pointer (some ⟨g, 0, none⟩)) {rs : Nat → Int} {h a : Sl} {n : Int} (k : ∀ w, S w → HasK w g rs h a n) :
    YieldsIf Tryz.prog ops S op (.agg (caC rs h a n).toArray) act := yieldsIf_load_mid hw _ _ ho g 0 hx (caC rs h a n) _ (fun w hS => (k w hS).all) Tryz.underlying26 rfl infoCa
theorem HasK.reg {w : World} {g : Nat} {rs : Nat → Int} {h a : Sl} {n : Int} (k : HasK w g rs h a n) {i : Nat} (hi : i < 8) : w.cell? ⟨g, i, none⟩ = some (.int .i64 (rs i)) := by
  have : i = 0 ∨ i = 1 ∨ i = 2 ∨ i = 3 ∨ i = 4 ∨ i = 5 ∨ i = 6 ∨ i = 7 := by omega
  rcases this with rfl | rfl | rfl | rfl | rfl | rfl | rfl | rfl <;> exact k.cell rfl
theorem begL_lo {rs : Nat → Int} {k : Nat} (h : k < 8) : wcells (begL rs k) = [.bool true, .int .i64 (rs k)] := by
  unfold begL
  rw [if_pos h]
  rfl
theorem begL_hi {rs : Nat → Int} {k : Nat} (h : ¬ k < 8) : wcells (begL rs k) = [.bool false, .int .i64 0] := by
  unfold begL
  rw [if_neg h]
  rfl
theorem own_far {w : World} {B C n : Nat} {e : TypeId} {a : Sl} {g : Nat → List Value} (h : OwnG w B e (.slice a.ao a.n a.c) n g) (hn : 0 < n) (hc : C ≤ B) : FarS C a := by
  rcases h.2 with ⟨_, h0⟩ | ⟨k, cap, cur, hv, hb, _⟩
  · omega
  · simp only [Value.slice.injEq] at hv
    exact ⟨k, 0, hv.1, Nat.le_trans hc hb⟩
theorem ix8_run (g k : Nat) (hk : k < 8) (w : World) : (Instr.indexAt 23 (.pointer (some ⟨g, 0, none⟩)) (.int .i64 (k : Int))).run Tryz.prog w = .ok (.pointer (some ⟨g, k, none⟩)) w := by
  have hk' : (k : Int) < 8 := by omega
  simp [Instr.indexAt, Instr.sureAddr, run_underlying Tryz.underlying23, asIntOf, Addr.add_mid]
  intro; omega
end Go.Proofs.YtlmnodbhfpgplaaGreatDoor
