/-
  The contracts of ins's small functions: known, fields, fault, field, with, place: for every argument; nothing that was in memory has turned.
-/
import Derived.Test.YtoeplfhigpdopaaDoorNumDo3
import Derived.Test.YtoeplfhigpdopaaDoorLocDo
import Derived.Test.YtoeplfhigpdopaaDoorInsMath
import Derived.Test.YtoeplfhigpdopaaDoorBlocks
namespace Go.Proofs.YtoeplfhigpdopaaDoor
open Go.RowKit

theorem known_any (op : Int) (w : World) :
    Calls Tryd.prog 33 #[.int .i64 op] w fun e w' => e = .returned (.bool (knownB op)) ∧ w' = w := by
  by_cases h0 : 1 ≤ op
  · by_cases h1 : op ≤ 18
    · have e : knownB op = true := by simp [knownB, h0, h1]
      rw [e]
      go_enter Tryd.func33, Tryd.ntmps33
      go_wp2
      go_ret
      simp [*]
    · have e : knownB op = false := by simp [knownB, h1]
      rw [e]
      go_enter Tryd.func33, Tryd.ntmps33
      go_wp2
      go_ret
      simp [*]
  · have e : knownB op = false := by simp [knownB, h0]
    rw [e]
    go_enter Tryd.func33, Tryd.ntmps33
    go_wp2
    go_ret
    simp [*]

theorem place_any (c : Int) (w : World) :
    Calls Tryd.prog 55 #[.int .i32 c] w fun e w' => e = .returned (.bool (placeB c)) ∧ w' = w := by
  go_enter Tryd.func55, Tryd.ntmps55
  go_wp2
  all_goals
    go_ret
    exact ⟨by simp_all [placeB], rfl⟩

theorem field_any (o d a b n t c : Int) (w : World) :
    Calls Tryd.prog 37 #[.agg #[.int .i64 o, .int .i64 d, .int .i64 a, .int .i64 b, .int .i64 n, .int .i64 t], .int .i32 c] w fun e w' => e = .returned (.int .i64 (fieldV ⟨o, d, a, b, n, t⟩ c)) ∧ New w w' := by
  go_enter Tryd.func37, Tryd.ntmps37
  go_wp2
  all_goals
    go_ret
    exact ⟨by simp_all [fieldV], (New.refl _).alloc _⟩

theorem fault_any (c v n : Int) (w : World) :
    Calls Tryd.prog 36 #[.int .i32 c, .int .i64 v, .int .i64 n] w fun e w' => e = .returned (.int .i64 (faultV c v n)) ∧ w' = w := by
  go_enter Tryd.func36, Tryd.ntmps36
  go_wp2_with (first | (go_at_call 53; refine (right_any _ _).mono ?_; rintro e w1 ⟨rfl, rfl⟩) | (go_at_call 54; refine (reg_any _ _).mono ?_; rintro e w1 ⟨rfl, rfl⟩))
  all_goals
    go_ret
    exact ⟨by first | (simp_all [faultV, rightB, regB]; done) | (simp_all [faultV, rightB, regB]; omega), rfl⟩

theorem with_any (o d a b n t c v : Int) (w : World) :
    Calls Tryd.prog 49 #[.agg #[.int .i64 o, .int .i64 d, .int .i64 a, .int .i64 b, .int .i64 n, .int .i64 t], .int .i32 c, .int .i64 v] w fun e w' =>
      e = .returned (.agg #[.int .i64 (withV ⟨o, d, a, b, n, t⟩ c v).op, .int .i64 (withV ⟨o, d, a, b, n, t⟩ c v).d, .int .i64 (withV ⟨o, d, a, b, n, t⟩ c v).a, .int .i64 (withV ⟨o, d, a, b, n, t⟩ c v).b, .int .i64 (withV ⟨o, d, a, b, n, t⟩ c v).n, .int .i64 (withV ⟨o, d, a, b, n, t⟩ c v).t]) ∧ New w w' := by
  go_enter Tryd.func49, Tryd.ntmps49
  go_wp2
  all_goals refine bodyPost_ret (by simp [results, Tryd.results49, go_sem]; rfl) rfl ⟨?_, ((New.refl _).alloc _).alloc _⟩
  all_goals simp_all [withV]

theorem fields_no (op : Int) (h : knownB op = false) (w : World) :
    Calls Tryd.prog 35 #[.int .i64 op] w fun e w' => e = .returned (.string ⟨(fieldsL op).toArray⟩) ∧ w' = w := by
  have e : (fieldsL op) = [] := by unfold fieldsL; rw [h]; rfl
  rw [e]
  go_enter Tryd.func35, Tryd.ntmps35
  go_wp2_with (go_at_call 33; refine (known_any _ _).mono ?_; rintro e w1 ⟨rfl, rfl⟩)
  go_ret
  exact ⟨rfl, rfl⟩
theorem fields_yes (k : Nat) (h1 : 1 ≤ k) (h2 : k ≤ 18) (w : World) (hl : Laid w) :
    Calls Tryd.prog 35 #[.int .i64 k] w fun e w' => e = .returned (.string ⟨(fieldsL k).toArray⟩) ∧ w' = w := by
  have hk : knownB (k : Int) = true := by simp only [knownB, decide_eq_true_iff]; omega
  have e : fieldsL (k : Int) = fldsL k := by unfold fieldsL; rw [if_pos hk]; rfl
  rw [e]
  clear e
  have hc : w.cell? ⟨0, k * 2 + 1, none⟩ = some (.string ⟨(fldsL k).toArray⟩) := hl.cell (k * 2 + 1) (by omega)
  clear hl
  go_enter Tryd.func35, Tryd.ntmps35
  go_wp2_with (go_at_call 33; refine (known_any _ _).mono ?_; rintro e w1 ⟨rfl, rfl⟩)
  go_ret
  exact ⟨rfl, rfl⟩
theorem fields_any (op : Int) (w : World) (hl : Laid w) :
    Calls Tryd.prog 35 #[.int .i64 op] w fun e w' => e = .returned (.string ⟨(fieldsL op).toArray⟩) ∧ w' = w := by
  cases h : knownB op with
  | false => exact fields_no op h w
  | true =>
    have h' := h
    simp only [knownB, decide_eq_true_iff] at h'
    obtain ⟨k, rfl⟩ : ∃ k : Nat, op = k := ⟨op.toNat, by omega⟩
    exact fields_yes k (by omega) (by omega) w hl

/-- A block holds an instruction. -/
def Has (w : World) (g : Nat) (x : I) : Prop := w.heap[g]? = some (.cells #[.int .i64 x.op, .int .i64 x.d, .int .i64 x.a, .int .i64 x.b, .int .i64 x.n, .int .i64 x.t] 41 (0, 0))
theorem infoI : (Tryd.prog.info? 41).map (·.size) = some 6 := by kernel_rfl
theorem Has.ld {w : World} {g : Nat} {x : I} (h : Has w g x) :
    (Instr.loadAt 41 (.pointer (some ⟨g, 0, none⟩))).run Tryd.prog w = .ok (.agg #[.int .i64 (x).op, .int .i64 (x).d, .int .i64 (x).a, .int .i64 (x).b, .int .i64 (x).n, .int .i64 (x).t]) w := by
  simp only [Instr.loadAt, Instr.sureAddr, Sem.run_bind, Sem.run_pure, Result.andThen_ok]
  exact run_loadVar_row w g _ _ _ _ _ h Tryd.underlying41 rfl infoI
theorem Has.cell {w : World} {g : Nat} {x : I} (h : Has w g x) :
    w.cell? ⟨g, 0, none⟩ = some (.int .i64 x.op) ∧ w.cell? ⟨g, 1, none⟩ = some (.int .i64 x.d) ∧ w.cell? ⟨g, 2, none⟩ = some (.int .i64 x.a) ∧ w.cell? ⟨g, 3, none⟩ = some (.int .i64 x.b) := by
  refine ⟨?_, ?_, ?_, ?_⟩ <;> exact cell_of_row w g _ _ _ _ h
theorem Has.new {w w' : World} {g : Nat} {x : I} (h : Has w g x) (n : New w w') : Has w' g x := n.heap h
theorem Has.put {w : World} {g k : Nat} {x : I} (h : Has w g x) (o : Obj) (hk : g ≠ k) : Has (putO w k o) g x := by
  unfold Has; rw [putO_other hk]; exact h
theorem Has.box (w : World) (x : I) : Has (w.alloc (.cells #[.int .i64 x.op, .int .i64 x.d, .int .i64 x.a, .int .i64 x.b, .int .i64 x.n, .int .i64 x.t] 41)) w.heap.size x := heap_alloc_new _ _
/-- Another instruction is stored into its block. -/
theorem Has.store {w : World} {g : Nat} {x : I} (h : Has w g x) (y : I) :
    (Instr.storeAt 41 (.pointer (some ⟨g, 0, none⟩)) (.agg #[.int .i64 (y).op, .int .i64 (y).d, .int .i64 (y).a, .int .i64 (y).b, .int .i64 (y).n, .int .i64 (y).t])).run Tryd.prog w = .ok () (putO w g (.cells #[.int .i64 y.op, .int .i64 y.d, .int .i64 y.a, .int .i64 y.b, .int .i64 y.n, .int .i64 y.t] 41 (0, 0))) := by
  exact store_row w g 41 _ _ h rfl infoI (by simp [Value.oneCell'])
/-- The load of an instruction, at the operation. -/
theorem wpList_ldI {ops : Array Oper} {rest : List Oper} {op : Oper} {act : Act} {w : World} {Q : Exit → Act → World → Prop} (hgd : op.guard = none) (p : Operand) (ho : op.op = .load 41 p)
    (g : Nat) (hx : act.eval p = .pointer (some ⟨g, 0, none⟩)) {x : I} (h : Has w g x)
    (hk : wpList Tryd.prog ops Q rest (act.put op.dst (.agg #[.int .i64 (x).op, .int .i64 (x).d, .int .i64 (x).a, .int .i64 (x).b, .int .i64 (x).n, .int .i64 (x).t])) w) : wpList Tryd.prog ops Q (op :: rest) act w :=
  wpList_load_row hgd _ p ho g hx _ _ _ _ h Tryd.underlying41 rfl infoI hk
/-- The store of an instruction, at the operation. -/
theorem wpList_stI {ops : Array Oper} {rest : List Oper} {op : Oper} {act : Act} {w : World} {Q : Exit → Act → World → Prop} (hgd : op.guard = none) (hdst : op.dst = none) (p q : Operand) (ho : op.op = .store 41 p q)
    (g : Nat) (hx : act.eval p = .pointer (some ⟨g, 0, none⟩)) (y : I) (hy : act.eval q = .agg #[.int .i64 (y).op, .int .i64 (y).d, .int .i64 (y).a, .int .i64 (y).b, .int .i64 (y).n, .int .i64 (y).t]) {x : I} (h : Has w g x)
    (hk : wpList Tryd.prog ops Q rest act (putO w g (.cells #[.int .i64 y.op, .int .i64 y.d, .int .i64 y.a, .int .i64 y.b, .int .i64 y.n, .int .i64 y.t] 41 (0, 0)))) : wpList Tryd.prog ops Q (op :: rest) act w :=
  wpList_plain hgd fun _ hK => by
    unfold Oper.wp execOp
    simp only [ho, hx, hy, Has.store h y, Sem.run_bind, Sem.run_pure, Result.andThen_ok]
    refine hK _ _ ?_
    rw [hdst]
    exact hk
theorem Has.stored {w : World} {g : Nat} {x : I} (h : Has w g x) (y : I) : Has (putO w g (.cells #[.int .i64 y.op, .int .i64 y.d, .int .i64 y.a, .int .i64 y.b, .int .i64 y.n, .int .i64 y.t] 41 (0, 0))) g y := putO_same h
end Go.Proofs.YtoeplfhigpdopaaDoor
