/-
  A slice's value that holds a function: what it is, that it stays in grown memory, that a row of the call's own is one; the load of one of its instructions, at the operation.
-/
import Derived.Test.YtdghhedenjgjiaaGreatDoorInsHas
import Derived.Test.YtdghhedenjgjiaaGreatDoorOwns
import Derived.Deep.MidRow
namespace Go.Proofs.YtdghhedenjgjiaaGreatDoor
open Go.RowKit

/-- An instruction's cells. -/
def cells6 (x : I) : List Value := [.int .i64 x.op, .int .i64 x.d, .int .i64 x.a, .int .i64 x.b, .int .i64 x.n, .int .i64 x.t]
theorem cells6_len (x : I) : (cells6 x).length = 6 := rfl
/-- The instructions lie one behind the other. -/
def Fun (w : World) (b off : Nat) (f : List I) : Prop := ∀ i (h : i < f.length), w.rangeAt b (off + i * 6) (cells6 f[i])
/-- A slice's value holds a function. -/
def FunAt (w : World) (v : Value) (f : List I) : Prop :=
  (f = [] ∧ ∃ ao cap, v = .slice ao 0 cap) ∨ ∃ b off cap, v = .slice (some ⟨b, off, none⟩) f.length cap ∧ Fun w b off f
theorem New.cell {w w' : World} (h : New w w') {a : Addr} {v : Value} (hc : w.cell? a = some v) : w'.cell? a = some v := by
  have hlt : a.block < w.heap.size := by
    unfold World.cell? at hc
    cases hb : w.heap[a.block]? with
    | none => rw [hb] at hc; simp at hc
    | some o => exact heap_lt hb
  have := h.block a.block hlt
  unfold World.cell? at hc ⊢
  rw [this]
  exact hc
theorem Fun.new {w w' : World} {b off : Nat} {f : List I} (h : Fun w b off f) (n : New w w') : Fun w' b off f := fun i hi j v hv => n.cell (h i hi j v hv)
theorem FunAt.new {w w' : World} {v : Value} {f : List I} (h : FunAt w v f) (n : New w w') : FunAt w' v f := by
  rcases h with h | ⟨b, off, cap, h1, h2⟩
  · exact .inl h
  · exact .inr ⟨b, off, cap, h1, h2.new n⟩
theorem FunAt.nil (w : World) (ao : Option Addr) (cap : Nat) : FunAt w (.slice ao 0 cap) [] := .inl ⟨rfl, ao, cap, rfl⟩
def flat6 (f : List I) : List Value := f.flatMap cells6
theorem flat6_len : ∀ f : List I, (flat6 f).length = f.length * 6
  | [] => rfl
  | x :: f => by
    have := flat6_len f
    unfold flat6 at this ⊢
    rw [List.flatMap_cons, List.length_append, this, cells6_len, List.length_cons]
    omega
theorem flat6_app (f g : List I) : flat6 (f ++ g) = flat6 f ++ flat6 g := by unfold flat6; rw [List.flatMap_append]
theorem flat6_one (x : I) : flat6 [x] = cells6 x := by simp [flat6]
theorem flat6_at : ∀ (f : List I) (i : Nat) (h : i < f.length) (j : Nat), j < 6 → (flat6 f)[i * 6 + j]? = (cells6 f[i])[j]?
  | [], i, h, j, hj => absurd h (Nat.not_lt_zero _)
  | x :: f, 0, h, j, hj => by
    unfold flat6
    rw [List.flatMap_cons, List.getElem?_append_left (by rw [cells6_len]; omega)]
    simp
  | x :: f, i + 1, h, j, hj => by
    have := flat6_at f i (by simpa using h) j hj
    unfold flat6 at this ⊢
    rw [List.flatMap_cons, List.getElem?_append_right (by rw [cells6_len]; omega), cells6_len]
    rw [show (i + 1) * 6 + j - 6 = i * 6 + j by omega, this]
    simp
/-- A row of the call's own. -/
theorem fun_own {w : World} {base : Nat} {v : Value} {f : List I} (h : w.ownsRow base 72 6 v f.length (flat6 f)) : FunAt w v f := by
  rcases h.2 with ⟨hv, h0⟩ | ⟨g, cap, cur, hv, _⟩
  · exact .inl ⟨List.length_eq_zero_iff.mp h0, none, 0, hv⟩
  · refine .inr ⟨g, 0, cap, hv, fun i hi j u hu => ?_⟩
    have hj : j < 6 := by
      rw [← cells6_len f[i]]
      exact (List.getElem?_eq_some_iff.mp hu).1
    have := h.cells (g := g) (by rw [hv]; rfl) (i * 6 + j) u (by rw [flat6_at f i hi j hj]; exact hu)
    rw [Addr.add_mid] at this
    rw [show 0 + i * 6 + j = 0 + (i * 6 + j) by omega]
    exact this
/-- The load of an instruction that lies among others, at the operation. -/
theorem wpList_ldE {ops : Array Oper} {rest : List Oper} {op : Oper} {act : Act} {w : World} {Q : Exit → Act → World → Prop} (hgd : op.guard = none) (p : Operand) (ho : op.op = .load 72 p)
    (b o : Nat) (hx : act.eval p = .pointer (some ⟨b, o, none⟩)) {x : I} (h : w.rangeAt b o (cells6 x))
    (hk : wpList Tryz.prog ops Q rest (act.put op.dst (.agg #[.int .i64 (x).op, .int .i64 (x).d, .int .i64 (x).a, .int .i64 (x).b, .int .i64 (x).n, .int .i64 (x).t])) w) : wpList Tryz.prog ops Q (op :: rest) act w :=
  wpList_load_mid hgd _ p ho b o hx (cells6 x) _ h Tryz.underlying72 rfl (by rw [cells6_len]; exact infoI) hk
theorem FunAt.form {w : World} {v : Value} {f : List I} (h : FunAt w v f) : ∃ ao cap, v = .slice ao f.length cap := by
  rcases h with ⟨rfl, ao, cap, rfl⟩ | ⟨b, off, cap, rfl, _⟩
  · exact ⟨ao, cap, rfl⟩
  · exact ⟨_, cap, rfl⟩
end Go.Proofs.YtdghhedenjgjiaaGreatDoor
