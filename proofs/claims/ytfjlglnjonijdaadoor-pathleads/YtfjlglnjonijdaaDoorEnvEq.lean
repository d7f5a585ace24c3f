/-
  Equality of sources, of tables, of words and of rows of words, as the program's operators reckon it.
-/
import Derived.Test.YtfjlglnjonijdaaDoorEnvAfter
import Derived.Laws.StructEq
import Derived.ChangeKeysEq
namespace Go.Proofs.YtfjlglnjonijdaaDoor
open Go.RowKit

theorem eqIn_was (d : Nat) (a b : Int) (w : World) : (Op.equalIn (d + 2) 58 (.agg #[.int .i64 a]) (.agg #[.int .i64 b])).run Tryd.prog w = .ok (a == b) w := by
  have hS : Tryd.prog.underlying 58 = some (.struct (Tryd.prog.fieldsOf 58)) := by kernel_rfl
  rw [run_equalIn_agg w (d + 1) 58 _ _ hS (by kernel_rfl)]
  simp only [Program.fieldsOf, Tryd.underlying58]
  have u3 := Tryd.underlying3
  have a3 := Tryd.isAgg3
  go_simp
  by_cases h1 : a = b <;> simp [h1]
theorem eqIn_is (d : Nat) (a b : Int) (w : World) : (Op.equalIn (d + 2) 63 (.agg #[.int .i64 a]) (.agg #[.int .i64 b])).run Tryd.prog w = .ok (a == b) w := by
  have hS : Tryd.prog.underlying 63 = some (.struct (Tryd.prog.fieldsOf 63)) := by kernel_rfl
  rw [run_equalIn_agg w (d + 1) 63 _ _ hS (by kernel_rfl)]
  simp only [Program.fieldsOf, Tryd.underlying63]
  have u3 := Tryd.underlying2
  have a3 := Tryd.isAgg2
  go_simp
  by_cases h1 : a = b <;> simp [h1]
theorem sv_iface {s : Sr} (h : okS s = true) : ∃ T v, sv s = .iface T v := by
  rcases ok_cases h with h | h
  · exact ⟨_, _, by unfold sv; rw [if_neg (by omega), if_pos h]⟩
  · exact ⟨_, _, by unfold sv; rw [if_pos h.1]⟩
theorem info_cmp (t : TypeId) (h : (Tryd.prog.info? t).map (·.comparable) = some true) : ∃ i, Tryd.prog.info? t = some i ∧ i.comparable = true := by
  cases hi : Tryd.prog.info? t with
  | none => rw [hi] at h; cases h
  | some i => rw [hi] at h; exact ⟨i, rfl, by simpa using h⟩
/-- Two sources that may be. -/
theorem eqIn_src (d : Nat) {s u : Sr} (hs : okS s = true) (hu : okS u = true) (w : World) : (Op.equalIn (d + 3) 25 (sv s) (sv u)).run Tryd.prog w = .ok (decide (s = u)) w := by
  obtain ⟨i, hi, hc⟩ := info_cmp 58 (by kernel_rfl)
  obtain ⟨j, hj, hd⟩ := info_cmp 63 (by kernel_rfl)
  have hw := eqIn_was d
  have hv := eqIn_is d
  have ht := run_underlying Tryd.underlying25 w
  rcases s_cases s with ⟨n, rfl⟩ | ⟨n, rfl⟩ | ⟨h0, h1⟩
  · rcases s_cases u with ⟨m, rfl⟩ | ⟨m, rfl⟩ | ⟨h2, h3⟩
    · rw [sv_was, sv_was, wasV, wasV]
      unfold Op.equalIn
      simp [ht, typeInfo, hi, hc, hw]
      by_cases h : n = m <;> simp [h]
    · rw [sv_was, sv_is, wasV, isV]
      unfold Op.equalIn
      simp [ht]
    · rcases ok_cases hu with h | h
      · exact absurd h h3
      · exact absurd h.1 h2
  · rcases s_cases u with ⟨m, rfl⟩ | ⟨m, rfl⟩ | ⟨h2, h3⟩
    · rw [sv_is, sv_was, wasV, isV]
      unfold Op.equalIn
      simp [ht]
    · rw [sv_is, sv_is, isV, isV]
      unfold Op.equalIn
      simp [ht, typeInfo, hj, hd, hv]
      by_cases h : n = m <;> simp [h]
    · rcases ok_cases hu with h | h
      · exact absurd h h3
      · exact absurd h.1 h2
  · rcases ok_cases hs with h | h
    · exact absurd h h1
    · exact absurd h.1 h0
theorem part_src (t : Tb) {k : Nat} (hk : k < 24) (w : World) : (part 25 (cellsT t) k).run Tryd.prog w = .ok (sv (t k)) w := by
  unfold part
  simp [Tryd.isAgg25 w, cellsT_at t hk]
theorem cellsSr : Tryd.prog.cellsOf 25 = 1 := by kernel_rfl
theorem info_some (t : TypeId) (h : (Tryd.prog.info? t).isSome = true) : ∃ i, Tryd.prog.info? t = some i := Option.isSome_iff_exists.mp h
def eqT (t u : Tb) : Bool := (List.range 24).all fun i => decide (t i = u i)
theorem items_src {t u : Tb} (ht : goodT t = true) (hu : goodT u = true) (d : Nat) (w : World) : ∀ is : List Nat, (∀ i ∈ is, i < 24) → (Op.eqItems (d + 3) 25 1 (cellsT t) (cellsT u) is).run Tryd.prog w = .ok (is.all fun i => decide (t i = u i)) w
  | [], _ => by simp [Op.eqItems]
  | i :: is, h => by
    have hi := h i (by simp)
    have ih := items_src ht hu d w is (fun j hj => h j (by simp [hj]))
    simp only [Op.eqItems, Sem.run_bind, Nat.mul_one, part_src t hi, part_src u hi, Result.andThen_ok, eqIn_src d (good_at ht hi) (good_at hu hi)]
    by_cases e : t i = u i
    · simp [e, ih]
    · simp [e]
theorem equal_T {t u : Tb} (ht : goodT t = true) (hu : goodT u = true) (w : World) : (Op.equalIn 10000 27 (.agg (cellsT t)) (.agg (cellsT u))).run Tryd.prog w = .ok (eqT t u) w := by
  obtain ⟨i, hi⟩ := info_some 25 (by kernel_rfl)
  rw [show (10000 : Nat) = 9999 + 1 from rfl, run_equalIn_array w 9999 _ _ Tryd.underlying27 hi, cellsSr]
  exact items_src ht hu 9996 w _ (fun i hi => List.mem_range.mp hi)
theorem binop_src {s u : Sr} (hs : okS s = true) (hu : okS u = true) (w : World) : (binOp .eql 25 (sv s) (sv u)).run Tryd.prog w = .ok (.bool (decide (s = u))) w := by
  have h := eqIn_src 9997 hs hu w
  obtain ⟨T, v, e⟩ := sv_iface hs
  obtain ⟨T', v', e'⟩ := sv_iface hu
  rw [e, e'] at h ⊢
  simp only [binOp]
  simp [Op.equal, Op.maxDepth, h]
theorem binop_srcN {s u : Sr} (hs : okS s = true) (hu : okS u = true) (w : World) : (binOp .neq 25 (sv s) (sv u)).run Tryd.prog w = .ok (.bool (!decide (s = u))) w := by
  have h := eqIn_src 9997 hs hu w
  obtain ⟨T, v, e⟩ := sv_iface hs
  obtain ⟨T', v', e'⟩ := sv_iface hu
  rw [e, e'] at h ⊢
  simp only [binOp]
  simp [Op.equal, Op.maxDepth, h]
theorem guard_src {s u : Sr} (hs : okS s = true) (hu : okS u = true) (op : BinOp) (x y : Operand) (w : World) : (eqGuard op 25 x y (sv s) (sv u)).run Tryd.prog w = .ok () w := by
  obtain ⟨T, v, e⟩ := sv_iface hs
  obtain ⟨T', v', e'⟩ := sv_iface hu
  rw [e, e']
  cases op <;> simp [eqGuard]
theorem guardIn_src (d : Nat) {s u : Sr} (hs : okS s = true) (hu : okS u = true) (w : World) : (Op.eqGuardIn (d + 1) 25 (sv s) (sv u)).run Tryd.prog w = .ok false w := by
  obtain ⟨T, v, e⟩ := sv_iface hs
  obtain ⟨T', v', e'⟩ := sv_iface hu
  rw [e, e']
  unfold Op.eqGuardIn
  simp [run_underlying Tryd.underlying25 w]
theorem guardIn_T (d : Nat) {t u : Tb} (ht : goodT t = true) (hu : goodT u = true) (w : World) : (Op.eqGuardIn (d + 2) 27 (.agg (cellsT t)) (.agg (cellsT u))).run Tryd.prog w = .ok false w := by
  obtain ⟨i, hi⟩ := info_some 25 (by kernel_rfl)
  have hsz := run_sizeOf (P := Tryd.prog) w hi
  rw [cellsSr] at hsz
  unfold Op.eqGuardIn
  simp only [Sem.run_bind, run_underlying Tryd.underlying27, Result.andThen_ok, hsz]
  simp only [Std.Legacy.Range.forIn_eq_forIn_range', Std.Legacy.Range.size, Nat.sub_zero, Nat.add_one_sub_one, Nat.div_one]
  have key : ∀ is : List Nat, (∀ i ∈ is, i < 24) → (forIn (m := Sem) is (none, PUnit.unit) (fun i (_ : Option Bool × PUnit) => do
      if (← Op.eqGuardIn (d + 1) 25 (← part 25 (cellsT t) i) (← part 25 (cellsT u) i)) = true then pure (ForInStep.done (some true, PUnit.unit)) else pure (ForInStep.yield (none, PUnit.unit)))).run Tryd.prog w = .ok (none, PUnit.unit) w := by
    intro is
    induction is with
    | nil => intro _; simp
    | cons j is ih =>
      intro h
      have hj := h j (by simp)
      simp [part_src t hj, part_src u hj, guardIn_src d (good_at ht hj) (good_at hu hj), ih (fun k hk => h k (by simp [hk]))]
  simp only [Nat.mul_one]
  rw [key _ (fun i hi => by simp at hi; omega)]
  rfl
theorem guard_T {t u : Tb} (ht : goodT t = true) (hu : goodT u = true) (op : BinOp) (x y : Operand) (w : World) : (eqGuard op 27 x y (.agg (cellsT t)) (.agg (cellsT u))).run Tryd.prog w = .ok () w := by
  have h := guardIn_T 9998 ht hu w
  have hm : Op.maxDepth = 9998 + 2 := rfl
  by_cases hg : Tryd.prog.eqGuardType Tryd.prog.depth 27 = true
  · cases op <;> simp [eqGuard, run_program, hg, hm, h]
  · cases op <;> simp [eqGuard, run_program, hg]
theorem eqT_iff {t u : Tb} : eqT t u = true ↔ ∀ i < 24, t i = u i := by simp [eqT]
/-- Two tables that are good, as the operators see them. -/
theorem eql_T {t u : Tb} (ht : goodT t = true) (hu : goodT u = true) (w : World) : (binOp .eql 27 (.agg (cellsT t)) (.agg (cellsT u))).run Tryd.prog w = .ok (.bool (eqT t u)) w := by
  rw [run_eql_struct, equal_T ht hu]; rfl
theorem neq_T {t u : Tb} (ht : goodT t = true) (hu : goodT u = true) (w : World) : (binOp .neq 27 (.agg (cellsT t)) (.agg (cellsT u))).run Tryd.prog w = .ok (.bool (!eqT t u)) w := by
  rw [run_neq_struct, equal_T ht hu]; rfl
end Go.Proofs.YtfjlglnjonijdaaDoor
