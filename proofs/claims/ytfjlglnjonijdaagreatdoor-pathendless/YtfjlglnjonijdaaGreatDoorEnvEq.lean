/-
  Equality of sources, of tables, of words and of rows of words, as the program's operators reckon it.
-/
import Derived.Test.YtfjlglnjonijdaaGreatDoorEnvAfter
import Derived.Laws.StructEq
import Derived.ChangeKeysEq
namespace Go.Proofs.YtfjlglnjonijdaaGreatDoor
open Go.RowKit

theorem eqIn_was (d : Nat) (a b : Int) (w : World) : (Op.equalIn (d + 2) 72 (.agg #[.int .i64 a]) (.agg #[.int .i64 b])).run Tryz.prog w = .ok (a == b) w := by
  have hS : Tryz.prog.underlying 72 = some (.struct (Tryz.prog.fieldsOf 72)) := by kernel_rfl
  rw [run_equalIn_agg w (d + 1) 72 _ _ hS (by kernel_rfl)]
  simp only [Program.fieldsOf, Tryz.underlying72]
  have u3 := Tryz.underlying3
  have a3 := Tryz.isAgg3
  go_simp
  by_cases h1 : a = b <;> simp [h1]
theorem eqIn_is (d : Nat) (a b : Int) (w : World) : (Op.equalIn (d + 2) 74 (.agg #[.int .i64 a]) (.agg #[.int .i64 b])).run Tryz.prog w = .ok (a == b) w := by
  have hS : Tryz.prog.underlying 74 = some (.struct (Tryz.prog.fieldsOf 74)) := by kernel_rfl
  rw [run_equalIn_agg w (d + 1) 74 _ _ hS (by kernel_rfl)]
  simp only [Program.fieldsOf, Tryz.underlying74]
  have u3 := Tryz.underlying2
  have a3 := Tryz.isAgg2
  go_simp
  by_cases h1 : a = b <;> simp [h1]
theorem sv_iface {s : Sr} (h : okS s = true) : ∃ T v, sv s = .iface T v := by
  rcases ok_cases h with h | h
  · exact ⟨_, _, by unfold sv; rw [if_neg (by omega), if_pos h]⟩
  · exact ⟨_, _, by unfold sv; rw [if_pos h.1]⟩
theorem info_cmp (t : TypeId) (h : (Tryz.prog.info? t).map (·.comparable) = some true) : ∃ i, Tryz.prog.info? t = some i ∧ i.comparable = true := by
  cases hi : Tryz.prog.info? t with
  | none => rw [hi] at h; cases h
  | some i => rw [hi] at h; exact ⟨i, rfl, by simpa using h⟩
/-- Two sources that may be. -/
theorem eqIn_src (d : Nat) {s u : Sr} (hs : okS s = true) (hu : okS u = true) (w : World) : (Op.equalIn (d + 3) 36 (sv s) (sv u)).run Tryz.prog w = .ok (decide (s = u)) w := by
  obtain ⟨i, hi, hc⟩ := info_cmp 72 (by kernel_rfl)
  obtain ⟨j, hj, hd⟩ := info_cmp 74 (by kernel_rfl)
  have hw := eqIn_was d
  have hv := eqIn_is d
  have ht := run_underlying Tryz.underlying36 w
  rcases s_cases s with ⟨n, rfl⟩ | ⟨n, rfl⟩ | ⟨h0, h1⟩
  · rcases s_cases u with ⟨m, rfl⟩ | ⟨m, rfl⟩ | ⟨h2, h3⟩
    · rw [sv_was, sv_was, wasV, wasV]
      unfold Op.equalIn
      simp [ht, typeInfo, hi, hc, hw]
      by_cases h : n = m <;> simp [h]
    · rw [sv_was, sv_is, wasV, isV]
      unfold Op.equalIn
      simp [ht]
    · rcases ok_cases hu with h | h
      · exact absurd h h3
      · exact absurd h.1 h2
  · rcases s_cases u with ⟨m, rfl⟩ | ⟨m, rfl⟩ | ⟨h2, h3⟩
    · rw [sv_is, sv_was, wasV, isV]
      unfold Op.equalIn
      simp [ht]
    · rw [sv_is, sv_is, isV, isV]
      unfold Op.equalIn
      simp [ht, typeInfo, hj, hd, hv]
      by_cases h : n = m <;> simp [h]
    · rcases ok_cases hu with h | h
      · exact absurd h h3
      · exact absurd h.1 h2
  · rcases ok_cases hs with h | h
    · exact absurd h h1
    · exact absurd h.1 h0
theorem part_src (t : Tb) {k : Nat} (hk : k < 24) (w : World) : (part 36 (cellsT t) k).run Tryz.prog w = .ok (sv (t k)) w := by
  unfold part
  simp [Tryz.isAgg36 w, cellsT_at t hk]
theorem cellsSr : Tryz.prog.cellsOf 36 = 1 := by kernel_rfl
theorem info_some (t : TypeId) (h : (Tryz.prog.info? t).isSome = true) : ∃ i, Tryz.prog.info? t = some i := Option.isSome_iff_exists.mp h
def eqT (t u : Tb) : Bool := (List.range 24).all fun i => decide (t i = u i)
theorem items_src {t u : Tb} (ht : goodT t = true) (hu : goodT u = true) (d : Nat) (w : World) : ∀ is : List Nat, (∀ i ∈ is, i < 24) → (Op.eqItems (d + 3) 36 1 (cellsT t) (cellsT u) is).run Tryz.prog w = .ok (is.all fun i => decide (t i = u i)) w
  | [], _ => by simp [Op.eqItems]
  | i :: is, h => by
    have hi := h i (by simp)
    have ih := items_src ht hu d w is (fun j hj => h j (by simp [hj]))
    simp only [Op.eqItems, Sem.run_bind, Nat.mul_one, part_src t hi, part_src u hi, Result.andThen_ok, eqIn_src d (good_at ht hi) (good_at hu hi)]
    by_cases e : t i = u i
    · simp [e, ih]
    · simp [e]
theorem equal_T {t u : Tb} (ht : goodT t = true) (hu : goodT u = true) (w : World) : (Op.equalIn 10000 38 (.agg (cellsT t)) (.agg (cellsT u))).run Tryz.prog w = .ok (eqT t u) w := by
  obtain ⟨i, hi⟩ := info_some 36 (by kernel_rfl)
  rw [show (10000 : Nat) = 9999 + 1 from rfl, run_equalIn_array w 9999 _ _ Tryz.underlying38 hi, cellsSr]
  exact items_src ht hu 9996 w _ (fun i hi => List.mem_range.mp hi)
theorem binop_src {s u : Sr} (hs : okS s = true) (hu : okS u = true) (w : World) : (binOp .eql 36 (sv s) (sv u)).run Tryz.prog w = .ok (.bool (decide (s = u))) w := by
  have h := eqIn_src 9997 hs hu w
  obtain ⟨T, v, e⟩ := sv_iface hs
  obtain ⟨T', v', e'⟩ := sv_iface hu
  rw [e, e'] at h ⊢
  simp only [binOp]
  simp [Op.equal, Op.maxDepth, h]
theorem binop_srcN {s u : Sr} (hs : okS s = true) (hu : okS u = true) (w : World) : (binOp .neq 36 (sv s) (sv u)).run Tryz.prog w = .ok (.bool (!decide (s = u))) w := by
  have h := eqIn_src 9997 hs hu w
  obtain ⟨T, v, e⟩ := sv_iface hs
  obtain ⟨T', v', e'⟩ := sv_iface hu
  rw [e, e'] at h ⊢
  simp only [binOp]
  simp [Op.equal, Op.maxDepth, h]
theorem guard_src {s u : Sr} (hs : okS s = true) (hu : okS u = true) (op : BinOp) (x y : Operand) (w : World) : (eqGuard op 36 x y (sv s) (sv u)).run Tryz.prog w = .ok () w := by
  obtain ⟨T, v, e⟩ := sv_iface hs
  obtain ⟨T', v', e'⟩ := sv_iface hu
  rw [e, e']
  cases op <;> simp [eqGuard]
theorem guardIn_src (d : Nat) {s u : Sr} (hs : okS s = true) (hu : okS u = true) (w : World) : (Op.eqGuardIn (d + 1) 36 (sv s) (sv u)).run Tryz.prog w = .ok false w := by
  obtain ⟨T, v, e⟩ := sv_iface hs
  obtain ⟨T', v', e'⟩ := sv_iface hu
  rw [e, e']
  unfold Op.eqGuardIn
  simp [run_underlying Tryz.underlying36 w]
theorem guardIn_T (d : Nat) {t u : Tb} (ht : goodT t = true) (hu : goodT u = true) (w : World) : (Op.eqGuardIn (d + 2) 38 (.agg (cellsT t)) (.agg (cellsT u))).run Tryz.prog w = .ok false w := by
  obtain ⟨i, hi⟩ := info_some 36 (by kernel_rfl)
  have hsz := run_sizeOf (P := Tryz.prog) w hi
  rw [cellsSr] at hsz
  unfold Op.eqGuardIn
  simp only [Sem.run_bind, run_underlying Tryz.underlying38, Result.andThen_ok, hsz]
  simp only [Std.Legacy.Range.forIn_eq_forIn_range', Std.Legacy.Range.size, Nat.sub_zero, Nat.add_one_sub_one, Nat.div_one]
  have key : ∀ is : List Nat, (∀ i ∈ is, i < 24) → (forIn (m := Sem) is (none, PUnit.unit) (fun i (_ : Option Bool × PUnit) => do
      if (← Op.eqGuardIn (d + 1) 36 (← part 36 (cellsT t) i) (← part 36 (cellsT u) i)) = true then pure (ForInStep.done (some true, PUnit.unit)) else pure (ForInStep.yield (none, PUnit.unit)))).run Tryz.prog w = .ok (none, PUnit.unit) w := by
    intro is
    induction is with
    | nil => intro _; simp
    | cons j is ih =>
      intro h
      have hj := h j (by simp)
      simp [part_src t hj, part_src u hj, guardIn_src d (good_at ht hj) (good_at hu hj), ih (fun k hk => h k (by simp [hk]))]
  simp only [Nat.mul_one]
  rw [key _ (fun i hi => by simp at hi; omega)]
  rfl
theorem guard_T {t u : Tb} (ht : goodT t = true) (hu : goodT u = true) (op : BinOp) (x y : Operand) (w : World) : (eqGuard op 38 x y (.agg (cellsT t)) (.agg (cellsT u))).run Tryz.prog w = .ok () w := by
  have h := guardIn_T 9998 ht hu w
  have hm : Op.maxDepth = 9998 + 2 := rfl
  by_cases hg : Tryz.prog.eqGuardType Tryz.prog.depth 38 = true
  · cases op <;> simp [eqGuard, run_program, hg, hm, h]
  · cases op <;> simp [eqGuard, run_program, hg]
theorem eqT_iff {t u : Tb} : eqT t u = true ↔ ∀ i < 24, t i = u i := by simp [eqT]
/-- Two tables that are good, as the operators see them. -/
theorem eql_T {t u : Tb} (ht : goodT t = true) (hu : goodT u = true) (w : World) : (binOp .eql 38 (.agg (cellsT t)) (.agg (cellsT u))).run Tryz.prog w = .ok (.bool (eqT t u)) w := by
  rw [run_eql_struct, equal_T ht hu]; rfl
theorem neq_T {t u : Tb} (ht : goodT t = true) (hu : goodT u = true) (w : World) : (binOp .neq 38 (.agg (cellsT t)) (.agg (cellsT u))).run Tryz.prog w = .ok (.bool (!eqT t u)) w := by
  rw [run_neq_struct, equal_T ht hu]; rfl
end Go.Proofs.YtfjlglnjonijdaaGreatDoor
