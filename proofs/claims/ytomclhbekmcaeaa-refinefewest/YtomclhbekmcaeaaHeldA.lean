/-
  Regions that draw their order, their loads taken first: values out of cells, new variables of any type (two in whichever order), stores of any type.
-/
import Derived.Test.YtomclhbekmcaeaaCells
import Derived.Test.YtomclhbekmcaeaaOrders
namespace Go.Proofs.Ytomclhbekmcaeaa
open Go.RowKit

section
variable {ops : Array Oper} {S : World → Prop} {op : Oper} {act : Act}
theorem ldV_if (hw : Region.wanted op (yielded ops act.tmps) = true) (t : TypeId) (hagg : ∀ w, (isAgg t).run Try.prog w = .ok false w) (p : Operand) (ho : op.op = .load t p) (a : Addr) (hx : act.eval p = .pointer (some a)) {v : Value} (h : ∀ w, S w → w.cell? a = some v) :
    YieldsIf Try.prog ops S op v act := .inl ⟨hw, fun w hw' => by
  unfold execOp
  simp only [ho, hx, Instr.loadAt, Instr.sureAddr, loadVar, Sem.run_bind, Sem.run_pure, Result.andThen_ok, hagg w]
  simp [h w hw']⟩
theorem ixV_if (hw : Region.wanted op (yielded ops act.tmps) = true) (t : TypeId) (p i : Operand) (ho : op.op = .indexAddr t p i) (u k r : Value) (hx : act.eval p = u) (hi : act.eval i = k) (hr : ∀ w, (Instr.indexAt t u k).run Try.prog w = .ok r w) :
    YieldsIf Try.prog ops S op r act := .inl ⟨hw, fun w _ => by
  unfold execOp
  simp only [ho, hx, hi, hr w, Sem.run_bind, Sem.run_pure, Result.andThen_ok]⟩
end
theorem run_alO {op : Oper} (t : TypeId) (ho : op.op = .alloc t) (z : Value) (hz : ∀ w, (zeroValue t).run Try.prog w = .ok z w) (a : Act) (w : World) : (execOp a.eval op).run Try.prog w = .ok (.value (ptr w.heap.size)) (w.alloc (.cells z.cells t (0, 0))) := by
  unfold execOp
  simp only [ho, Instr.alloc, Sem.run_bind, hz w, Result.andThen_ok, newVar, newRow, run_newObj_alloc, Sem.run_pure]
  rfl
section
variable {P : Program} {md : Region.Mode} {ops : Array Oper} {S : World → Prop} {Q : Exit → Act → World → Prop}
def news2 (md : Region.Mode) (ops : Array Oper) (i j : Nat) (l : Array Bool) : Bool :=
  (Region.ready md ops l == [i, j]) && (Region.ready md ops (l.setIfInBounds i true) == [j]) && (Region.ready md ops (l.setIfInBounds j true) == [i])
/-- Two new variables, whichever comes up first. -/
theorem wpAnyH_new2 {i j : Nat} {oi oj : Oper} {o : Obj} {di dj : Tmp} {m : Nat} {l : Array Bool} {a : Act} {w : World}
    (hi : ops[i]? = some oi) (hj : ops[j]? = some oj) (ei : oi.dst = some di) (ej : oj.dst = some dj) (gi : oi.guard = none) (gj : oj.guard = none)
    (ri : ∀ (a : Act) (w : World), (execOp a.eval oi).run P w = .ok (.value (ptr w.heap.size)) (w.alloc o)) (rj : ∀ (a : Act) (w : World), (execOp a.eval oj).run P w = .ok (.value (ptr w.heap.size)) (w.alloc o))
    (hB : news2 md ops i j l = true) (hij : i ≠ j) (dij : di ≠ dj) (hS : ∀ w, S w → S (w.alloc o)) (hw : S w)
    (h : ∀ x y, w.heap.size ≤ x → w.heap.size ≤ y → x < w.heap.size + 2 → y < w.heap.size + 2 → x ≠ y → S ((w.alloc o).alloc o) → wpAnyH P md ops Q S m ((l.setIfInBounds i true).setIfInBounds j true) ((a.put (some di) (ptr x)).put (some dj) (ptr y)) ((w.alloc o).alloc o)) :
    wpAnyH P md ops Q S (m + 2) l a w := by
  simp only [news2, Bool.and_eq_true, beq_iff_eq] at hB
  obtain ⟨⟨b0, bi⟩, bj⟩ := hB
  have s1 := hS _ hw
  have s2 := hS _ s1
  have cij : (l.setIfInBounds j true).setIfInBounds i true = (l.setIfInBounds i true).setIfInBounds j true := Array.setIfInBounds_comm _ _ (Ne.symm hij)
  have z1 : (w.alloc o).heap.size = w.heap.size + 1 := alloc_size _ _
  refine wpAnyH_all b0 (by simp) ?_
  simp only [List.mem_cons, List.not_mem_nil, or_false]
  rintro t (rfl | rfl)
  · refine wpOp_value hi gi (ri a w) ⟨s1, ?_⟩
    refine wpAnyH_all bi (by simp) ?_
    simp only [List.mem_cons, List.not_mem_nil, or_false]
    rintro t rfl
    refine wpOp_value hj gj (rj _ _) ⟨s2, ?_⟩
    rw [ei, ej, z1]
    exact h _ _ (by omega) (by omega) (by omega) (by omega) (by omega) s2
  · refine wpOp_value hj gj (rj a w) ⟨s1, ?_⟩
    refine wpAnyH_all bj (by simp) ?_
    simp only [List.mem_cons, List.not_mem_nil, or_false]
    rintro t rfl
    refine wpOp_value hi gi (ri _ _) ⟨s2, ?_⟩
    rw [ei, ej, z1, cij, put_comm a (Ne.symm dij)]
    exact h _ _ (by omega) (by omega) (by omega) (by omega) (by omega) s2
end
/-- Two new blocks of one kind. -/
theorem two_al {w : World} {ty : TypeId} {cs : List Value} {x : Nat} (h0 : w.heap.size ≤ x) (h1 : x < w.heap.size + 2) : HasC ((w.alloc (.cells cs.toArray ty (0, 0))).alloc (.cells cs.toArray ty (0, 0))) x ty cs := by
  have z1 : (w.alloc (.cells cs.toArray ty (0, 0))).heap.size = w.heap.size + 1 := alloc_size _ _
  have : x = w.heap.size ∨ x = w.heap.size + 1 := by omega
  rcases this with rfl | e
  · exact HasC.new (HasC.box _ _ _) (alloc_new _ _)
  · have := HasC.box (w.alloc (.cells cs.toArray ty (0, 0))) ty cs
    rw [z1, ← e] at this
    exact this
theorem wpLS_stC {ops : Array Oper} {S : World → Prop} {Q : Exit → Act → World → Prop} {op : Oper} {rest : List Oper} {act : Act} {w : World} (hgd : op.guard = none) (hdst : op.dst = none) (t : TypeId) (a b : Operand) (ho : op.op = .store t a b) (g : Nat) (hx : act.eval a = .pointer (some ⟨g, 0, none⟩)) (u : Value) (hy : act.eval b = u)
    {ty : TypeId} {cs : List Value} (h : HasC w g ty cs) (xs : List Value) (hu : u.cells = xs.toArray) (hl : cs.length = xs.length) (h1 : ∀ v ∈ xs, v.oneCell' = true) (hi : (Try.prog.info? t).map (·.size) = some xs.length)
    (hk : ∀ w', HasC w' g ty xs → Kept g w w' → S w' ∧ wpLS Try.prog ops Q S rest act w') : wpLS Try.prog ops Q S (op :: rest) act w := by
  have hs := h.store 0 xs t u hu (by omega) h1 hi
  have hc : cs.take 0 ++ xs ++ cs.drop (0 + xs.length) = xs := by rw [List.take_zero, List.nil_append, List.drop_of_length_le (by omega), List.append_nil]
  rw [hc] at hs
  have hr : (execOp act.eval op).run Try.prog w = .ok .skip (putO w g (.cells xs.toArray ty (0, 0))) := by
    unfold execOp
    simp only [ho, hx, hy, hs, Sem.run_bind, Sem.run_pure, Result.andThen_ok]
  obtain ⟨h1, h2⟩ := hk _ (putO_same h) (Kept.put _ _ _)
  exact wpLS_skip hgd hr hdst h1 h2
/-! Regions whose last operation, a store into what was loaded, waits for all others: the class of worlds need not hold behind it. -/
section
variable {P : Program} {ops : Array Oper} {Q : Exit → Act → World → Prop} {md : Region.Mode} {S : World → Prop} {k : Nat}
/-- Whatever comes up: behind all but operation k the world is of the class. -/
def wpLate (P : Program) (md : Region.Mode) (ops : Array Oper) (Q : Exit → Act → World → Prop) (S : World → Prop) (k : Nat) : Nat → Array Bool → Act → World → Prop
  | 0, l, a, w => Region.ready md ops l = [] ∧ Q .normal a w
  | n + 1, l, a, w => (Region.ready md ops l = [] → Q .normal a w) ∧ ∀ i ∈ Region.ready md ops l, wpOp P ops Q i (fun a' w' => (i ≠ k → S w') ∧ wpLate P md ops Q S k n (l.setIfInBounds i true) a' w') a w
theorem late_any : ∀ (n : Nat) (l : Array Bool) (a : Act) (w : World), wpLate P md ops Q S k n l a w → wpAny P md ops Q n l a w
  | 0, _, _, _, h => h
  | n + 1, _, _, _, h => ⟨h.1, fun i hi => wpOp_mono (fun _ _ h2 => late_any n _ _ _ h2.2) (h.2 i hi)⟩
/-- Operation k waits for operation i. -/
def waits (md : Region.Mode) (ops : Array Oper) (k i : Nat) : Bool := ((ops[k]?).map fun o => o.after.any fun e => Region.binds md e && e.on == i).getD false
theorem waits_ready {l : Array Bool} {i : Nat} (hk : waits md ops k i = true) (hi : l.getD i true = false) : k ∉ Region.ready md ops l := by
  intro hr
  obtain ⟨_, o, ho, hall⟩ := mem_ready.1 hr
  unfold waits at hk
  rw [ho] at hk
  simp only [Option.map_some, Option.getD_some, Array.any_eq_true] at hk
  obtain ⟨j, hj, he⟩ := hk
  rw [Bool.and_eq_true, beq_iff_eq] at he
  have h1 := hall _ (Array.getElem_mem hj) he.1
  rw [he.2] at h1
  rcases Nat.lt_or_ge i l.size with h' | h'
  · simp [h'] at hi h1
    rw [hi] at h1
    cases h1
  · simp [Array.getElem?_eq_none h'] at hi
theorem late_first {i : Nat} {oi : Oper} {v : Value} (hi : ops[i]? = some oi) (hsel : ∀ (j : Nat) (o : Oper) cs b, ops[j]? = some o → o.op ≠ .select cs b)
    (hQ : ∀ c a w, Q (.panic c) (a.put oi.dst v) w → Q (.panic c) a w) (hw : waits md ops k i = true) :
    ∀ (n : Nat) (l : Array Bool) (a : Act) (w : World), (∀ j oj, ops[j]? = some oj → j ≠ i → l.getD j true = false → (∀ e ∈ oj.after, Region.binds md e = true → e.on ≠ i) → oi.apart ops oj = true) →
      i ∈ Region.ready md ops l → YieldsIf P ops S oi v a → S w → wpLate P md ops Q S k n (l.setIfInBounds i true) (a.put oi.dst v) w → wpLate P md ops Q S k (n + 1) l a w := by
  intro n
  induction n with
  | zero =>
    intro l a w _ hr hy hS H
    refine ⟨fun h => absurd hr (by rw [h]; simp), fun j hj => ?_⟩
    rcases Nat.decEq j i with hji | rfl
    · exact absurd (ready_mono hj hji) (by rw [H.1]; simp)
    · exact hy.wpOp hi hS ⟨fun _ => hS, H⟩
  | succ n ih =>
    intro l a w hfree hr hy hS H
    refine ⟨fun h => absurd hr (by rw [h]; simp), fun j hj => ?_⟩
    rcases Nat.decEq j i with hji | rfl
    · obtain ⟨hun, oj, hoj, hall⟩ := mem_ready.1 hj
      have hil : l.getD i true = false := by simpa using (mem_ready.1 hr).1
      have hjk : j ≠ k := fun e => waits_ready hw hil (e ▸ hj)
      have hno : ∀ e ∈ oj.after, Region.binds md e = true → e.on ≠ i := fun e he hb heq => by
        have h1 := hall e he hb
        rw [heq] at h1
        rcases Nat.lt_or_ge i l.size with h' | h'
        · simp [h'] at hil h1
          rw [hil] at h1
          cases h1
        · simp [Array.getElem?_eq_none h'] at h1
      refine wpOp_mono (fun a' w' h3 => ⟨fun _ => h3.2.1 hjk, ih _ a' w' (fun q oq hq hqi hqu hqn => hfree q oq hq hqi ?_ hqn) (ready_mono hr (Ne.symm hji)) h3.1 (h3.2.1 hjk) ?_⟩) (wpOp_putIf hoj (hfree j oj hoj hji hun hno) (fun cs b => hsel i oi cs b hi) (fun cs b => hsel j oj cs b hoj) hQ hy (H.2 j (ready_mono hj hji)))
      · by_cases e : j = q
        · rw [← e]; exact hun
        · rw [← getD_set_ne true e]; exact hqu
      · rw [Array.setIfInBounds_comm _ _ hji]
        exact h3.2.2
    · exact hy.wpOp hi hS ⟨fun _ => hS, H⟩
/-- An operation of one value is taken first. -/
theorem late_take {i : Nat} {oi : Oper} {v : Value} {n : Nat} {l : Array Bool} {a : Act} {w : World} (hi : ops[i]? = some oi)
    (hs : Region.noSelect ops = true) (hf : Region.free md ops l i = true) (hr : (Region.ready md ops l).contains i = true) (hw : waits md ops k i = true)
    (hQ : ∀ c a w, Q (.panic c) (a.put oi.dst v) w → Q (.panic c) a w) (hy : YieldsIf P ops S oi v a) (hS : S w)
    (h : wpLate P md ops Q S k n (l.setIfInBounds i true) (a.put oi.dst v) w) : wpLate P md ops Q S k (n + 1) l a w :=
  late_first hi (Region.noSelect_spec hs) hQ hw n l a w (Region.free_spec hi hf) (by simpa using hr) hy hS h
/-- One operation alone may come up. -/
theorem late_only {i : Nat} {n : Nat} {l : Array Bool} {a : Act} {w : World} (hr : Region.ready md ops l = [i]) (h : wpOp P ops Q i (fun a' w' => (i ≠ k → S w') ∧ wpLate P md ops Q S k n (l.setIfInBounds i true) a' w') a w) : wpLate P md ops Q S k (n + 1) l a w := by
  refine ⟨fun h0 => (by rw [hr] at h0; cases h0), ?_⟩
  rw [hr]
  intro j hj
  obtain rfl : j = i := by simpa using hj
  exact h
theorem late_call {i : Nat} {o : Oper} {n : Nat} {l : Array Bool} {a : Act} {w : World} (hi : ops[i]? = some o) (hg : o.guard = none) (hr : Region.ready md ops l = [i]) (f : FuncId) (args : Array Value) (hrun : (execOp a.eval o).run P w = .ok (.enter f args) w)
    (h : Calls P f args w fun e w' => ∃ v, e = .returned v ∧ S w' ∧ wpLate P md ops Q S k n (l.setIfInBounds i true) (a.put o.dst v) w') : wpLate P md ops Q S k (n + 1) l a w := by
  refine late_only hr ?_
  unfold wpOp
  simp only [hi, Region.wanted, hg, if_true]
  refine .inl ?_
  unfold Oper.wp
  rw [hrun]
  refine h.mono fun e w' ⟨v, he, h1, h2⟩ => ?_
  subst he
  exact ⟨fun _ => h1, h2⟩
/-- The last one. -/
theorem late_last {o : Oper} {l : Array Bool} {a : Act} {w w' : World} (hi : ops[k]? = some o) (hg : o.guard = none) (hd : o.dst = none) (hr : Region.ready md ops l = [k]) (hr2 : Region.ready md ops (l.setIfInBounds k true) = []) (hrun : (execOp a.eval o).run P w = .ok .skip w') (h : Q .normal a w') : wpLate P md ops Q S k 1 l a w := by
  refine late_only hr ?_
  unfold wpOp
  simp only [hi, Region.wanted, hg, if_true]
  refine .inl ?_
  unfold Oper.wp
  rw [hrun]
  show (k ≠ k → S w') ∧ wpLate P md ops Q S k 0 (l.setIfInBounds k true) (a.put o.dst undef) w'
  refine ⟨fun e => absurd rfl e, ?_⟩
  unfold wpLate
  rw [hd]
  exact ⟨hr2, h⟩
theorem region_late {id : Nat} {a : Act} {w : World} (hm : P.follows .mixedOrders = true) (hS : S w.drew) (h : S w.drew → wpLate P .any ops Q S k ops.size (Array.replicate ops.size false) a w.drew) : (Code.region id ops true).wp P Q a w :=
  wp_region_any hm (late_any _ _ _ _ (h hS))
end
/-- A whole block is stored. -/
theorem run_stC {op : Oper} {act : Act} {w : World} (t : TypeId) (a b : Operand) (ho : op.op = .store t a b) (g : Nat) (hx : act.eval a = .pointer (some ⟨g, 0, none⟩)) (u : Value) (hy : act.eval b = u) {ty : TypeId} {cs : List Value} (h : HasC w g ty cs) (xs : List Value) (hu : u.cells = xs.toArray) (hl : cs.length = xs.length) (h1 : ∀ v ∈ xs, v.oneCell' = true) (hi : (Try.prog.info? t).map (·.size) = some xs.length) :
    (execOp act.eval op).run Try.prog w = .ok .skip (putO w g (.cells xs.toArray ty (0, 0))) := by
  have hs := h.store 0 xs t u hu (by omega) h1 hi
  have hc : cs.take 0 ++ xs ++ cs.drop (0 + xs.length) = xs := by rw [List.take_zero, List.nil_append, List.drop_of_length_le (by omega), List.append_nil]
  rw [hc] at hs
  unfold execOp
  simp only [ho, hx, hy, hs, Sem.run_bind, Sem.run_pure, Result.andThen_ok]
theorem HasC.put {w : World} {g : Nat} {ty : TypeId} {cs : List Value} (h : HasC w g ty cs) (xs : List Value) : HasC (putO w g (.cells xs.toArray ty (0, 0))) g ty xs := putO_same h
end Go.Proofs.Ytomclhbekmcaeaa
