/-
  Regions that draw their order, their loads taken first: values out of cells, new variables of any type (two in whichever order), stores of any type; elements of two cells in a block of the call's own.
-/
import Derived.Test.YtphopkjgfkaihaaGreatDoorCells
import Derived.Test.YtphopkjgfkaihaaGreatDoorOrders
import Derived.Test.YtphopkjgfkaihaaGreatDoorOwn2
namespace Go.Proofs.YtphopkjgfkaihaaGreatDoor
open Go.RowKit

section
variable {ops : Array Oper} {S : World → Prop} {op : Oper} {act : Act}
theorem ldV_if (hw : Region.wanted op (yielded ops act.tmps) = true) (t : TypeId) (hagg : ∀ w, (isAgg t).run Tryz.prog w = .ok false w) (p : Operand) (ho : op.op = .load t p) (a : Addr) (hx : act.eval p = .pointer (some a)) {v : Value} (h : ∀ w, S w → w.cell? a = some v) :
    YieldsIf Tryz.prog ops S op v act := .inl ⟨hw, fun w hw' => by
  unfold execOp
  simp only [ho, hx, Instr.loadAt, Instr.sureAddr, loadVar, Sem.run_bind, Sem.run_pure, Result.andThen_ok, hagg w]
  simp [h w hw']⟩
theorem ixV_if (hw : Region.wanted op (yielded ops act.tmps) = true) (t : TypeId) (p i : Operand) (ho : op.op = .indexAddr t p i) (u k r : Value) (hx : act.eval p = u) (hi : act.eval i = k) (hr : ∀ w, (Instr.indexAt t u k).run Tryz.prog w = .ok r w) :
    YieldsIf Tryz.prog ops S op r act := .inl ⟨hw, fun w _ => by
  unfold execOp
  simp only [ho, hx, hi, hr w, Sem.run_bind, Sem.run_pure, Result.andThen_ok]⟩
end
theorem run_alO {op : Oper} (t : TypeId) (ho : op.op = .alloc t) (z : Value) (hz : ∀ w, (zeroValue t).run Tryz.prog w = .ok z w) (a : Act) (w : World) : (execOp a.eval op).run Tryz.prog w = .ok (.value (ptr w.heap.size)) (w.alloc (.cells z.cells t (0, 0))) := by
  unfold execOp
  simp only [ho, Instr.alloc, Sem.run_bind, hz w, Result.andThen_ok, newVar, newRow, run_newObj_alloc, Sem.run_pure]
  rfl
section
variable {P : Program} {md : Region.Mode} {ops : Array Oper} {S : World → Prop} {Q : Exit → Act → World → Prop}
def news2 (md : Region.Mode) (ops : Array Oper) (i j : Nat) (l : Array Bool) : Bool :=
  (Region.ready md ops l == [i, j]) && (Region.ready md ops (l.setIfInBounds i true) == [j]) && (Region.ready md ops (l.setIfInBounds j true) == [i])
/-- Two new variables, whichever comes up first. -/
theorem wpAnyH_new2 {i j : Nat} {oi oj : Oper} {o : Obj} {di dj : Tmp} {m : Nat} {l : Array Bool} {a : Act} {w : World}
    (hi : ops[i]? = some oi) (hj : ops[j]? = some oj) (ei : oi.dst = some di) (ej : oj.dst = some dj) (gi : oi.guard = none) (gj : oj.guard = none)
    (ri : ∀ (a : Act) (w : World), (execOp a.eval oi).run P w = .ok (.value (ptr w.heap.size)) (w.alloc o)) (rj : ∀ (a : Act) (w : World), (execOp a.eval oj).run P w = .ok (.value (ptr w.heap.size)) (w.alloc o))
    (hB : news2 md ops i j l = true) (hij : i ≠ j) (dij : di ≠ dj) (hS : ∀ w, S w → S (w.alloc o)) (hw : S w)
    (h : ∀ x y, w.heap.size ≤ x → w.heap.size ≤ y → x < w.heap.size + 2 → y < w.heap.size + 2 → x ≠ y → S ((w.alloc o).alloc o) → wpAnyH P md ops Q S m ((l.setIfInBounds i true).setIfInBounds j true) ((a.put (some di) (ptr x)).put (some dj) (ptr y)) ((w.alloc o).alloc o)) :
    wpAnyH P md ops Q S (m + 2) l a w := by
  simp only [news2, Bool.and_eq_true, beq_iff_eq] at hB
  obtain ⟨⟨b0, bi⟩, bj⟩ := hB
  have s1 := hS _ hw
  have s2 := hS _ s1
  have cij : (l.setIfInBounds j true).setIfInBounds i true = (l.setIfInBounds i true).setIfInBounds j true := Array.setIfInBounds_comm _ _ (Ne.symm hij)
  have z1 : (w.alloc o).heap.size = w.heap.size + 1 := alloc_size _ _
  refine wpAnyH_all b0 (by simp) ?_
  simp only [List.mem_cons, List.not_mem_nil, or_false]
  rintro t (rfl | rfl)
  · refine wpOp_value hi gi (ri a w) ⟨s1, ?_⟩
    refine wpAnyH_all bi (by simp) ?_
    simp only [List.mem_cons, List.not_mem_nil, or_false]
    rintro t rfl
    refine wpOp_value hj gj (rj _ _) ⟨s2, ?_⟩
    rw [ei, ej, z1]
    exact h _ _ (by omega) (by omega) (by omega) (by omega) (by omega) s2
  · refine wpOp_value hj gj (rj a w) ⟨s1, ?_⟩
    refine wpAnyH_all bj (by simp) ?_
    simp only [List.mem_cons, List.not_mem_nil, or_false]
    rintro t rfl
    refine wpOp_value hi gi (ri _ _) ⟨s2, ?_⟩
    rw [ei, ej, z1, cij, put_comm a (Ne.symm dij)]
    exact h _ _ (by omega) (by omega) (by omega) (by omega) (by omega) s2
end
/-- Two new blocks of one kind. -/
theorem two_al {w : World} {ty : TypeId} {cs : List Value} {x : Nat} (h0 : w.heap.size ≤ x) (h1 : x < w.heap.size + 2) : HasC ((w.alloc (.cells cs.toArray ty (0, 0))).alloc (.cells cs.toArray ty (0, 0))) x ty cs := by
  have z1 : (w.alloc (.cells cs.toArray ty (0, 0))).heap.size = w.heap.size + 1 := alloc_size _ _
  have : x = w.heap.size ∨ x = w.heap.size + 1 := by omega
  rcases this with rfl | e
  · exact HasC.new (HasC.box _ _ _) (alloc_new _ _)
  · have := HasC.box (w.alloc (.cells cs.toArray ty (0, 0))) ty cs
    rw [z1, ← e] at this
    exact this
theorem wpLS_stC {ops : Array Oper} {S : World → Prop} {Q : Exit → Act → World → Prop} {op : Oper} {rest : List Oper} {act : Act} {w : World} (hgd : op.guard = none) (hdst : op.dst = none) (t : TypeId) (a b : Operand) (ho : op.op = .store t a b) (g : Nat) (hx : act.eval a = .pointer (some ⟨g, 0, none⟩)) (u : Value) (hy : act.eval b = u)
    {ty : TypeId} {cs : List Value} (h : HasC w g ty cs) (xs : List Value) (hu : u.cells = xs.toArray) (hl : cs.length = xs.length) (h1 : ∀ v ∈ xs, v.oneCell' = true) (hi : (Tryz.prog.info? t).map (·.size) = some xs.length)
    (hk : ∀ w', HasC w' g ty xs → Kept g w w' → S w' ∧ wpLS Tryz.prog ops Q S rest act w') : wpLS Tryz.prog ops Q S (op :: rest) act w := by
  have hs := h.store 0 xs t u hu (by omega) h1 hi
  have hc : cs.take 0 ++ xs ++ cs.drop (0 + xs.length) = xs := by rw [List.take_zero, List.nil_append, List.drop_of_length_le (by omega), List.append_nil]
  rw [hc] at hs
  have hr : (execOp act.eval op).run Tryz.prog w = .ok .skip (putO w g (.cells xs.toArray ty (0, 0))) := by
    unfold execOp
    simp only [ho, hx, hy, hs, Sem.run_bind, Sem.run_pure, Result.andThen_ok]
  obtain ⟨h1, h2⟩ := hk _ (putO_same h) (Kept.put _ _ _)
  exact wpLS_skip hgd hr hdst h1 h2
/-! Regions whose last operation, a store into what was loaded, waits for all others: the class of worlds need not hold behind it. -/
section
variable {P : Program} {ops : Array Oper} {Q : Exit → Act → World → Prop} {md : Region.Mode} {S : World → Prop} {k : Nat}
/-- Whatever comes up: behind all but operation k the world is of the class. -/
def wpLate (P : Program) (md : Region.Mode) (ops : Array Oper) (Q : Exit → Act → World → Prop) (S : World → Prop) (k : Nat) : Nat → Array Bool → Act → World → Prop
  | 0, l, a, w => Region.ready md ops l = [] ∧ Q .normal a w
  | n + 1, l, a, w => (Region.ready md ops l = [] → Q .normal a w) ∧ ∀ i ∈ Region.ready md ops l, wpOp P ops Q i (fun a' w' => (i ≠ k → S w') ∧ wpLate P md ops Q S k n (l.setIfInBounds i true) a' w') a w
theorem late_any : ∀ (n : Nat) (l : Array Bool) (a : Act) (w : World), wpLate P md ops Q S k n l a w → wpAny P md ops Q n l a w
  | 0, _, _, _, h => h
  | n + 1, _, _, _, h => ⟨h.1, fun i hi => wpOp_mono (fun _ _ h2 => late_any n _ _ _ h2.2) (h.2 i hi)⟩
/-- Operation k waits for operation i. -/
def waits (md : Region.Mode) (ops : Array Oper) (k i : Nat) : Bool := ((ops[k]?).map fun o => o.after.any fun e => Region.binds md e && e.on == i).getD false
theorem waits_ready {l : Array Bool} {i : Nat} (hk : waits md ops k i = true) (hi : l.getD i true = false) : k ∉ Region.ready md ops l := by
  intro hr
  obtain ⟨_, o, ho, hall⟩ := mem_ready.1 hr
  unfold waits at hk
  rw [ho] at hk
  simp only [Option.map_some, Option.getD_some, Array.any_eq_true] at hk
  obtain ⟨j, hj, he⟩ := hk
  rw [Bool.and_eq_true, beq_iff_eq] at he
  have h1 := hall _ (Array.getElem_mem hj) he.1
  rw [he.2] at h1
  rcases Nat.lt_or_ge i l.size with h' | h'
  · simp [h'] at hi h1
    rw [hi] at h1
    cases h1
  · simp [Array.getElem?_eq_none h'] at hi
theorem late_first {i : Nat} {oi : Oper} {v : Value} (hi : ops[i]? = some oi) (hsel : ∀ (j : Nat) (o : Oper) cs b, ops[j]? = some o → o.op ≠ .select cs b)
    (hQ : ∀ c a w, Q (.panic c) (a.put oi.dst v) w → Q (.panic c) a w) (hw : waits md ops k i = true) :
    ∀ (n : Nat) (l : Array Bool) (a : Act) (w : World), (∀ j oj, ops[j]? = some oj → j ≠ i → l.getD j true = false → (∀ e ∈ oj.after, Region.binds md e = true → e.on ≠ i) → oi.apart ops oj = true) →
      i ∈ Region.ready md ops l → YieldsIf P ops S oi v a → S w → wpLate P md ops Q S k n (l.setIfInBounds i true) (a.put oi.dst v) w → wpLate P md ops Q S k (n + 1) l a w := by
  intro n
  induction n with
  | zero =>
    intro l a w _ hr hy hS H
    refine ⟨fun h => absurd hr (by rw [h]; simp), fun j hj => ?_⟩
    rcases Nat.decEq j i with hji | rfl
    · exact absurd (ready_mono hj hji) (by rw [H.1]; simp)
    · exact hy.wpOp hi hS ⟨fun _ => hS, H⟩
  | succ n ih =>
    intro l a w hfree hr hy hS H
    refine ⟨fun h => absurd hr (by rw [h]; simp), fun j hj => ?_⟩
    rcases Nat.decEq j i with hji | rfl
    · obtain ⟨hun, oj, hoj, hall⟩ := mem_ready.1 hj
      have hil : l.getD i true = false := by simpa using (mem_ready.1 hr).1
      have hjk : j ≠ k := fun e => waits_ready hw hil (e ▸ hj)
      have hno : ∀ e ∈ oj.after, Region.binds md e = true → e.on ≠ i := fun e he hb heq => by
        have h1 := hall e he hb
        rw [heq] at h1
        rcases Nat.lt_or_ge i l.size with h' | h'
        · simp [h'] at hil h1
          rw [hil] at h1
          cases h1
        · simp [Array.getElem?_eq_none h'] at h1
      refine wpOp_mono (fun a' w' h3 => ⟨fun _ => h3.2.1 hjk, ih _ a' w' (fun q oq hq hqi hqu hqn => hfree q oq hq hqi ?_ hqn) (ready_mono hr (Ne.symm hji)) h3.1 (h3.2.1 hjk) ?_⟩) (wpOp_putIf hoj (hfree j oj hoj hji hun hno) (fun cs b => hsel i oi cs b hi) (fun cs b => hsel j oj cs b hoj) hQ hy (H.2 j (ready_mono hj hji)))
      · by_cases e : j = q
        · rw [← e]; exact hun
        · rw [← getD_set_ne true e]; exact hqu
      · rw [Array.setIfInBounds_comm _ _ hji]
        exact h3.2.2
    · exact hy.wpOp hi hS ⟨fun _ => hS, H⟩
/-- An operation of one value is taken first. -/
theorem late_take {i : Nat} {oi : Oper} {v : Value} {n : Nat} {l : Array Bool} {a : Act} {w : World} (hi : ops[i]? = some oi)
    (hs : Region.noSelect ops = true) (hf : Region.free md ops l i = true) (hr : (Region.ready md ops l).contains i = true) (hw : waits md ops k i = true)
    (hQ : ∀ c a w, Q (.panic c) (a.put oi.dst v) w → Q (.panic c) a w) (hy : YieldsIf P ops S oi v a) (hS : S w)
    (h : wpLate P md ops Q S k n (l.setIfInBounds i true) (a.put oi.dst v) w) : wpLate P md ops Q S k (n + 1) l a w :=
  late_first hi (Region.noSelect_spec hs) hQ hw n l a w (Region.free_spec hi hf) (by simpa using hr) hy hS h
/-- One operation alone may come up. -/
theorem late_only {i : Nat} {n : Nat} {l : Array Bool} {a : Act} {w : World} (hr : Region.ready md ops l = [i]) (h : wpOp P ops Q i (fun a' w' => (i ≠ k → S w') ∧ wpLate P md ops Q S k n (l.setIfInBounds i true) a' w') a w) : wpLate P md ops Q S k (n + 1) l a w := by
  refine ⟨fun h0 => (by rw [hr] at h0; cases h0), ?_⟩
  rw [hr]
  intro j hj
  obtain rfl : j = i := by simpa using hj
  exact h
theorem late_call {i : Nat} {o : Oper} {n : Nat} {l : Array Bool} {a : Act} {w : World} (hi : ops[i]? = some o) (hg : o.guard = none) (hr : Region.ready md ops l = [i]) (f : FuncId) (args : Array Value) (hrun : (execOp a.eval o).run P w = .ok (.enter f args) w)
    (h : Calls P f args w fun e w' => ∃ v, e = .returned v ∧ S w' ∧ wpLate P md ops Q S k n (l.setIfInBounds i true) (a.put o.dst v) w') : wpLate P md ops Q S k (n + 1) l a w := by
  refine late_only hr ?_
  unfold wpOp
  simp only [hi, Region.wanted, hg, if_true]
  refine .inl ?_
  unfold Oper.wp
  rw [hrun]
  refine h.mono fun e w' ⟨v, he, h1, h2⟩ => ?_
  subst he
  exact ⟨fun _ => h1, h2⟩
/-- The last one. -/
theorem late_last {o : Oper} {l : Array Bool} {a : Act} {w w' : World} (hi : ops[k]? = some o) (hg : o.guard = none) (hd : o.dst = none) (hr : Region.ready md ops l = [k]) (hr2 : Region.ready md ops (l.setIfInBounds k true) = []) (hrun : (execOp a.eval o).run P w = .ok .skip w') (h : Q .normal a w') : wpLate P md ops Q S k 1 l a w := by
  refine late_only hr ?_
  unfold wpOp
  simp only [hi, Region.wanted, hg, if_true]
  refine .inl ?_
  unfold Oper.wp
  rw [hrun]
  show (k ≠ k → S w') ∧ wpLate P md ops Q S k 0 (l.setIfInBounds k true) (a.put o.dst undef) w'
  refine ⟨fun e => absurd rfl e, ?_⟩
  unfold wpLate
  rw [hd]
  exact ⟨hr2, h⟩
theorem region_late {id : Nat} {a : Act} {w : World} (hm : P.follows .mixedOrders = true) (hS : S w.drew) (h : S w.drew → wpLate P .any ops Q S k ops.size (Array.replicate ops.size false) a w.drew) : (Code.region id ops true).wp P Q a w :=
  wp_region_any hm (late_any _ _ _ _ (h hS))
end
/-- A whole block is stored. -/
theorem run_stC {op : Oper} {act : Act} {w : World} (t : TypeId) (a b : Operand) (ho : op.op = .store t a b) (g : Nat) (hx : act.eval a = .pointer (some ⟨g, 0, none⟩)) (u : Value) (hy : act.eval b = u) {ty : TypeId} {cs : List Value} (h : HasC w g ty cs) (xs : List Value) (hu : u.cells = xs.toArray) (hl : cs.length = xs.length) (h1 : ∀ v ∈ xs, v.oneCell' = true) (hi : (Tryz.prog.info? t).map (·.size) = some xs.length) :
    (execOp act.eval op).run Tryz.prog w = .ok .skip (putO w g (.cells xs.toArray ty (0, 0))) := by
  have hs := h.store 0 xs t u hu (by omega) h1 hi
  have hc : cs.take 0 ++ xs ++ cs.drop (0 + xs.length) = xs := by rw [List.take_zero, List.nil_append, List.drop_of_length_le (by omega), List.append_nil]
  rw [hc] at hs
  unfold execOp
  simp only [ho, hx, hy, hs, Sem.run_bind, Sem.run_pure, Result.andThen_ok]
theorem HasC.put {w : World} {g : Nat} {ty : TypeId} {cs : List Value} (h : HasC w g ty cs) (xs : List Value) : HasC (putO w g (.cells xs.toArray ty (0, 0))) g ty xs := putO_same h
/-! Elements of two cells in a block of the call's own. -/
def RwE (w : World) (e : TypeId) (k n : Nat) (g : Nat → List Value) : Prop := ∃ cs : List Value, HasC w k e cs ∧ n * 2 ≤ cs.length ∧ cs.take (n * 2) = flatG g n
def updG (g : Nat → List Value) (i : Nat) (c : List Value) : Nat → List Value := fun j => if j = i then c else g j
theorem OwnG.block {w : World} {B n : Nat} {e : TypeId} {v : Value} {g : Nat → List Value} (h : OwnG w B e v n g) (hn : 0 < n) : ∃ k cap, v = .slice (some ⟨k, 0, none⟩) n cap ∧ B ≤ k ∧ RwE w e k n g := by
  rcases h.2 with ⟨_, h0⟩ | ⟨k, cap, cur, hv, hb, hk, h4⟩
  · omega
  · obtain ⟨h5, _, h6, h7⟩ := h4
    refine ⟨k, cap, hv, hb, cur.toList, hk, ?_, h7⟩
    rw [Array.length_toList, h6]
    exact Nat.mul_le_mul_right 2 h5
section
variable {w w' : World} {e : TypeId} {k n : Nat} {g : Nat → List Value}
theorem RwE.new (h : RwE w e k n g) (hn : New w w') : RwE w' e k n g := let ⟨cs, h1, h2, h3⟩ := h; ⟨cs, h1.new hn, h2, h3⟩
theorem RwE.kept {j : Nat} (h : RwE w e k n g) (hk : Kept j w w') (hj : k ≠ j) : RwE w' e k n g := let ⟨cs, h1, h2, h3⟩ := h; ⟨cs, h1.kept hk hj, h2, h3⟩
theorem RwE.lt (h : RwE w e k n g) : k < w.heap.size := let ⟨_, h1, _⟩ := h; h1.lt
theorem RwE.range (h : RwE w e k n g) (hl : ∀ i, (g i).length = 2) {i : Nat} (hi : i < n) : w.rangeAt k (i * 2) (g i) := by
  obtain ⟨cs, h1, h2, h3⟩ := h
  refine h1.range _ _ fun j v hj => ?_
  have hj2 : j < 2 := by rw [← hl i]; exact (List.getElem?_eq_some_iff.mp hj).1
  have := flatG_at hl n i j hi hj2
  rw [← h3, List.getElem?_take, if_pos (by omega)] at this
  rw [this]
  exact hj
theorem RwE.el (h : RwE w e k n g) (hl : ∀ i, (g i).length = 2) (cap : Nat) : ElAt w (.slice (some ⟨k, 0, none⟩) n cap) n g :=
  ⟨some ⟨k, 0, none⟩, cap, rfl, fun i hi => ⟨k, 0, rfl, by rw [Nat.zero_add]; exact h.range hl hi⟩⟩
theorem flatG_set {g : Nat → List Value} (hl : ∀ i, (g i).length = 2) {n i : Nat} (hi : i < n) {c : List Value} (hc : c.length = 2) {cs : List Value} (hs : n * 2 ≤ cs.length) (h : cs.take (n * 2) = flatG g n) : (cs.take (i * 2) ++ c ++ cs.drop (i * 2 + c.length)).take (n * 2) = flatG (updG g i c) n := by
  have hl2 : ∀ j, (updG g i c j).length = 2 := fun j => by unfold updG; split; exact hc; exact hl j
  apply List.ext_getElem?
  intro q
  by_cases hq : q < n * 2
  · rw [List.getElem?_take, if_pos hq]
    obtain ⟨j, r, hr, rfl⟩ : ∃ j r, r < 2 ∧ q = j * 2 + r := ⟨q / 2, q % 2, by omega, by omega⟩
    rw [flatG_at hl2 n j r (by omega) hr]
    have ht : (cs.take (i * 2)).length = i * 2 := by rw [List.length_take]; omega
    unfold updG
    by_cases e : j = i
    · subst e
      rw [if_pos rfl, List.append_assoc, List.getElem?_append_right (by omega), ht, show j * 2 + r - j * 2 = r by omega, List.getElem?_append_left (by omega)]
    · rw [if_neg e]
      have h0 := flatG_at hl n j r (by omega) hr
      rw [← h, List.getElem?_take, if_pos hq] at h0
      rw [← h0]
      by_cases hlt : j < i
      · rw [List.append_assoc, List.getElem?_append_left (by omega), List.getElem?_take, if_pos (by omega)]
      · rw [List.append_assoc, List.getElem?_append_right (by omega), ht, List.getElem?_append_right (by omega), hc, List.getElem?_drop]
        congr 1
        omega
  · rw [List.getElem?_eq_none (by rw [List.length_take]; omega), List.getElem?_eq_none (by rw [flatG_len hl2]; omega)]
end
/-- An element is stored. -/
theorem wpList_stE2 {ops : Array Oper} {rest : List Oper} {op : Oper} {act : Act} {w : World} {Q : Exit → Act → World → Prop} (hgd : op.guard = none) (hdst : op.dst = none) (e : TypeId) (a b : Operand) (ho : op.op = .store e a b) (k i n : Nat) (hi : i < n) (hx : act.eval a = .pointer (some ⟨k, i * 2, none⟩)) (c0 c1 : Value) (hy : act.eval b = .agg #[c0, c1])
    (h0 : c0.oneCell' = true) (h1 : c1.oneCell' = true) (hs : (Tryz.prog.info? e).map (·.size) = some 2) {g : Nat → List Value} (hl : ∀ i, (g i).length = 2) (h : RwE w e k n g) (hk : ∀ w', RwE w' e k n (updG g i [c0, c1]) → Kept k w w' → wpList Tryz.prog ops Q rest act w') : wpList Tryz.prog ops Q (op :: rest) act w := by
  obtain ⟨cs, g1, g2, g3⟩ := h
  refine wpList_stX hgd hdst e a b ho k (i * 2) hx _ hy g1 [c0, c1] rfl (by simp; omega) (by intro v hv; simp at hv; rcases hv with rfl | rfl <;> assumption) (by simpa using hs) rfl ?_
  intro w' h2 h3
  exact hk w' ⟨_, h2, by simp; omega, flatG_set hl hi rfl g2 g3⟩ h3
theorem ix_E2 {T e : TypeId} (hu : Tryz.prog.underlying T = some (.slice e)) (he : ∀ w, (sizeOf e).run Tryz.prog w = .ok 2 w) (k i n cap : Nat) (hi : i < n) (w : World) : (Instr.indexAt T (.slice (some ⟨k, 0, none⟩) n cap) (.int .i64 (i : Int))).run Tryz.prog w = .ok (.pointer (some ⟨k, i * 2, none⟩)) w := by
  have ea : (⟨k, 0, none⟩ : Addr).add (i * 2) = ⟨k, i * 2, none⟩ := by rw [Addr.add_mid, Nat.zero_add]
  simp [Instr.indexAt, run_underlying hu, asIntOf, he, ea]
  intro; omega
/-- A row of elements more, behind an empty row of the call's own. -/
theorem wpList_appE2 {ops : Array Oper} {rest : List Oper} {op : Oper} {act : Act} {w : World} {Q : Exit → Act → World → Prop} (hgd : op.guard = none) (s x : Operand) (T e : TypeId) (ho : op.op = .call { callee := .builtin .append, args := #[s, x], argTypes := #[T, T] })
    {z : Value} {bytes : Nat} (ht : Tryz.prog.underlying T = some (.slice e)) (hi : (Tryz.prog.info? e).map (fun i => (i.zero, i.size, i.bytes)) = some (some z, 2, bytes)) (hz : z.cells.size = 2) (hb : bytes ≤ 1000)
    (B : Nat) (v : Value) (hs : act.eval s = v) (hown : w.ownsRow B e 2 v 0 []) (u : Value) (hx : act.eval x = u) (n : Nat) (hn : 0 < n) (hn2 : n ≤ 10000) (g : Nat → List Value) (hl : ∀ i, (g i).length = 2) (h1 : ∀ i, ∀ c ∈ g i, c.oneCell' = true) (hu : ElAt w u n g) (hB : B ≤ w.heap.size)
    (hk : ∀ v' w', OwnG w' B e v' n g → (∀ w0 : World, w0.heap.size ≤ B → New w0 w → New w0 w') → wpList Tryz.prog ops Q rest (act.put op.dst v') w') : wpList Tryz.prog ops Q (op :: rest) act w := by
  obtain ⟨i0, k1, k2, k3, k4⟩ := info_parts hi
  obtain ⟨ao, cap, rfl, hh⟩ := hu
  obtain ⟨b, off, rfl, _⟩ := hh 0 hn
  refine wpList_append_own _ hgd s x T ho B e i0 z 2 bytes ht k1 k2 k3 k4 hz (by decide) v 0 [] hs hown ⟨b, off, none⟩ n cap (flatG g n) hx (flatG_len hl n) ?_ ?_ (by unfold maxLen; omega) ?_ hB ?_
  · intro j y hj
    have hjl : j < n * 2 := by rw [← flatG_len hl n]; exact (List.getElem?_eq_some_iff.mp hj).1
    obtain ⟨i, r, hr, rfl⟩ : ∃ i r, r < 2 ∧ j = i * 2 + r := ⟨j / 2, j % 2, by omega, by omega⟩
    rw [flatG_at hl n i r (by omega) hr] at hj
    obtain ⟨b', off', e', h2⟩ := hh i (by omega)
    simp only [Option.some.injEq, Addr.mk.injEq] at e'
    obtain ⟨rfl, rfl, _⟩ := e'
    have := h2 r y hj
    rw [Addr.add_mid, show off + (i * 2 + r) = off + i * 2 + r by omega]
    exact this
  · intro y hy
    unfold flatG at hy
    rw [List.mem_flatMap] at hy
    obtain ⟨i, _, hi⟩ := hy
    exact h1 i y hi
  · have : (0 + n) * bytes ≤ 10000 * 1000 := Nat.mul_le_mul (by omega) hb
    omega
  · intro v' w' g1 g2 _
    refine hk v' w' ?_ (fun w0 hw0 hN => ?_)
    · unfold OwnG
      rw [Nat.zero_add, List.nil_append] at g1
      exact g1
    · have hr := owns_row hown
      exact Below.grown hN g2 hN.size (fun k hk => Nat.le_trans hw0 (hr k hk))
/-- The empty row. -/
theorem own_emptyE {w : World} (e : TypeId) (size B : Nat) (hB : B ≤ w.heap.size) : (w.alloc (.cells #[] e)).ownsRow B e size (.slice (some ⟨w.heap.size, 0, none⟩) 0 0) 0 [] :=
  ⟨by simp, .inr ⟨w.heap.size, 0, #[], rfl, hB, heap_alloc_new _ _, Nat.le_refl _, by simp, by simp, by simp⟩⟩
end Go.Proofs.YtphopkjgfkaihaaGreatDoor
