/-
  A region that draws its order: three new variables of one kind may come up in whatever order, and what stands behind them then. No program stands in this text.
-/
import Derived.Test.YtdghhedenjgjiaaGreatDoorOrder3
namespace Go.Proofs.YtdghhedenjgjiaaGreatDoor
open Go.RowKit

section
variable {P : Program} {ops : Array Oper} {md : Region.Mode} {S : World → Prop} {Q : Exit → Act → World → Prop}
theorem wpOp_value {i : Nat} {o : Oper} {a : Act} {w w' : World} {K : Act → World → Prop} {v : Value} (hi : ops[i]? = some o) (hg : o.guard = none) (hr : (execOp a.eval o).run P w = .ok (.value v) w') (h : K (a.put o.dst v) w') : wpOp P ops Q i K a w := by
  unfold wpOp
  simp only [hi, Region.wanted, hg, if_true]
  refine .inl ?_
  unfold Oper.wp
  rw [hr]
  exact h
def ptr (g : Nat) : Value := .pointer (some ⟨g, 0, none⟩)
/-- The three may come up, each ahead of each. -/
def news3 (md : Region.Mode) (ops : Array Oper) (i j k : Nat) (l : Array Bool) : Bool :=
  (Region.ready md ops l == [i, j, k]) && (Region.ready md ops (l.setIfInBounds i true) == [j, k]) && (Region.ready md ops (l.setIfInBounds j true) == [i, k]) && (Region.ready md ops (l.setIfInBounds k true) == [i, j]) &&
  (Region.ready md ops ((l.setIfInBounds i true).setIfInBounds j true) == [k]) && (Region.ready md ops ((l.setIfInBounds i true).setIfInBounds k true) == [j]) && (Region.ready md ops ((l.setIfInBounds j true).setIfInBounds k true) == [i])
/-- Three numbers from n on, each another. -/
structure Three (n a b c : Nat) : Prop where
  a0 : n ≤ a
  b0 : n ≤ b
  c0 : n ≤ c
  a1 : a < n + 3
  b1 : b < n + 3
  c1 : c < n + 3
  ab : a ≠ b
  ac : a ≠ c
  bc : b ≠ c
theorem put_comm (a : Act) {d e : Tmp} (h : d ≠ e) (u v : Value) : (a.put (some d) u).put (some e) v = (a.put (some e) v).put (some d) u := by
  simp only [Act.put]
  rw [Array.setIfInBounds_comm _ _ h]
theorem wpAnyH_new3 {i j k : Nat} {oi oj ok : Oper} {o : Obj} {di dj dk : Tmp} {m : Nat} {l : Array Bool} {a : Act} {w : World}
    (hi : ops[i]? = some oi) (hj : ops[j]? = some oj) (hk : ops[k]? = some ok) (ei : oi.dst = some di) (ej : oj.dst = some dj) (ek : ok.dst = some dk) (gi : oi.guard = none) (gj : oj.guard = none) (gk : ok.guard = none)
    (ri : ∀ (a : Act) (w : World), (execOp a.eval oi).run P w = .ok (.value (ptr w.heap.size)) (w.alloc o)) (rj : ∀ (a : Act) (w : World), (execOp a.eval oj).run P w = .ok (.value (ptr w.heap.size)) (w.alloc o)) (rk : ∀ (a : Act) (w : World), (execOp a.eval ok).run P w = .ok (.value (ptr w.heap.size)) (w.alloc o))
    (hB : news3 md ops i j k l = true) (hij : i ≠ j) (hik : i ≠ k) (hjk : j ≠ k) (dij : di ≠ dj) (dik : di ≠ dk) (djk : dj ≠ dk) (hS : ∀ w, S w → S (w.alloc o)) (hw : S w)
    (h : ∀ x y z, Three w.heap.size x y z → S (((w.alloc o).alloc o).alloc o) → wpAnyH P md ops Q S m (((l.setIfInBounds i true).setIfInBounds j true).setIfInBounds k true) (((a.put (some di) (ptr x)).put (some dj) (ptr y)).put (some dk) (ptr z)) (((w.alloc o).alloc o).alloc o)) :
    wpAnyH P md ops Q S (m + 3) l a w := by
  simp only [news3, Bool.and_eq_true, beq_iff_eq] at hB
  obtain ⟨⟨⟨⟨⟨⟨b0, bi⟩, bj⟩, bk⟩, bij⟩, bik⟩, bjk⟩ := hB
  have s1 := hS _ hw
  have s2 := hS _ s1
  have s3 := hS _ s2
  have cij : (l.setIfInBounds j true).setIfInBounds i true = (l.setIfInBounds i true).setIfInBounds j true := Array.setIfInBounds_comm _ _ (Ne.symm hij)
  have cik : (l.setIfInBounds k true).setIfInBounds i true = (l.setIfInBounds i true).setIfInBounds k true := Array.setIfInBounds_comm _ _ (Ne.symm hik)
  have cjk : (l.setIfInBounds k true).setIfInBounds j true = (l.setIfInBounds j true).setIfInBounds k true := Array.setIfInBounds_comm _ _ (Ne.symm hjk)
  have d1 : ((l.setIfInBounds i true).setIfInBounds k true).setIfInBounds j true = ((l.setIfInBounds i true).setIfInBounds j true).setIfInBounds k true := Array.setIfInBounds_comm _ _ (Ne.symm hjk)
  have d2 : ((l.setIfInBounds j true).setIfInBounds k true).setIfInBounds i true = ((l.setIfInBounds i true).setIfInBounds j true).setIfInBounds k true := by
    rw [Array.setIfInBounds_comm _ _ (Ne.symm hik), cij]
  have z1 : (w.alloc o).heap.size = w.heap.size + 1 := alloc_size _ _
  have z2 : ((w.alloc o).alloc o).heap.size = w.heap.size + 2 := by rw [alloc_size, z1]
  refine wpAnyH_all b0 (by simp) ?_
  simp only [List.mem_cons, List.not_mem_nil, or_false]
  rintro t (rfl | rfl | rfl)
  · refine wpOp_value hi gi (ri a w) ⟨s1, ?_⟩
    refine wpAnyH_all bi (by simp) ?_
    simp only [List.mem_cons, List.not_mem_nil, or_false]
    rintro t (rfl | rfl)
    · refine wpOp_value hj gj (rj _ _) ⟨s2, ?_⟩
      refine wpAnyH_all bij (by simp) ?_
      simp only [List.mem_cons, List.not_mem_nil, or_false]
      rintro t rfl
      refine wpOp_value hk gk (rk _ _) ⟨s3, ?_⟩
      rw [ei, ej, ek, z1, z2]
      exact h _ _ _ ⟨by omega, by omega, by omega, by omega, by omega, by omega, by omega, by omega, by omega⟩ s3
    · refine wpOp_value hk gk (rk _ _) ⟨s2, ?_⟩
      refine wpAnyH_all bik (by simp) ?_
      simp only [List.mem_cons, List.not_mem_nil, or_false]
      rintro t rfl
      refine wpOp_value hj gj (rj _ _) ⟨s3, ?_⟩
      rw [ei, ej, ek, z1, z2, d1, put_comm _ (Ne.symm djk)]
      exact h _ _ _ ⟨by omega, by omega, by omega, by omega, by omega, by omega, by omega, by omega, by omega⟩ s3
  · refine wpOp_value hj gj (rj a w) ⟨s1, ?_⟩
    refine wpAnyH_all bj (by simp) ?_
    simp only [List.mem_cons, List.not_mem_nil, or_false]
    rintro t (rfl | rfl)
    · refine wpOp_value hi gi (ri _ _) ⟨s2, ?_⟩
      rw [cij]
      refine wpAnyH_all bij (by simp) ?_
      simp only [List.mem_cons, List.not_mem_nil, or_false]
      rintro t rfl
      refine wpOp_value hk gk (rk _ _) ⟨s3, ?_⟩
      rw [ei, ej, ek, z1, z2, put_comm a (Ne.symm dij)]
      exact h _ _ _ ⟨by omega, by omega, by omega, by omega, by omega, by omega, by omega, by omega, by omega⟩ s3
    · refine wpOp_value hk gk (rk _ _) ⟨s2, ?_⟩
      refine wpAnyH_all bjk (by simp) ?_
      simp only [List.mem_cons, List.not_mem_nil, or_false]
      rintro t rfl
      refine wpOp_value hi gi (ri _ _) ⟨s3, ?_⟩
      rw [ei, ej, ek, z1, z2, d2, put_comm _ (Ne.symm dik), put_comm a (Ne.symm dij)]
      exact h _ _ _ ⟨by omega, by omega, by omega, by omega, by omega, by omega, by omega, by omega, by omega⟩ s3
  · refine wpOp_value hk gk (rk a w) ⟨s1, ?_⟩
    refine wpAnyH_all bk (by simp) ?_
    simp only [List.mem_cons, List.not_mem_nil, or_false]
    rintro t (rfl | rfl)
    · refine wpOp_value hi gi (ri _ _) ⟨s2, ?_⟩
      rw [cik]
      refine wpAnyH_all bik (by simp) ?_
      simp only [List.mem_cons, List.not_mem_nil, or_false]
      rintro t rfl
      refine wpOp_value hj gj (rj _ _) ⟨s3, ?_⟩
      rw [ei, ej, ek, z1, z2, d1, put_comm a (Ne.symm dik), put_comm _ (Ne.symm djk)]
      exact h _ _ _ ⟨by omega, by omega, by omega, by omega, by omega, by omega, by omega, by omega, by omega⟩ s3
    · refine wpOp_value hj gj (rj _ _) ⟨s2, ?_⟩
      rw [cjk]
      refine wpAnyH_all bjk (by simp) ?_
      simp only [List.mem_cons, List.not_mem_nil, or_false]
      rintro t rfl
      refine wpOp_value hi gi (ri _ _) ⟨s3, ?_⟩
      rw [ei, ej, ek, z1, z2, d2, put_comm a (Ne.symm djk), put_comm _ (Ne.symm dik), put_comm a (Ne.symm dij)]
      exact h _ _ _ ⟨by omega, by omega, by omega, by omega, by omega, by omega, by omega, by omega, by omega⟩ s3
/-- A call that alone may come up. -/
theorem wpAnyH_call {i : Nat} {o : Oper} {fuel : Nat} {l : Array Bool} {a : Act} {w : World} (hi : ops[i]? = some o) (hg : o.guard = none) (hr : Region.ready md ops l = [i]) (f : FuncId) (args : Array Value) (hrun : (execOp a.eval o).run P w = .ok (.enter f args) w)
    (h : Calls P f args w fun e w' => ∃ v, e = .returned v ∧ S w' ∧ wpAnyH P md ops Q S fuel (l.setIfInBounds i true) (a.put o.dst v) w') : wpAnyH P md ops Q S (fuel + 1) l a w := by
  refine wpAnyH_all hr (by simp) ?_
  simp only [List.mem_cons, List.not_mem_nil, or_false]
  rintro t rfl
  unfold wpOp
  simp only [hi, Region.wanted, hg, if_true]
  refine .inl ?_
  unfold Oper.wp
  rw [hrun]
  refine h.mono fun e w' ⟨v, he, hh⟩ => ?_
  subst he
  exact hh
/-- A store among operations that stand in one order. -/
theorem wpLS_skip {o : Oper} {rest : List Oper} {a : Act} {w w' : World} (hg : o.guard = none) (hr : (execOp a.eval o).run P w = .ok .skip w') (hd : o.dst = none) (hS : S w') (h : wpLS P ops Q S rest a w') : wpLS P ops Q S (o :: rest) a w := by
  unfold wpLS
  rw [if_pos (by simp [Region.wanted, hg])]
  unfold Oper.wp
  rw [hr]
  refine ⟨hS, ?_⟩
  rw [hd]
  exact h
end
end Go.Proofs.YtdghhedenjgjiaaGreatDoor
