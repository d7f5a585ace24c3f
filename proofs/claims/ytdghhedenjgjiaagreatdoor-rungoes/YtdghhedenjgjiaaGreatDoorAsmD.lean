/-
  What a closure that appends to two captured slices does: laws on loads and stores of a block of one cell, on rows of the call's own; asm.Parse's closure, for every line.
-/
import Derived.Test.YtdghhedenjgjiaaGreatDoorAsmB
namespace Go.Proofs.YtdghhedenjgjiaaGreatDoor
open Go.RowKit

/-! A variable in a block of one cell. -/
theorem wpList_ld1 {ops : Array Oper} {rest : List Oper} {op : Oper} {act : Act} {w : World} {Q : Exit → Act → World → Prop} (hgd : op.guard = none) (t : TypeId) (hagg : ∀ w, (isAgg t).run Tryz.prog w = .ok false w) (p : Operand) (ho : op.op = .load t p)
    (g : Nat) (hx : act.eval p = .pointer (some ⟨g, 0, none⟩)) {v : Value} {t' : TypeId} (h : w.heap[g]? = some (.cells #[v] t' (0, 0)))
    (hk : wpList Tryz.prog ops Q rest (act.put op.dst v) w) : wpList Tryz.prog ops Q (op :: rest) act w :=
  wpList_plain hgd fun _ hK => by
    unfold Oper.wp execOp
    have hc := cell_of_one h
    simp only [ho, hx, Instr.loadAt, Instr.sureAddr, loadVar, Sem.run_bind, Sem.run_pure, Result.andThen_ok, hagg w]
    simp [hc]
    exact hK _ _ hk
theorem store_one (w : World) (g : Nat) (ty ty' : TypeId) (v u : Value) (h : w.heap[g]? = some (.cells #[v] ty' (0, 0))) (hu : u.cells = #[u]) (h1 : u.oneCell' = true) (hi : (Tryz.prog.info? ty).map (·.size) = some 1) :
    (Instr.storeAt ty (.pointer (some ⟨g, 0, none⟩)) u).run Tryz.prog w = .ok () (putO w g (.cells #[u] ty' (0, 0))) := by
  have hs := run_storeCells_at (P := Tryz.prog) g 0 ty' [u] 0 #[v] w h (by simp) (by simpa using h1)
  cases hq : Tryz.prog.info? ty with
  | none => simp [hq] at hi
  | some i =>
    have h6 : i.size = 1 := by simpa [hq] using hi
    simp at hs
    rw [← setRow_putO h]
    simp [Instr.storeAt, Instr.sureAddr, storeVar, sizeOf, typeInfo, hq, hu, h6, hs]
theorem wpList_st1 {ops : Array Oper} {rest : List Oper} {op : Oper} {act : Act} {w : World} {Q : Exit → Act → World → Prop} (hgd : op.guard = none) (hdst : op.dst = none) (t : TypeId) (hi : (Tryz.prog.info? t).map (·.size) = some 1) (p q : Operand) (ho : op.op = .store t p q)
    (g : Nat) (hx : act.eval p = .pointer (some ⟨g, 0, none⟩)) {u : Value} (hy : act.eval q = u) {v : Value} {t' : TypeId} (h : w.heap[g]? = some (.cells #[v] t' (0, 0))) (hu : u.cells = #[u]) (h1 : u.oneCell' = true)
    (hk : wpList Tryz.prog ops Q rest act (putO w g (.cells #[u] t' (0, 0)))) : wpList Tryz.prog ops Q (op :: rest) act w :=
  wpList_plain hgd fun _ hK => by
    unfold Oper.wp execOp
    simp only [ho, hx, hy, store_one w g t t' v u h hu h1 hi, Sem.run_bind, Sem.run_pure, Result.andThen_ok]
    refine hK _ _ ?_
    rw [hdst]
    exact hk
theorem own_slice {w : World} {base e size n : Nat} {v : Value} {xs : List Value} (h : w.ownsRow base e size v n xs) : v.cells = #[v] ∧ v.oneCell' = true := by
  rcases h.2 with ⟨rfl, _⟩ | ⟨g, cap, cur, rfl, _⟩ <;> exact ⟨rfl, rfl⟩
theorem owns_new {w w' : World} {base e size n : Nat} {v : Value} {xs : List Value} (h : w.ownsRow base e size v n xs) (hn : New w w') : w'.ownsRow base e size v n xs :=
  ⟨h.1, h.2.elim .inl fun ⟨g, cap, cur, h1, h2, h3, h4⟩ => .inr ⟨g, cap, cur, h1, h2, hn.heap h3, h4⟩⟩
/-- Iterators over texts stand. -/
def Its (w w' : World) : Prop := ∀ (k : Nat) (s : ByteArray) (p : Nat), w.heap[k]? = some (Obj.stringIter s p) → w'.heap[k]? = some (Obj.stringIter s p)
theorem Its.trans {a b c : World} (h : Its a b) (k : Its b c) : Its a c := fun i s p hi => k i s p (h i s p hi)
theorem New.its {w w' : World} (h : New w w') : Its w w' := fun _ _ _ hk => h.heap hk
/-- Two rows of unlike elements are two rows. -/
theorem rows_apart {w : World} {base e e' size size' n m : Nat} {v u : Value} {xs ys : List Value} (he : e ≠ e') (h : w.ownsRow base e size v n xs) (k : w.ownsRow base e' size' u m ys) : u.ownBlock = none ∨ u.ownBlock ≠ v.ownBlock := by
  rcases k.2 with ⟨rfl, _⟩ | ⟨g, cap, cur, rfl, _, k3, _⟩
  · left; rfl
  · right
    rcases h.2 with ⟨rfl, _⟩ | ⟨g', cap', cur', rfl, _, h3, _⟩
    · simp [Value.ownBlock]
    · simp only [Value.ownBlock, ne_eq, Option.some.injEq]
      rintro rfl
      rw [h3] at k3
      simp only [Option.some.injEq, Obj.cells.injEq] at k3
      exact he k3.2.1
theorem its_grown {w w' : World} {base e size n : Nat} {v : Value} {xs : List Value} (h : w.ownsRow base e size v n xs) (hg : w.grownBy w' v.ownBlock) : Its w w' := by
  intro k s p hk
  rw [hg.block k (heap_lt hk) ?_]
  · exact hk
  · rcases h.2 with ⟨rfl, _⟩ | ⟨g, cap, cur, rfl, _, h3, _⟩
    · simp [Value.ownBlock]
    · simp only [Value.ownBlock, ne_eq, Option.some.injEq]
      rintro rfl
      rw [h3] at hk
      simp at hk
theorem its_put {w : World} {g : Nat} {cs : Array Value} {t : TypeId} {fr : Nat × Nat} (h : w.heap[g]? = some (.cells cs t fr)) (o : Obj) : Its w (putO w g o) := by
  intro k s p hk
  rw [putO_other (by rintro rfl; rw [h] at hk; simp at hk)]
  exact hk
/-- One of two variables that hold slices of the call's own is appended to. -/
theorem own_step {w0 wa w3 : World} {B g g' t t' e e' size size' n m n' : Nat} {v v' u : Value} {xs ys xs' : List Value} {o : Obj}
    (hg : g < B) (hg' : g' < B) (hgg : g ≠ g') (hw0 : w0.heap.size ≤ g) (he : e ≠ e')
    (h1 : wa.heap[g]? = some (.cells #[v] t (0, 0))) (h2 : wa.heap[g']? = some (.cells #[u] t' (0, 0))) (o1 : wa.ownsRow B e size v n xs) (o2 : wa.ownsRow B e' size' u m ys) (hn : New w0 wa)
    (hgr : (wa.alloc o).grownBy w3 v.ownBlock) (o1' : w3.ownsRow B e size v' n' xs') :
    w3.heap[g]? = some (.cells #[v] t (0, 0)) ∧ (putO w3 g (.cells #[v'] t (0, 0))).heap[g]? = some (.cells #[v'] t (0, 0)) ∧ (putO w3 g (.cells #[v'] t (0, 0))).heap[g']? = some (.cells #[u] t' (0, 0)) ∧
      (putO w3 g (.cells #[v'] t (0, 0))).ownsRow B e size v' n' xs' ∧ (putO w3 g (.cells #[v'] t (0, 0))).ownsRow B e' size' u m ys ∧ New w0 (putO w3 g (.cells #[v'] t (0, 0))) ∧ Its wa (putO w3 g (.cells #[v'] t (0, 0))) := by
  have hr := owns_row o1
  have a1 : w3.heap[g]? = some (.cells #[v] t (0, 0)) := grown_heap hgr ((alloc_new _ _).heap h1) (fun k hk => by have := hr k hk; omega)
  have a2 : w3.heap[g']? = some (.cells #[u] t' (0, 0)) := grown_heap hgr ((alloc_new _ _).heap h2) (fun k hk => by have := hr k hk; omega)
  have a3 : w3.ownsRow B e' size' u m ys := (o2.alloc o).kept hgr (rows_apart he o1 o2)
  have a4 : New w0 w3 := Below.grown (hn.alloc _) hgr (hn.alloc o).size (fun k hk => by have := hr k hk; omega)
  refine ⟨a1, putO_same a1, ?_, owns_put o1' hg _, owns_put a3 hg _, a4.put hw0 _, ?_⟩
  · rw [putO_other (Ne.symm hgg)]; exact a2
  · exact ((alloc_new wa o).its.trans (its_grown (o1.alloc o) hgr)).trans (its_put a1 _)

def natV (b : Nat) : Value := .int .i64 (b : Int)
/-- The two variables that the closure captures, and what they hold. -/
def StA (w : World) (B : Nat) (vf vb : Value) (f : List I) (bs : List Nat) : Prop :=
  w.heap[B]? = some (.cells #[vf] 22 (0, 0)) ∧ w.heap[B + 1]? = some (.cells #[vb] 79 (0, 0)) ∧ w.ownsRow (B + 2) 72 6 vf f.length (flat6 f) ∧ w.ownsRow (B + 2) 3 1 vb bs.length (bs.map natV)
theorem StA.new {w w' : World} {B : Nat} {vf vb : Value} {f : List I} {bs : List Nat} (h : StA w B vf vb f bs) (hn : New w w') : StA w' B vf vb f bs := ⟨hn.heap h.1, hn.heap h.2.1, owns_new h.2.2.1 hn, owns_new h.2.2.2 hn⟩
def St (w : World) (B : Nat) (f : List I) (bs : List Nat) : Prop := ∃ vf vb, StA w B vf vb f bs
theorem infoI6 : (Tryz.prog.info? 72).map (fun i => (i.zero, i.size, i.bytes)) = some (some (.agg #[.int .i64 0, .int .i64 0, .int .i64 0, .int .i64 0, .int .i64 0, .int .i64 0]), 6, 48) := by kernel_rfl
theorem info22 : (Tryz.prog.info? 22).map (·.size) = some 1 := by kernel_rfl
theorem info58 : (Tryz.prog.info? 79).map (·.size) = some 1 := by kernel_rfl
theorem six_new (w : World) (x : I) (t : TypeId) : ∀ (j : Nat) (u : Value), (cells6 x)[j]? = some u → (w.alloc (.cells #[.int .i64 x.op, .int .i64 x.d, .int .i64 x.a, .int .i64 x.b, .int .i64 x.n, .int .i64 x.t] t)).cell? ((⟨w.heap.size, 0, none⟩ : Addr).add j) = some u := by
  intro j u hj
  rw [Addr.add_mid]
  rw [cell_of_row _ _ _ _ _ _ (heap_alloc_new w (.cells #[.int .i64 x.op, .int .i64 x.d, .int .i64 x.a, .int .i64 x.b, .int .i64 x.n, .int .i64 x.t] t))]
  rw [Nat.zero_add, ← hj]
  simp [cells6]
theorem six_one (x : I) : ∀ u ∈ cells6 x, u.oneCell' = true := by
  intro u hu
  simp only [cells6, List.mem_cons, List.not_mem_nil, or_false] at hu
  rcases hu with rfl | rfl | rfl | rfl | rfl | rfl <;> rfl
theorem box_new (w : World) (x : I) : New w (putO (w.alloc (.cells #[.int .i64 0, .int .i64 0, .int .i64 0, .int .i64 0, .int .i64 0, .int .i64 0] 72)) w.heap.size (.cells #[.int .i64 x.op, .int .i64 x.d, .int .i64 x.a, .int .i64 x.b, .int .i64 x.n, .int .i64 x.t] 72 (0, 0))) := ((New.refl _).alloc _).put (Nat.le_refl _) _
set_option maxHeartbeats 2000000 in
set_option maxRecDepth 100000 in
theorem take_bad {w0 : World} (B b : Nat) (s : ByteArray) (hs : s.size ≤ 281474976710656) (f : List I) (bs : List Nat) (hp : prs s.data.toList = none) (w : World) (hl : Hid (Laid w0)) (hn : New w0 w) (h : St w B f bs) :
    Calls Tryz.prog 50 #[.int .i64 b, .string s, .pointer (some ⟨B, 0, none⟩), .pointer (some ⟨B + 1, 0, none⟩)] w fun e w' => e = .returned (.bool false) ∧ St w' B f bs ∧ New w0 w' ∧ Its w w' := by
  have HS := Lib.hid hs
  have HH := Lib.hid h
  have HX := Lib.hid (prsX_none hp)
  have HE := Lib.hid (prsE_none hp)
  clear hs h hp
  go_enter Tryz.func50, Tryz.ntmps50
  go_wp2_with (first
    | (go_at_call 51; refine (insParse_any s HS.out _ (hl.out.new hn)).mono ?_; rw [HX.out, HE.out]; rintro e w1 ⟨rfl, hn1⟩)
    | (refine wpList_stI rfl rfl (.tmp 7) (.tmp 12) rfl _ rfl ⟨0, 0, 0, 0, 0, 0⟩ rfl (Has.zero _) ?_))
  have hb := hn1.trans (box_new w1 ⟨0, 0, 0, 0, 0, 0⟩)
  obtain ⟨vf, vb, hst⟩ := HH.out
  go_ret
  exact ⟨rfl, ⟨vf, vb, hst.new hb⟩, hn.trans hb, hb.its⟩
set_option maxHeartbeats 2000000 in
set_option maxRecDepth 100000 in
theorem take_good {w0 : World} (B b : Nat) (s : ByteArray) (hs : s.size ≤ 281474976710656) (f : List I) (bs : List Nat) (x : I) (hp : prs s.data.toList = some x) (hfl : f.length ≤ 100000) (hbl : bs.length ≤ 100000) (hB : w0.heap.size ≤ B) (w : World) (hl : Hid (Laid w0)) (hn : New w0 w) (h : St w B f bs) :
    Calls Tryz.prog 50 #[.int .i64 b, .string s, .pointer (some ⟨B, 0, none⟩), .pointer (some ⟨B + 1, 0, none⟩)] w fun e w' => e = .returned (.bool true) ∧ St w' B (f ++ [x]) (bs ++ [b]) ∧ New w0 w' ∧ Its w w' := by
  obtain ⟨vf, vb, hst⟩ := h
  have HS := Lib.hid hs
  have HH := Lib.hid hst
  have HX := Lib.hid (prsX_some hp)
  have HE := Lib.hid (prsE_some hp)
  obtain ⟨i0, hi, hz0, hz1, hz2⟩ := info_parts infoI6
  obtain ⟨j0, hj, hy0, hy1, hy2⟩ := info_parts infoInt
  have HI := Lib.hid hi; have HZ0 := Lib.hid hz0; have HZ1 := Lib.hid hz1; have HZ2 := Lib.hid hz2
  have HJ := Lib.hid hj; have HY0 := Lib.hid hy0; have HY1 := Lib.hid hy1; have HY2 := Lib.hid hy2
  have HBB := Lib.hid hB
  clear hs hst hp hi hz0 hz1 hz2 hj hy0 hy1 hy2 hB
  go_enter Tryz.func50, Tryz.ntmps50
  go_wp2_with (first
    | (go_at_call 51; refine (insParse_any s HS.out _ (hl.out.new hn)).mono ?_; rw [HX.out, HE.out]; rintro e w1 ⟨rfl, hn1⟩)
    | (refine wpList_stI rfl rfl (.tmp 7) (.tmp 12) rfl _ rfl x rfl (Has.zero _) ?_; have HN2 := Lib.hid (hn1.trans (box_new w1 x)))
    | (refine wpList_ld1 rfl 22 Tryz.isAgg22 (.tmp 2) rfl B rfl (HH.out.new HN2.out).1 ?_)
    | (refine wpList_ldI rfl (.tmp 7) rfl _ rfl ((Has.zero w1).stored x) ?_)
    | (at_builtin; refine wpList_append_own _ rfl (.tmp 16) (.tmp 18) 22 rfl (B + 2) 72 i0 _ 6 48 Tryz.underlying22 HI.out HZ0.out HZ1.out HZ2.out rfl (by decide) _ _ _ rfl ((HH.out.new HN2.out).2.2.1.alloc _) ⟨_, 0, none⟩ 1 1 (cells6 x) rfl rfl (six_new _ _ _) (six_one x) (by unfold maxLen; omega) (by omega) (by have := heap_lt (HH.out.new HN2.out).2.1; rw [alloc_size]; omega) ?_; intro v3 w3 hown3 hgrow3 hnil3; have S3 := Lib.hid (own_step (g := B) (g' := B + 1) (by omega) (by omega) (by omega) HBB.out (by decide) (HH.out.new HN2.out).1 (HH.out.new HN2.out).2.1 (HH.out.new HN2.out).2.2.1 (HH.out.new HN2.out).2.2.2 (hn.trans HN2.out) hgrow3 hown3); have C3 := own_slice hown3; clear hown3 hgrow3 hnil3)
    | (refine wpList_st1 rfl rfl 22 info22 (.tmp 2) (.tmp 19) rfl B rfl rfl S3.out.1 C3.1 C3.2 ?_)
    | (refine wpList_ld1 rfl 79 Tryz.isAgg79 (.tmp 3) rfl (B + 1) rfl S3.out.2.2.1 ?_)
    | (at_builtin; refine wpList_append_own _ rfl (.tmp 20) (.tmp 22) 79 rfl (B + 2) 3 j0 _ 1 8 Tryz.underlying79 HJ.out HY0.out HY1.out HY2.out rfl (by decide) _ _ _ rfl (S3.out.2.2.2.2.1.alloc _) ⟨_, 0, none⟩ 1 1 [natV b] rfl rfl (one_new _ _ _) (by intro u hu; simp at hu; subst hu; rfl) (by unfold maxLen; omega) (by omega) (by have := heap_lt S3.out.2.2.1; rw [alloc_size]; omega) ?_; intro v4 w4 hown4 hgrow4 hnil4; have S4 := Lib.hid (own_step (g := B + 1) (g' := B) (by omega) (by omega) (by omega) (by have := HBB.out; omega) (by decide) S3.out.2.2.1 S3.out.2.1 S3.out.2.2.2.2.1 S3.out.2.2.2.1 S3.out.2.2.2.2.2.1 hgrow4 hown4); have C4 := own_slice hown4; clear hown4 hgrow4 hnil4)
    | (refine wpList_st1 rfl rfl 79 info58 (.tmp 3) (.tmp 23) rfl (B + 1) rfl rfl S4.out.1 C4.1 C4.2 ?_))
  obtain ⟨_, t1, t2, t3, t4, t5, t6⟩ := S4.out
  go_ret
  refine ⟨rfl, ⟨v3, v4, t2, t1, ?_, ?_⟩, t5, (HN2.out.its.trans S3.out.2.2.2.2.2.2).trans t6⟩
  · rw [flat6_app, flat6_one, List.length_append]; exact t4
  · rw [List.map_append, List.length_append]; exact t3
end Go.Proofs.YtdghhedenjgjiaaGreatDoor
