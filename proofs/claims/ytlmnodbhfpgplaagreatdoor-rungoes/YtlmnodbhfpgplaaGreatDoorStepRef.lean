/-
  The reference's With: places with another word, in new memory.
  The reference's Do: what the document makes of a state, for every function, state and row of answers.
  The reference's Do of an instruction that only moves.
-/
import Derived.Test.YtlmnodbhfpgplaaGreatDoorStepM
import Derived.Test.YtlmnodbhfpgplaaGreatDoorHeapR
import Derived.Test.YtlmnodbhfpgplaaGreatDoorNumOpRef
import Derived.Test.YtlmnodbhfpgplaaGreatDoorRefUses
namespace Go.Proofs.YtlmnodbhfpgplaaGreatDoor
open Go.RowKit

theorem own_emptyW (w : World) (B : Nat) (hB : B ≤ w.heap.size) : (w.alloc (.cells #[] 35)).ownsRow B 35 2 (.slice (some ⟨w.heap.size, 0, none⟩) 0 0) 0 [] :=
  ⟨rfl, .inr ⟨w.heap.size, 0, #[], rfl, hB, heap_alloc_new _ _, Nat.le_refl _, by simp, by simp, by simp⟩⟩
theorem ix_ownW (g n cap : Nat) {k : Nat} (hk : k < n) (w : World) : (Instr.indexAt 42 (.slice (some ⟨g, 0, none⟩) n cap) (.int .i64 (k : Int))).run Tryz.prog w = .ok (.pointer (some ⟨g, k * 2, none⟩)) w := by
  simp [Instr.indexAt, run_underlying Tryz.underlying42, asIntOf, Addr.add_mid]
  intro; omega
/-- What a row of words that came in holds, cell by cell. -/
theorem WsAt.cells {w : World} {a : Sl} {l : Ws} (h : WsAt w a l) : ∃ b off, a.ao = some ⟨b, off, none⟩ ∧ a.n = 24 ∧ ∀ w', New w w' → ∀ j u, (cellsW l).toList[j]? = some u → w'.cell? ((⟨b, off, none⟩ : Addr).add j) = some u := by
  have hn := h.n
  obtain ⟨ao, cap, e, hh⟩ := h
  simp only [Value.slice.injEq] at e
  obtain ⟨b, off, e1, _⟩ := hh 0 (by omega)
  refine ⟨b, off, e.1.trans e1, hn, fun w' hw j u hu => ?_⟩
  have hj : j < 48 := by
    have := (List.getElem?_eq_some_iff.mp hu).1
    rwa [Array.length_toList, cellsW_size] at this
  obtain ⟨i, r, hr, rfl⟩ : ∃ i r, r < 2 ∧ j = 2 * i + r := ⟨j / 2, j % 2, by omega, by omega⟩
  obtain ⟨b', off', e2, hc⟩ := hh i (by omega)
  rw [e1] at e2
  simp only [Option.some.injEq, Addr.mk.injEq] at e2
  obtain ⟨rfl, rfl, _⟩ := e2
  have e3 : (cellsW l).toList[2 * i + r]? = (cellsW l)[2 * i + r]? := Array.getElem?_toList
  rw [e3, cellsW_at l (by omega) hr] at hu
  rw [Addr.add_mid, show off + (2 * i + r) = off + i * 2 + r by omega]
  exact hw.cell (hc r u hu)
theorem upd_cells {l : Ws} {k : Nat} (hk : k < 24) (x : Wd) (R : List Value) : ((cellsW l).toList ++ R).take (k * 2) ++ wcells x ++ ((cellsW l).toList ++ R).drop (k * 2 + (wcells x).length) = (cellsW (updW l k x)).toList ++ R := by
  have hz : (cellsW l).toList.length = 48 := by rw [Array.length_toList]; exact cellsW_size l
  have e2 : (wcells x).length = 2 := rfl
  rw [e2, Nat.mul_comm, List.take_append_of_le_length (by omega), List.drop_append_of_le_length (by omega), ← List.append_assoc, cellsW_set l x hk]
/-- A slice that lies in a block from number B on. -/
def FarS (B : Nat) (b : Sl) : Prop := ∃ bb off, b.ao = some ⟨bb, off, none⟩ ∧ B ≤ bb
theorem WsAt.far {w w' : World} {b : Sl} {l : Ws} {B g : Nat} (h : WsAt w b l) (f : FarS B b) (hg : g < B) (hk : ∀ k, k ≠ g → w'.heap[k]? = w.heap[k]?) : WsAt w' b l := by
  obtain ⟨ao, cap, e, hh⟩ := h
  refine ⟨ao, cap, e, fun i hi => ?_⟩
  obtain ⟨bb, off, e1, h1⟩ := hh i hi
  refine ⟨bb, off, e1, fun j u hu => ?_⟩
  obtain ⟨b', off', e2, hb⟩ := f
  simp only [Value.slice.injEq] at e
  rw [e.1, e1] at e2
  simp only [Option.some.injEq, Addr.mk.injEq] at e2
  have hn : bb ≠ g := by omega
  have h2 := h1 j u hu
  have := hk bb hn
  unfold World.cell? at h2 ⊢
  simp only [this]
  exact h2
theorem own_parts {w : World} {B n : Nat} {e : TypeId} {size : Nat} {v : Value} {xs : List Value} (h : w.ownsRow B e size v n xs) (hn : 0 < n) :
    ∃ g cap cur, v = .slice (some ⟨g, 0, none⟩) n cap ∧ B ≤ g ∧ w.heap[g]? = some (.cells cur e (0, 0)) ∧ cur.size = cap * size ∧ cur.toList.take (n * size) = xs := by
  rcases h.2 with ⟨_, h0⟩ | ⟨g, cap, cur, hv, hB, hg, _, _, hs, ht⟩
  · omega
  · exact ⟨g, cap, cur, hv, hB, hg, hs, ht⟩
theorem own_row48 {w : World} {g : Nat} {cur : Array Value} {l : Ws} (hg : w.heap[g]? = some (.cells cur 35 (0, 0))) (ht : cur.toList.take 48 = (cellsW l).toList) : HasC w g 35 ((cellsW l).toList ++ cur.toList.drop 48) := by
  unfold HasC
  rw [← ht, List.take_append_drop, Array.toArray_toList]
  exact hg
set_option maxHeartbeats 4000000 in
set_option maxRecDepth 100000 in
theorem refWith_any (l : Ws) (k : Nat) (hk : k < 24) (x : Wd) (a : Sl) (w : World) (h : WsAt w a l) :
    Calls Tryz.prog 53 #[.slice a.ao a.n a.c, .int .i64 (k : Int), .agg #[.bool x.1, .int .i64 x.2]] w fun e w' => ∃ b : Sl, e = .returned (.slice b.ao b.n b.c) ∧ WsAt w' b (updW l k x) ∧ New w w' ∧ FarS w.heap.size b := by
  obtain ⟨ab, ao, e1, e2, hcell⟩ := h.cells
  obtain ⟨a1, a2, a3⟩ := a
  have e1' : a1 = some ⟨ab, ao, none⟩ := e1
  have e2' : a2 = 24 := e2
  subst e1' e2'
  have HC := Lib.hid hcell
  obtain ⟨i0, hi0, hz0, hz1, hz2⟩ := info_parts infoW2
  have hz48 : (cellsW l).toList.length = 24 * 2 := by rw [Array.length_toList]; exact cellsW_size l
  have HZ48 := Lib.hid hz48
  have hk' : (k : Int) < 24 := by omega
  clear e1 e2 hcell h hz48
  go_enter Tryz.func53, Tryz.ntmps53
  go_wp2_with (first
    | (refine wpList_boxX rfl 35 (.tmp 2) rfl (wcells x) rfl ?_; intro w1 g5 hg5 hl5 H5 hn1; have HD : Hid (HasD w1 g5 x) := Lib.hid H5; clear H5)
    | (at_builtin; refine wpList_append_own _ rfl (.tmp 8) (.tmp 9) 42 rfl w1.heap.size 35 i0 _ 2 16 Tryz.underlying42 hi0 hz0 hz1 hz2 rfl (by decide) (.slice (some ⟨w1.heap.size, 0, none⟩) 0 0) 0 [] rfl (own_emptyW w1 _ (Nat.le_refl _)) ⟨ab, ao, none⟩ 24 a3 (cellsW l).toList rfl HZ48.out (HC.out _ (hn1.alloc _)) (cellsW_one l) (by unfold maxLen; omega) (by omega) (by rw [alloc_size]; omega) ?_; intro v' w2 hown hgr _; obtain ⟨g, cap, cur, e1, hBg, hcur, hsz, htk⟩ := own_parts hown (by decide); subst e1; have HX : Hid (HasC w2 g 35 ((cellsW l).toList ++ cur.toList.drop 48)) := Lib.hid (own_row48 hcur (by have h := htk; rw [List.nil_append] at h; exact h)); have hix := fun w => ix_ownW g 24 cap hk w; have N2 : New w w2 := Below.grown (hn1.alloc _) hgr (hn1.alloc (.cells #[] 35)).size (fun k hk => by simp only [Value.ownBlock, Option.some.injEq] at hk; have := hn1.size; omega); have HD2 : Hid (HasD w2 g5 x) := Lib.hid (grown_heap hgr ((alloc_new _ _).heap HD.out) (fun k hk => by simp only [Value.ownBlock, Option.some.injEq] at hk; omega)); clear hown hgr)
    | (refine wpList_ldDd rfl (.tmp 5) rfl g5 rfl HD2.out ?_)
    | (refine wpList_stX rfl rfl 35 (.tmp 14) (.tmp 13) rfl g (k * 2) rfl _ rfl HX.out (wcells x) rfl (by rw [List.length_append, HZ48.out]; simp [wcells]; omega) (by simp [wcells, Value.oneCell']) infoWd (upd_cells hk x _) ?_; intro w3 H3 k3))
  go_ret
  refine ⟨⟨some ⟨g, 0, none⟩, 24, cap⟩, rfl, ?_, k3.below _ (Nat.le_trans hn1.size hBg) N2, ⟨g, 0, rfl, Nat.le_trans hn1.size hBg⟩⟩
  refine ⟨some ⟨g, 0, none⟩, cap, rfl, fun i hi => ⟨g, 0, rfl, ?_⟩⟩
  rw [Nat.zero_add]
  refine H3.range _ _ fun j u hu => ?_
  have hj : j < 2 := by
    have := (List.getElem?_eq_some_iff.mp hu).1
    simpa [wcells] using this
  have e3 : (cellsW (updW l k x)).toList[i * 2 + j]? = (cellsW (updW l k x))[i * 2 + j]? := Array.getElem?_toList
  rw [List.getElem?_append_left (by rw [Array.length_toList, cellsW_size]; omega), e3, Nat.mul_comm, cellsW_at _ hi hj]
  exact hu
end Go.Proofs.YtlmnodbhfpgplaaGreatDoor
namespace Go.Proofs.YtlmnodbhfpgplaaGreatDoor
open Go.RowKit

/-- What the reference's Do answers. -/
def Dm (w w' : World) (e : Ending) (a s : Sl) (r : Tl) : Prop :=
  ∃ (a' s' : Sl) (v : Value) (so : Sl), e = .returned (.tuple #[.agg (refC a' s' r.s.p r.s.q).toArray, v, .agg (outC r.how r.val so).toArray]) ∧ WsAt w' a' r.s.l ∧ Hp w' (.slice s'.ao s'.n s'.c) r.s.h ∧ EvAt w' v r.ev ∧ Hp w' (.slice so.ao so.n so.c) r.hp ∧ New w w' ∧ (a' = a ∨ FarS w.heap.size a') ∧ (s' = s ∨ Fresh w.heap.size (.slice s'.ao s'.n s'.c) r.s.h) ∧ Fresh w.heap.size v r.ev ∧ (so = s ∨ Fresh w.heap.size (.slice so.ao so.n so.c) r.hp)
theorem FarS.mono {B C : Nat} {a : Sl} (h : FarS C a) (hb : B ≤ C) : FarS B a := let ⟨b, o, e, hh⟩ := h; ⟨b, o, e, Nat.le_trans hb hh⟩
theorem Dm.of {w w' : World} {r : Tl} {l : Ws} {h oh : List Int} {p q how val : Int} {es : List Ev} {a0 s0 a s so : Sl} {v : Value} (hr : r = ⟨⟨l, h, p, q⟩, es, how, val, oh⟩) (h0 : WsAt w' a l) (h1 : Hp w' (.slice s.ao s.n s.c) h) (h2 : EvAt w' v es) (h3 : Hp w' (.slice so.ao so.n so.c) oh) (h4 : New w w') (h5 : a = a0 ∨ FarS w.heap.size a) (h6 : s = s0 ∨ Fresh w.heap.size (.slice s.ao s.n s.c) h) (h7 : Fresh w.heap.size v es) (h8 : so = s0 ∨ Fresh w.heap.size (.slice so.ao so.n so.c) oh) :
    Dm w w' (.returned (.tuple #[.agg (refC a s p q).toArray, v, .agg (outC how val so).toArray])) a0 s0 r := by
  subst hr
  exact ⟨a, s, v, so, rfl, h0, h1, h2, h3, h4, h5, h6, h7, h8⟩
theorem results_ctc {fn : Func} {p u v : Tmp} {ty ty' : TypeId} (h : fn.results = #[.cell p ty, .tmp u, .cell v ty']) (tmps : Array Value) (w : World) (g k : Nat) (x y z : Value) (hp : tmps.getD p undef = .pointer (some ⟨g, 0, none⟩)) (hl : (loadVar ty ⟨g, 0, none⟩).run Tryz.prog w = .ok x w)
    (hu : tmps.getD u undef = y) (hv : tmps.getD v undef = .pointer (some ⟨k, 0, none⟩)) (hl' : (loadVar ty' ⟨k, 0, none⟩).run Tryz.prog w = .ok z w) : (results fn tmps).run Tryz.prog w = .ok (.tuple #[x, y, z]) w := by
  have hp' : tmps[p]?.getD undef = .pointer (some ⟨g, 0, none⟩) := by simpa using hp
  have hu' : tmps[u]?.getD undef = y := by simpa using hu
  have hv' : tmps[v]?.getD undef = .pointer (some ⟨k, 0, none⟩) := by simpa using hv
  simp [results, h, hp', hu', hv', asAddr, hl, hl']
/-- Its variables. -/
structure Dq (n g4 g6 g8 g9 g10 : Nat) : Prop where
  n6 : n ≤ g6
  n8 : n ≤ g8
  n10 : n ≤ g10
  d68 : g6 ≠ g8
  a4 : g4 ≠ g10
  a6 : g6 ≠ g10
  a8 : g8 ≠ g10
  a9 : g9 ≠ g10
  d46 : g4 ≠ g6
  d48 : g4 ≠ g8
  d69 : g6 ≠ g9
  d89 : g8 ≠ g9
structure Fq (w wx : World) (g4 g6 g8 g9 g10 : Nat) (a s : Sl) (p q : Int) (x : I) (a' s' : Sl) (p' q' : Int) : Prop where
  st : HasRf wx g4 a s p q
  res : HasRf wx g6 nilS nilS 0 0
  out : HasO wx g8 0 0 nilS
  ins : Has wx g9 x
  nx : HasRf wx g10 a' s' p' q'
  new : New w wx
section
variable {w wx wy : World} {g4 g6 g8 g9 g10 : Nat} {a s a' s' a2 s2 : Sl} {p q p' q' p2 q2 : Int} {x : I}
theorem Fq.turn (h : Fq w wx g4 g6 g8 g9 g10 a s p q x a' s' p' q') (D : Dq w.heap.size g4 g6 g8 g9 g10) (H : HasRf wy g10 a2 s2 p2 q2) (k : Kept g10 wx wy) : Fq w wy g4 g6 g8 g9 g10 a s p q x a2 s2 p2 q2 :=
  ⟨HasC.kept h.st k D.a4, HasC.kept h.res k D.a6, HasC.kept h.out k D.a8, (k.other _ D.a9).trans h.ins, H, k.below _ D.n10 h.new⟩
theorem Fq.grow (h : Fq w wx g4 g6 g8 g9 g10 a s p q x a' s' p' q') (n : New wx wy) : Fq w wy g4 g6 g8 g9 g10 a s p q x a' s' p' q' :=
  ⟨HasC.new h.st n, HasC.new h.res n, HasC.new h.out n, h.ins.new n, HasC.new h.nx n, h.new.trans n⟩
theorem Fq.cells (h : Fq w wx g4 g6 g8 g9 g10 a s p q x a' s' p' q') :
    wx.cell? ⟨g4, 0, none⟩ = some (.slice a.ao a.n a.c) ∧ wx.cell? ⟨g4, 1, none⟩ = some (.slice s.ao s.n s.c) ∧ wx.cell? ⟨g4, 2, none⟩ = some (.int .i64 p) ∧ wx.cell? ⟨g4, 3, none⟩ = some (.int .i64 q) ∧
    wx.cell? ⟨g9, 0, none⟩ = some (.int .i64 x.op) ∧ wx.cell? ⟨g9, 1, none⟩ = some (.int .i64 x.d) ∧ wx.cell? ⟨g9, 2, none⟩ = some (.int .i64 x.a) ∧ wx.cell? ⟨g9, 3, none⟩ = some (.int .i64 x.b) ∧ wx.cell? ⟨g9, 4, none⟩ = some (.int .i64 x.n) ∧ wx.cell? ⟨g9, 5, none⟩ = some (.int .i64 x.t) :=
  ⟨HasRf.l h.st, HasRf.hp h.st, HasRf.at h.st, HasRf.ask h.st, h.ins.cell.1, h.ins.cell.2.1, h.ins.cell.2.2.1, h.ins.cell.2.2.2, h.ins.cell4, h.ins.cell5⟩
end
section
variable {ops : Array Oper} {rest : List Oper} {op : Oper} {act : Act} {w : World} {Q : Exit → Act → World → Prop} {g : Nat} {a s : Sl} {p q : Int}
theorem wpList_stR0 (hgd : op.guard = none) (hdst : op.dst = none) (x y : Operand) (ho : op.op = .store 42 x y) (g : Nat) (hx : act.eval x = .pointer (some ⟨g, 0, none⟩)) (a2 : Sl) (hy : act.eval y = .slice a2.ao a2.n a2.c) (h : HasRf w g a s p q)
    (hk : ∀ w', HasRf w' g a2 s p q → Kept g w w' → wpList Tryz.prog ops Q rest act w') : wpList Tryz.prog ops Q (op :: rest) act w :=
  wpList_stX hgd hdst _ x y ho g 0 hx _ hy h [.slice a2.ao a2.n a2.c] rfl (by simp [refC]) (by simp [Value.oneCell']) infoWsl (by simp [refC]) hk
theorem wpList_stR1 (hgd : op.guard = none) (hdst : op.dst = none) (x y : Operand) (ho : op.op = .store 24 x y) (g : Nat) (hx : act.eval x = .pointer (some ⟨g, 1, none⟩)) (s2 : Sl) (hy : act.eval y = .slice s2.ao s2.n s2.c) (h : HasRf w g a s p q)
    (hk : ∀ w', HasRf w' g a s2 p q → Kept g w w' → wpList Tryz.prog ops Q rest act w') : wpList Tryz.prog ops Q (op :: rest) act w :=
  wpList_stX hgd hdst _ x y ho g 1 hx _ hy h [.slice s2.ao s2.n s2.c] rfl (by simp [refC]) (by simp [Value.oneCell']) infoHp (by simp [refC]) hk
theorem wpList_stR2 (hgd : op.guard = none) (hdst : op.dst = none) (x y : Operand) (ho : op.op = .store 3 x y) (g : Nat) (hx : act.eval x = .pointer (some ⟨g, 2, none⟩)) (p2 : Int) (hy : act.eval y = .int .i64 p2) (h : HasRf w g a s p q)
    (hk : ∀ w', HasRf w' g a s p2 q → Kept g w w' → wpList Tryz.prog ops Q rest act w') : wpList Tryz.prog ops Q (op :: rest) act w :=
  wpList_stX hgd hdst _ x y ho g 2 hx _ hy h [.int .i64 p2] rfl (by simp [refC]) (by simp [Value.oneCell']) infoIn (by simp [refC]) hk
theorem wpList_stR3 (hgd : op.guard = none) (hdst : op.dst = none) (x y : Operand) (ho : op.op = .store 3 x y) (g : Nat) (hx : act.eval x = .pointer (some ⟨g, 3, none⟩)) (q2 : Int) (hy : act.eval y = .int .i64 q2) (h : HasRf w g a s p q)
    (hk : ∀ w', HasRf w' g a s p q2 → Kept g w w' → wpList Tryz.prog ops Q rest act w') : wpList Tryz.prog ops Q (op :: rest) act w :=
  wpList_stX hgd hdst _ x y ho g 3 hx _ hy h [.int .i64 q2] rfl (by simp [refC]) (by simp [Value.oneCell']) infoIn (by simp [refC]) hk
end
theorem stp_go {f : List I} {s m2 : Mc} {az : List Int} {es : List Ev} {x : I} (hx : insA f s.p = x) (hk : knwB x s.l = true) (h : flw x s az = (m2, es, 0)) : stp f s az = ⟨m2, es, 0, 0, []⟩ := by
  unfold stp
  rw [hx, if_neg (by rw [hk]; decide), h, if_pos rfl]
theorem ixR_if {ops : Array Oper} {S : World → Prop} {op : Oper} {act : Act} (hw : Region.wanted op (yielded ops act.tmps) = true) (T : TypeId) (p i : Operand) (ho : op.op = .indexAddr T p i) (v iv r : Value) (hx : act.eval p = v) (hi : act.eval i = iv) (hr : ∀ w, (Instr.indexAt T v iv).run Tryz.prog w = .ok r w) :
    YieldsIf Tryz.prog ops S op r act := .inl ⟨hw, fun w _ => by
  unfold execOp
  simp only [ho, hx, hi, hr w, Sem.run_bind, Sem.run_pure, Result.andThen_ok]⟩
theorem wpLS_made {P : Program} {ops : Array Oper} {S : World → Prop} {Q : Exit → Act → World → Prop} {o : Oper} {rest : List Oper} {a : Act} {w w' : World} (hw : Region.wanted o (yielded ops a.tmps) = true) (v : Value) (hS : S w') (hr : (execOp a.eval o).run P w = .ok (.value v) w') (h : wpLS P ops Q S rest (a.put o.dst v) w') : wpLS P ops Q S (o :: rest) a w := by
  unfold wpLS
  rw [if_pos hw]
  unfold Oper.wp
  rw [hr]
  exact ⟨hS, h⟩
theorem ldC4_if {ops : Array Oper} {S : World → Prop} {op : Oper} {act : Act} (hw : Region.wanted op (yielded ops act.tmps) = true) (x : Operand) (ho : op.op = .load 44 x) (g : Nat) (hx : act.eval x = .pointer (some ⟨g, 0, none⟩)) {a s : Sl} {p q : Int} (h : ∀ w, S w → HasRf w g a s p q) :
    YieldsIf Tryz.prog ops S op (.agg (refC a s p q).toArray) act := yieldsIf_load_mid hw _ _ ho g 0 hx (refC a s p q) _ (fun w hS => (h w hS).all) Tryz.underlying44 rfl infoRf
theorem upd_swap (l : Ws) (d a : Nat) : updW (updW l d (l a)) a (l d) = updW (updW l a (l d)) d (l a) := by
  by_cases h : d = a
  · subst h; rfl
  · exact upd_comm h _ _
end Go.Proofs.YtlmnodbhfpgplaaGreatDoor
namespace Go.Proofs.YtlmnodbhfpgplaaGreatDoor
open Go.RowKit

set_option maxHeartbeats 16000000 in
set_option maxRecDepth 100000 in
theorem refStep_moves (ao : Option Addr) (n cap : Nat) (f : List I) (l : Ws) (zs : List Int) (p q : Int) (a s : Sl) (az : List Int) (bo : Option Addr) (bn bc : Nat) (w : World) (hf : FunAt w (.slice ao n cap) f) (hw : WsAt w a l) (hp : Hp w (.slice s.ao s.n s.c) zs) (ha : Hp w (.slice bo bn bc) az) (_hal : bn ≤ 100000)
    (hm : mcB f ⟨l, zs, p, q⟩ = true) (o nn t : Int) (kd ka kb : Nat) (hkd : kd < 24) (hka : ka < 24) (hkb : kb < 24) (ho : o = 16 ∨ o = 1 ∨ o = 2 ∨ o = 3) (hx : insA f p = ⟨o, kd, ka, kb, nn, t⟩) :
    Calls Tryz.prog 28 #[.slice ao n cap, .agg (refC a s p q).toArray, .slice bo bn bc] w fun e w' => Dm w w' e a s (stp f ⟨l, zs, p, q⟩ az) := by
  have hmm := mc_iff.mp hm
  have hr := (right_iff.mp hmm.1).1
  have hp0 : 0 ≤ p := hmm.2.1
  have hpn : p < f.length := hmm.2.2.1
  have hp1 : p < 200 := by omega
  have hq0 : 0 ≤ q := hmm.2.2.2.2.1
  have h16 : zs.length ≤ 16 := hmm.2.2.2.1
  have h24 := hw.n
  obtain ⟨a1, a2, a3⟩ := a
  have h24' : a2 = 24 := h24
  subst h24'
  obtain ⟨fb, fo, x, ex, hix, hrg⟩ := FunAt.ix hf (i := p.toNat) (by have := hf.len; omega)
  rw [show ((p.toNat : Nat) : Int) = p from by omega] at hix
  have hxe : x = ⟨o, kd, ka, kb, nn, t⟩ := by
    rw [← hx]
    unfold insA
    rw [List.getD_eq_getElem?_getD, ex]
    rfl
  subst hxe
  have HW : Hid (∀ w', New w w' → WsAt w' ⟨a1, 24, a3⟩ l) := Lib.hid (fun w' h => hw.new h)
  have HP : Hid (∀ w', New w w' → Hp w' (.slice s.ao s.n s.c) zs) := Lib.hid (fun w' h => hp.new h)
  have HA : Hid (∀ w', New w w' → Hp w' (.slice bo bn bc) az) := Lib.hid (fun w' h => ha.new h)
  have HAL : Hid (bn = az.length) := Lib.hid ha.len
  have HX := Lib.hid hrg
  have HIX := Lib.hid hx
  have Tq1 : Hid True := Lib.hid trivial
  have Tq2 : Hid True := Lib.hid trivial
  have Tq3 : Hid True := Lib.hid trivial
  have Tq4 : Hid True := Lib.hid trivial
  have Tq5 : Hid True := Lib.hid trivial
  have Tq6 : Hid True := Lib.hid trivial
  have Tq7 : Hid True := Lib.hid trivial
  have Tq8 : Hid True := Lib.hid trivial
  have hkd' : (kd : Int) < 24 := by omega
  have hka' : (ka : Int) < 24 := by omega
  have hkb' : (kb : Int) < 24 := by omega
  clear hf hw hp ha hrg ex hmm hr hpn hx hm h24
  go_enter Tryz.func28, Tryz.ntmps28
  go_upto_region 3 with (first
    | (clear Tq1; refine wpList_boxX rfl 44 (.tmp 1) rfl (refC ⟨a1, 24, a3⟩ s p q) rfl ?_; intro w1 g4 hg4 hl4 H4 hn1; have A4 : Hid (HasRf w1 g4 ⟨a1, 24, a3⟩ s p q) := Lib.hid H4; clear H4)
    | (clear Tq2; refine wpList_alX rfl 44 rfl _ zeroR_run _ rfl ?_; intro w2 g6 hg6 hl6 H6 hn2; have A6 : Hid (HasRf w2 g6 nilS nilS 0 0) := Lib.hid H6; clear H6)
    | (clear Tq3; refine wpList_alX rfl 31 rfl _ zeroO_run _ rfl ?_; intro w3 g8 hg8 hl8 H8 hn3; have A8 : Hid (HasO w3 g8 0 0 nilS) := Lib.hid H8; replace A6 : Hid (HasRf w3 g6 nilS nilS 0 0) := Lib.hid (HasC.new A6.out hn3); replace A4 : Hid (HasRf w3 g4 ⟨a1, 24, a3⟩ s p q) := Lib.hid (HasC.new (HasC.new A4.out hn2) hn3); have HN := Lib.hid ((hn1.trans hn2).trans hn3); have c2 := HasRf.at A4.out; have n6 : w.heap.size ≤ g6 := Nat.le_trans hn1.size hg6; have n8 : w.heap.size ≤ g8 := Nat.le_trans (hn1.trans hn2).size hg8; have d46 : g4 < g6 := Nat.lt_of_lt_of_le hl4 hg6; have d68 : g6 < g8 := Nat.lt_of_lt_of_le hl6 hg8; clear H8 hn1 hn2 hn3 hg6 hl4 hl6 hg8)
    | (clear Tq4; refine wpList_ldE rfl (.tmp 23) rfl fb fo rfl (HX.out _ HN.out) ?_)
    | (clear Tq5; refine wpList_alX rfl 79 rfl _ Tryz.zeroValue79 [.int .i64 0, .int .i64 0, .int .i64 0, .int .i64 0, .int .i64 0, .int .i64 0] rfl ?_; intro w4 g9 hg9 hl9 H9 hn4; have I9 := Lib.hid H9; clear H9)
    | (clear Tq6; refine wpList_stX rfl rfl 79 (.tmp 9) (.tmp 24) rfl g9 0 rfl _ rfl I9.out (cells6 ⟨o, kd, ka, kb, nn, t⟩) rfl (by simp [cells6]) (by simp [cells6, Value.oneCell']) (by rw [cells6_len]; exact infoI) (cs' := cells6 ⟨o, kd, ka, kb, nn, t⟩) (by simp [cells6]) ?_; intro w5 H5 k5; have hn5 : New w3 w5 := k5.below w3 hg9 hn4; replace I9 : Hid (Has w5 g9 ⟨o, kd, ka, kb, nn, t⟩) := Lib.hid H5; have d89 : g8 < g9 := Nat.lt_of_lt_of_le hl8 hg9; replace A4 : Hid (HasRf w5 g4 ⟨a1, 24, a3⟩ s p q) := Lib.hid (HasC.new A4.out hn5); replace A6 : Hid (HasRf w5 g6 nilS nilS 0 0) := Lib.hid (HasC.new A6.out hn5); replace A8 : Hid (HasO w5 g8 0 0 nilS) := Lib.hid (HasC.new A8.out hn5); replace HN := Lib.hid (HN.out.trans hn5); have x0 := HasRf.l A4.out; have x1 := HasRf.hp A4.out; have x2 := HasRf.at A4.out; have x3 := HasRf.ask A4.out; have z5 := k5.size; clear H5 k5 hn4 hn5 hl8)
    | (clear Tq7; refine wpList_alX rfl 44 rfl _ zeroR_run _ rfl ?_; intro w6 g10 hg10 hl10 H10 hn6; have A10 : Hid (HasRf w6 g10 nilS nilS 0 0) := Lib.hid H10; clear H10)
    | (clear Tq8; refine wpList_stRf rfl rfl (.tmp 10) (.tmp 34) rfl g10 rfl ⟨a1, 24, a3⟩ s (p + 1) q rfl A10.out ?_; intro wy H7 k7; have hn7 : New w5 wy := k7.below w5 hg10 hn6; have d910 : g9 < g10 := Nat.lt_of_lt_of_le (heap_lt I9.out) hg10; have D : Hid (Dq w.heap.size g4 g6 g8 g9 g10) := Lib.hid ⟨n6, n8, Nat.le_trans HN.out.size hg10, by omega, by omega, by omega, by omega, by omega, by omega, by omega, by omega, by omega⟩; have FR : Hid (Fq w wy g4 g6 g8 g9 g10 ⟨a1, 24, a3⟩ s p q ⟨o, kd, ka, kb, nn, t⟩ ⟨a1, 24, a3⟩ s (p + 1) q) := Lib.hid ⟨HasC.new A4.out hn7, HasC.new A6.out hn7, HasC.new A8.out hn7, I9.out.new hn7, H7, HN.out.trans hn7⟩; obtain ⟨c0, c1, c2, c3, d0, d1, d2, d3, d4, d5⟩ := FR.out.cells; clear H7 k7 hn6 hn7 hg10 hl10 A4 A6 A8 A10 I9 HN x0 x1 x2 x3 n6 n8 d46 d68 d89 d910 z5 hg9 hl9))
  rcases ho with rfl | rfl | rfl | rfl
  · have HT : Hid (stp f ⟨l, zs, p, q⟩ az = ⟨⟨l, zs, t, q⟩, [], 0, 0, []⟩) := Lib.hid (stp_go HIX.out (knw_moves rfl l) (by simp [flw]))
    have Tr1 : Hid True := Lib.hid trivial
    have Tr2 : Hid True := Lib.hid trivial
    have Tr3 : Hid True := Lib.hid trivial
    have Tr4 : Hid True := Lib.hid trivial
    go_wp2_with (first
      | (clear Tr1; refine wpList_stR2 rfl rfl (.tmp 40) (.tmp 39) rfl g10 rfl t rfl FR.out.nx ?_; intro wy Hy ky; replace FR := Lib.hid (FR.out.turn D.out Hy ky); obtain ⟨c0, c1, c2, c3, d0, d1, d2, d3, d4, d5⟩ := FR.out.cells)
      | (clear Tr2; refine wpList_ldRf rfl (.tmp 10) rfl g10 rfl FR.out.nx ?_)
      | (clear Tr3; refine wpList_stRf rfl rfl (.tmp 6) (.tmp 41) rfl g6 rfl ⟨a1, 24, a3⟩ s t q rfl FR.out.res ?_; intro wz Hz kz)
      | (clear Tr4; refine wpList_stO rfl rfl (.tmp 8) (.tmp 42) rfl g8 rfl (0) (0) nilS rfl (HasC.kept FR.out.out kz (Ne.symm D.out.d68)) ?_; intro wo Ho ko))
    have NO : New w wo := ko.below _ D.out.n8 (kz.below _ D.out.n6 FR.out.new)
    exact bodyPost_ret (results_ctc (p := 6) (u := 7) (v := 8) rfl _ _ g6 g8 _ (.slice none 0 0) _ rfl (loadVar_C (HasC.kept Hz ko D.out.d68) Tryz.underlying44 rfl infoRf) rfl rfl (loadVar_C Ho Tryz.underlying31 rfl infoOut)) rfl (Dm.of HT.out (HW.out _ NO) (HP.out _ NO) (EvAt.nil _) (Hp.nil _) NO (.inl rfl) (.inl rfl) (.inl rfl) (.inr (.inl rfl)))
  · have HT : Hid (stp f ⟨l, zs, p, q⟩ az = ⟨⟨updW l kd (true, nn), zs, p + 1, q⟩, [], 0, 0, []⟩) := Lib.hid (stp_go HIX.out (knw_moves rfl l) (by simp [flw]))
    have Tr1 : Hid True := Lib.hid trivial
    have Tr2 : Hid True := Lib.hid trivial
    have Tr3 : Hid True := Lib.hid trivial
    have Tr4 : Hid True := Lib.hid trivial
    go_wp2_with (first
      | (go_at_call 53; have b6 := HasC.lt FR.out.res; have b8 := HasC.lt FR.out.out; have b10 := HasC.lt FR.out.nx; refine (refWith_any l kd hkd (true, nn) ⟨a1, 24, a3⟩ _ (HW.out _ FR.out.new)).mono ?_; rintro e w7 ⟨a7, rfl, hws, hn, hfar⟩; have HWS := Lib.hid hws; have HFS := Lib.hid hfar; clear hws hfar; replace FR := Lib.hid (FR.out.grow hn); clear hn; obtain ⟨c0, c1, c2, c3, d0, d1, d2, d3, d4, d5⟩ := FR.out.cells)
      | (clear Tr1; refine wpList_stR0 rfl rfl (.tmp 54) (.tmp 53) rfl g10 rfl a7 rfl FR.out.nx ?_; intro wy Hy ky; replace HWS := Lib.hid (WsAt.far HWS.out HFS.out b10 ky.other); replace FR := Lib.hid (FR.out.turn D.out Hy ky); obtain ⟨c0, c1, c2, c3, d0, d1, d2, d3, d4, d5⟩ := FR.out.cells)
      | (clear Tr2; refine wpList_ldRf rfl (.tmp 10) rfl g10 rfl FR.out.nx ?_)
      | (clear Tr3; refine wpList_stRf rfl rfl (.tmp 6) (.tmp 55) rfl g6 rfl a7 s (p + 1) q rfl FR.out.res ?_; intro wz Hz kz)
      | (clear Tr4; refine wpList_stO rfl rfl (.tmp 8) (.tmp 56) rfl g8 rfl (0) (0) nilS rfl (HasC.kept FR.out.out kz (Ne.symm D.out.d68)) ?_; intro wo Ho ko))
    have NO : New w wo := ko.below _ D.out.n8 (kz.below _ D.out.n6 FR.out.new)
    exact bodyPost_ret (results_ctc (p := 6) (u := 7) (v := 8) rfl _ _ g6 g8 _ (.slice none 0 0) _ rfl (loadVar_C (HasC.kept Hz ko D.out.d68) Tryz.underlying44 rfl infoRf) rfl rfl (loadVar_C Ho Tryz.underlying31 rfl infoOut)) rfl (Dm.of HT.out (WsAt.far (WsAt.far HWS.out HFS.out b6 kz.other) HFS.out b8 ko.other) (HP.out _ NO) (EvAt.nil _) (Hp.nil _) NO (.inr (HFS.out.mono (Nat.le_trans D.out.n6 (Nat.le_of_lt b6)))) (.inl rfl) (.inl rfl) (.inr (.inl rfl)))
  · have HT : Hid (stp f ⟨l, zs, p, q⟩ az = ⟨⟨updW l kd (l ka), zs, p + 1, q⟩, [], 0, 0, []⟩) := Lib.hid (stp_go HIX.out (knw_moves rfl l) (by simp [flw]))
    go_wp2_with fail
    obtain ⟨ab, af, hixA, hrgA⟩ := ElAt.ix (show ElAt w (.slice a1 24 a3) 24 (fun i => wcells (l i)) from HW.out w (New.refl w)) 42 Tryz.underlying42 sizeWd hka
    obtain ⟨eb, ef, hixD, hrgD⟩ := ElAt.ix (show ElAt w (.slice a1 24 a3) 24 (fun i => wcells (l i)) from HW.out w (New.refl w)) 42 Tryz.underlying42 sizeWd hkd
    have b6 := HasC.lt FR.out.res
    have b8 := HasC.lt FR.out.out
    have b10 := HasC.lt FR.out.nx
    have F0 := Lib.hid (FR.out.grow ((New.refl wy).drew))
    have S0 : Hid (New w wy.drew ∧ HasRf wy.drew g4 ⟨a1, 24, a3⟩ s p q ∧ Has wy.drew g9 ⟨2, kd, ka, kb, nn, t⟩) := Lib.hid ⟨F0.out.new, F0.out.st, F0.out.ins⟩
    refine wp_region_noPanic ?_
    refine wp_region_held_drew (S := fun w' => New w w' ∧ HasRf w' g4 ⟨a1, 24, a3⟩ s p q ∧ Has w' g9 ⟨2, kd, ka, kb, nn, t⟩) (by kernel_rfl) S0.out (fun _ => ?_)
    refine wpAnyH_take (i := 0) (v := .pointer (some ⟨g4, 0, none⟩)) rfl (by kernel_rfl) (by kernel_rfl) (by kernel_rfl) (fun _ _ _ h => h) (Or.inl ⟨rfl, fun _ _ => by go_simp⟩) S0.out ?_
    simp only [List.getElem_toArray, List.getElem_cons_zero, Act.put, List.setIfInBounds_toArray, List.set_cons_zero, List.set_cons_succ]
    refine wpAnyH_take (i := 1) (v := .slice a1 24 a3) rfl (by kernel_rfl) (by kernel_rfl) (by kernel_rfl) (fun _ _ _ h => h) (ldC_if rfl 42 Tryz.isAgg42 (.tmp 60) rfl ⟨g4, 0, none⟩ rfl (fun w' h => HasRf.l h.2.1)) S0.out ?_
    simp only [List.getElem_toArray, List.getElem_cons_zero, List.getElem_cons_succ, Act.put, List.setIfInBounds_toArray, List.set_cons_zero, List.set_cons_succ]
    refine wpAnyH_take (i := 2) (v := .pointer (some ⟨g9, 1, none⟩)) rfl (by kernel_rfl) (by kernel_rfl) (by kernel_rfl) (fun _ _ _ h => h) (Or.inl ⟨rfl, fun _ _ => by go_simp⟩) S0.out ?_
    simp only [List.getElem_toArray, List.getElem_cons_zero, List.getElem_cons_succ, Act.put, List.setIfInBounds_toArray, List.set_cons_zero, List.set_cons_succ]
    refine wpAnyH_take (i := 3) (v := .int .i64 (kd : Int)) rfl (by kernel_rfl) (by kernel_rfl) (by kernel_rfl) (fun _ _ _ h => h) (ldC_if rfl 3 Tryz.isAgg3 (.tmp 62) rfl ⟨g9, 1, none⟩ rfl (fun w' h => h.2.2.cell.2.1)) S0.out ?_
    simp only [List.getElem_toArray, List.getElem_cons_zero, List.getElem_cons_succ, Act.put, List.setIfInBounds_toArray, List.set_cons_zero, List.set_cons_succ]
    refine wpAnyH_take (i := 4) (v := .pointer (some ⟨g4, 0, none⟩)) rfl (by kernel_rfl) (by kernel_rfl) (by kernel_rfl) (fun _ _ _ h => h) (Or.inl ⟨rfl, fun _ _ => by go_simp⟩) S0.out ?_
    simp only [List.getElem_toArray, List.getElem_cons_zero, List.getElem_cons_succ, Act.put, List.setIfInBounds_toArray, List.set_cons_zero, List.set_cons_succ]
    refine wpAnyH_take (i := 5) (v := .slice a1 24 a3) rfl (by kernel_rfl) (by kernel_rfl) (by kernel_rfl) (fun _ _ _ h => h) (ldC_if rfl 42 Tryz.isAgg42 (.tmp 64) rfl ⟨g4, 0, none⟩ rfl (fun w' h => HasRf.l h.2.1)) S0.out ?_
    simp only [List.getElem_toArray, List.getElem_cons_zero, List.getElem_cons_succ, Act.put, List.setIfInBounds_toArray, List.set_cons_zero, List.set_cons_succ]
    refine wpAnyH_take (i := 6) (v := .pointer (some ⟨g9, 2, none⟩)) rfl (by kernel_rfl) (by kernel_rfl) (by kernel_rfl) (fun _ _ _ h => h) (Or.inl ⟨rfl, fun _ _ => by go_simp⟩) S0.out ?_
    simp only [List.getElem_toArray, List.getElem_cons_zero, List.getElem_cons_succ, Act.put, List.setIfInBounds_toArray, List.set_cons_zero, List.set_cons_succ]
    refine wpAnyH_take (i := 7) (v := .int .i64 (ka : Int)) rfl (by kernel_rfl) (by kernel_rfl) (by kernel_rfl) (fun _ _ _ h => h) (ldC_if rfl 3 Tryz.isAgg3 (.tmp 66) rfl ⟨g9, 2, none⟩ rfl (fun w' h => h.2.2.cell.2.2.1)) S0.out ?_
    simp only [List.getElem_toArray, List.getElem_cons_zero, List.getElem_cons_succ, Act.put, List.setIfInBounds_toArray, List.set_cons_zero, List.set_cons_succ]
    refine wpAnyH_take (i := 8) (v := .pointer (some ⟨ab, af, none⟩)) rfl (by kernel_rfl) (by kernel_rfl) (by kernel_rfl) (fun _ _ _ h => h) (ixR_if rfl 42 (.tmp 65) (.tmp 67) rfl _ _ _ rfl rfl hixA) S0.out ?_
    simp only [List.getElem_toArray, List.getElem_cons_zero, List.getElem_cons_succ, Act.put, List.setIfInBounds_toArray, List.set_cons_zero, List.set_cons_succ]
    refine wpAnyH_take (i := 9) (v := .agg #[.bool (l ka).1, .int .i64 (l ka).2]) rfl (by kernel_rfl) (by kernel_rfl) (by kernel_rfl) (fun _ _ _ h => h) (yieldsIf_load_mid (by rfl) _ _ rfl ab af rfl (wcells (l ka)) _ (fun w' h => hrgA w' h.1) Tryz.underlying35 rfl infoWd) S0.out ?_
    simp only [List.getElem_toArray, List.getElem_cons_zero, List.getElem_cons_succ, Act.put, List.setIfInBounds_toArray, List.set_cons_zero, List.set_cons_succ]
    refine wpAnyH_call (i := 10) rfl rfl (by kernel_rfl) 53 #[.slice a1 24 a3, .int .i64 (kd : Int), .agg #[.bool (l ka).1, .int .i64 (l ka).2]] (by go_simp) ?_
    refine (refWith_any (l) kd hkd (l ka) ⟨a1, 24, a3⟩ _ (HW.out _ S0.out.1)).mono ?_
    rintro e w7 ⟨a7, rfl, hws7, hn7, hfar7⟩
    replace F0 := Lib.hid (F0.out.grow hn7)
    replace S0 : Hid (New w w7 ∧ HasRf w7 g4 ⟨a1, 24, a3⟩ s p q ∧ Has w7 g9 ⟨2, kd, ka, kb, nn, t⟩) := Lib.hid ⟨F0.out.new, F0.out.st, F0.out.ins⟩
    refine ⟨_, rfl, S0.out, ?_⟩
    simp only [List.getElem_toArray, List.getElem_cons_zero, List.getElem_cons_succ, Act.put, List.setIfInBounds_toArray, List.set_cons_zero, List.set_cons_succ]
    refine wpAnyH_forced [11, 12] _ _ _ S0.out (by kernel_rfl) (by simp) ?_
    simp only [List.map_cons, List.map_nil, Array.getD_eq_getD_getElem?, List.getElem?_toArray, List.getElem?_cons_succ, List.getElem?_cons_zero, Option.getD_some]
    refine wpLS_value rfl (.pointer (some ⟨g10, 0, none⟩)) S0.out (by go_simp) ?_
    simp only [Act.put, List.setIfInBounds_toArray, List.set_cons_zero, List.set_cons_succ]
    refine wpLS_stR0 rfl rfl (.tmp 71) (.tmp 70) rfl g10 rfl a7 rfl F0.out.nx ?_
    intro w9 H9 k9
    have F9 := F0.out.turn D.out H9 k9
    refine ⟨⟨F9.new, F9.st, F9.ins⟩, ?_⟩
    refine wpLS_nil ?_
    refine NoPanic.normal ?_
    have HWS := Lib.hid (WsAt.far hws7 hfar7 (Nat.lt_of_lt_of_le b10 (Nat.le_refl _)) k9.other)
    have HFS := Lib.hid hfar7
    replace FR := Lib.hid F9
    obtain ⟨c0, c1, c2, c3, d0, d1, d2, d3, d4, d5⟩ := FR.out.cells
    clear F0 S0 F9 H9 k9 hws7 hfar7
    have Tr1 : Hid True := Lib.hid trivial
    have Tr2 : Hid True := Lib.hid trivial
    have Tr3 : Hid True := Lib.hid trivial
    go_wp2_with (first
      | (clear Tr1; refine wpList_ldRf rfl (.tmp 10) rfl g10 rfl FR.out.nx ?_)
      | (clear Tr2; refine wpList_stRf rfl rfl (.tmp 6) (.tmp 72) rfl g6 rfl a7 s (p + 1) q rfl FR.out.res ?_; intro wz Hz kz)
      | (clear Tr3; refine wpList_stO rfl rfl (.tmp 8) (.tmp 73) rfl g8 rfl (0) (0) nilS rfl (HasC.kept FR.out.out kz (Ne.symm D.out.d68)) ?_; intro wo Ho ko))
    have NO : New w wo := ko.below _ D.out.n8 (kz.below _ D.out.n6 FR.out.new)
    exact bodyPost_ret (results_ctc (p := 6) (u := 7) (v := 8) rfl _ _ g6 g8 _ (.slice none 0 0) _ rfl (loadVar_C (HasC.kept Hz ko D.out.d68) Tryz.underlying44 rfl infoRf) rfl rfl (loadVar_C Ho Tryz.underlying31 rfl infoOut)) rfl (Dm.of HT.out (WsAt.far (WsAt.far HWS.out HFS.out b6 kz.other) HFS.out b8 ko.other) (HP.out _ NO) (EvAt.nil _) (Hp.nil _) NO (.inr (HFS.out.mono (Nat.le_trans D.out.n6 (Nat.le_of_lt b6)))) (.inl rfl) (.inl rfl) (.inr (.inl rfl)))
  · have HT : Hid (stp f ⟨l, zs, p, q⟩ az = ⟨⟨updW (updW l kd (l ka)) ka (l kd), zs, p + 1, q⟩, [], 0, 0, []⟩) := Lib.hid (stp_go HIX.out (knw_moves rfl l) (by simp [flw, upd_swap]))
    go_wp2_with fail
    obtain ⟨ab, af, hixA, hrgA⟩ := ElAt.ix (show ElAt w (.slice a1 24 a3) 24 (fun i => wcells (l i)) from HW.out w (New.refl w)) 42 Tryz.underlying42 sizeWd hka
    obtain ⟨eb, ef, hixD, hrgD⟩ := ElAt.ix (show ElAt w (.slice a1 24 a3) 24 (fun i => wcells (l i)) from HW.out w (New.refl w)) 42 Tryz.underlying42 sizeWd hkd
    have b6 := HasC.lt FR.out.res
    have b8 := HasC.lt FR.out.out
    have b10 := HasC.lt FR.out.nx
    have F0 := Lib.hid (FR.out.grow ((New.refl wy).drew))
    have S0 : Hid (New w wy.drew ∧ HasRf wy.drew g4 ⟨a1, 24, a3⟩ s p q ∧ Has wy.drew g9 ⟨3, kd, ka, kb, nn, t⟩) := Lib.hid ⟨F0.out.new, F0.out.st, F0.out.ins⟩
    refine wp_region_noPanic ?_
    refine wp_region_held_drew (S := fun w' => New w w' ∧ HasRf w' g4 ⟨a1, 24, a3⟩ s p q ∧ Has w' g9 ⟨3, kd, ka, kb, nn, t⟩) (by kernel_rfl) S0.out (fun _ => ?_)
    refine wpAnyH_take (i := 0) (v := .pointer (some ⟨g4, 0, none⟩)) rfl (by kernel_rfl) (by kernel_rfl) (by kernel_rfl) (fun _ _ _ h => h) (Or.inl ⟨rfl, fun _ _ => by go_simp⟩) S0.out ?_
    simp only [List.getElem_toArray, List.getElem_cons_zero, Act.put, List.setIfInBounds_toArray, List.set_cons_zero, List.set_cons_succ]
    refine wpAnyH_take (i := 1) (v := .slice a1 24 a3) rfl (by kernel_rfl) (by kernel_rfl) (by kernel_rfl) (fun _ _ _ h => h) (ldC_if rfl 42 Tryz.isAgg42 (.tmp 77) rfl ⟨g4, 0, none⟩ rfl (fun w' h => HasRf.l h.2.1)) S0.out ?_
    simp only [List.getElem_toArray, List.getElem_cons_zero, List.getElem_cons_succ, Act.put, List.setIfInBounds_toArray, List.set_cons_zero, List.set_cons_succ]
    refine wpAnyH_take (i := 2) (v := .pointer (some ⟨g9, 1, none⟩)) rfl (by kernel_rfl) (by kernel_rfl) (by kernel_rfl) (fun _ _ _ h => h) (Or.inl ⟨rfl, fun _ _ => by go_simp⟩) S0.out ?_
    simp only [List.getElem_toArray, List.getElem_cons_zero, List.getElem_cons_succ, Act.put, List.setIfInBounds_toArray, List.set_cons_zero, List.set_cons_succ]
    refine wpAnyH_take (i := 3) (v := .int .i64 (kd : Int)) rfl (by kernel_rfl) (by kernel_rfl) (by kernel_rfl) (fun _ _ _ h => h) (ldC_if rfl 3 Tryz.isAgg3 (.tmp 79) rfl ⟨g9, 1, none⟩ rfl (fun w' h => h.2.2.cell.2.1)) S0.out ?_
    simp only [List.getElem_toArray, List.getElem_cons_zero, List.getElem_cons_succ, Act.put, List.setIfInBounds_toArray, List.set_cons_zero, List.set_cons_succ]
    refine wpAnyH_take (i := 4) (v := .pointer (some ⟨g4, 0, none⟩)) rfl (by kernel_rfl) (by kernel_rfl) (by kernel_rfl) (fun _ _ _ h => h) (Or.inl ⟨rfl, fun _ _ => by go_simp⟩) S0.out ?_
    simp only [List.getElem_toArray, List.getElem_cons_zero, List.getElem_cons_succ, Act.put, List.setIfInBounds_toArray, List.set_cons_zero, List.set_cons_succ]
    refine wpAnyH_take (i := 5) (v := .slice a1 24 a3) rfl (by kernel_rfl) (by kernel_rfl) (by kernel_rfl) (fun _ _ _ h => h) (ldC_if rfl 42 Tryz.isAgg42 (.tmp 81) rfl ⟨g4, 0, none⟩ rfl (fun w' h => HasRf.l h.2.1)) S0.out ?_
    simp only [List.getElem_toArray, List.getElem_cons_zero, List.getElem_cons_succ, Act.put, List.setIfInBounds_toArray, List.set_cons_zero, List.set_cons_succ]
    refine wpAnyH_take (i := 6) (v := .pointer (some ⟨g9, 2, none⟩)) rfl (by kernel_rfl) (by kernel_rfl) (by kernel_rfl) (fun _ _ _ h => h) (Or.inl ⟨rfl, fun _ _ => by go_simp⟩) S0.out ?_
    simp only [List.getElem_toArray, List.getElem_cons_zero, List.getElem_cons_succ, Act.put, List.setIfInBounds_toArray, List.set_cons_zero, List.set_cons_succ]
    refine wpAnyH_take (i := 7) (v := .int .i64 (ka : Int)) rfl (by kernel_rfl) (by kernel_rfl) (by kernel_rfl) (fun _ _ _ h => h) (ldC_if rfl 3 Tryz.isAgg3 (.tmp 83) rfl ⟨g9, 2, none⟩ rfl (fun w' h => h.2.2.cell.2.2.1)) S0.out ?_
    simp only [List.getElem_toArray, List.getElem_cons_zero, List.getElem_cons_succ, Act.put, List.setIfInBounds_toArray, List.set_cons_zero, List.set_cons_succ]
    refine wpAnyH_take (i := 8) (v := .pointer (some ⟨ab, af, none⟩)) rfl (by kernel_rfl) (by kernel_rfl) (by kernel_rfl) (fun _ _ _ h => h) (ixR_if rfl 42 (.tmp 82) (.tmp 84) rfl _ _ _ rfl rfl hixA) S0.out ?_
    simp only [List.getElem_toArray, List.getElem_cons_zero, List.getElem_cons_succ, Act.put, List.setIfInBounds_toArray, List.set_cons_zero, List.set_cons_succ]
    refine wpAnyH_take (i := 9) (v := .agg #[.bool (l ka).1, .int .i64 (l ka).2]) rfl (by kernel_rfl) (by kernel_rfl) (by kernel_rfl) (fun _ _ _ h => h) (yieldsIf_load_mid (by rfl) _ _ rfl ab af rfl (wcells (l ka)) _ (fun w' h => hrgA w' h.1) Tryz.underlying35 rfl infoWd) S0.out ?_
    simp only [List.getElem_toArray, List.getElem_cons_zero, List.getElem_cons_succ, Act.put, List.setIfInBounds_toArray, List.set_cons_zero, List.set_cons_succ]
    refine wpAnyH_take (i := 11) (v := .pointer (some ⟨g9, 2, none⟩)) rfl (by kernel_rfl) (by kernel_rfl) (by kernel_rfl) (fun _ _ _ h => h) (Or.inl ⟨rfl, fun _ _ => by go_simp⟩) S0.out ?_
    simp only [List.getElem_toArray, List.getElem_cons_zero, List.getElem_cons_succ, Act.put, List.setIfInBounds_toArray, List.set_cons_zero, List.set_cons_succ]
    refine wpAnyH_take (i := 12) (v := .int .i64 (ka : Int)) rfl (by kernel_rfl) (by kernel_rfl) (by kernel_rfl) (fun _ _ _ h => h) (ldC_if rfl 3 Tryz.isAgg3 (.tmp 88) rfl ⟨g9, 2, none⟩ rfl (fun w' h => h.2.2.cell.2.2.1)) S0.out ?_
    simp only [List.getElem_toArray, List.getElem_cons_zero, List.getElem_cons_succ, Act.put, List.setIfInBounds_toArray, List.set_cons_zero, List.set_cons_succ]
    refine wpAnyH_take (i := 13) (v := .pointer (some ⟨g4, 0, none⟩)) rfl (by kernel_rfl) (by kernel_rfl) (by kernel_rfl) (fun _ _ _ h => h) (Or.inl ⟨rfl, fun _ _ => by go_simp⟩) S0.out ?_
    simp only [List.getElem_toArray, List.getElem_cons_zero, List.getElem_cons_succ, Act.put, List.setIfInBounds_toArray, List.set_cons_zero, List.set_cons_succ]
    refine wpAnyH_take (i := 14) (v := .slice a1 24 a3) rfl (by kernel_rfl) (by kernel_rfl) (by kernel_rfl) (fun _ _ _ h => h) (ldC_if rfl 42 Tryz.isAgg42 (.tmp 90) rfl ⟨g4, 0, none⟩ rfl (fun w' h => HasRf.l h.2.1)) S0.out ?_
    simp only [List.getElem_toArray, List.getElem_cons_zero, List.getElem_cons_succ, Act.put, List.setIfInBounds_toArray, List.set_cons_zero, List.set_cons_succ]
    refine wpAnyH_take (i := 15) (v := .pointer (some ⟨g9, 1, none⟩)) rfl (by kernel_rfl) (by kernel_rfl) (by kernel_rfl) (fun _ _ _ h => h) (Or.inl ⟨rfl, fun _ _ => by go_simp⟩) S0.out ?_
    simp only [List.getElem_toArray, List.getElem_cons_zero, List.getElem_cons_succ, Act.put, List.setIfInBounds_toArray, List.set_cons_zero, List.set_cons_succ]
    refine wpAnyH_take (i := 16) (v := .int .i64 (kd : Int)) rfl (by kernel_rfl) (by kernel_rfl) (by kernel_rfl) (fun _ _ _ h => h) (ldC_if rfl 3 Tryz.isAgg3 (.tmp 92) rfl ⟨g9, 1, none⟩ rfl (fun w' h => h.2.2.cell.2.1)) S0.out ?_
    simp only [List.getElem_toArray, List.getElem_cons_zero, List.getElem_cons_succ, Act.put, List.setIfInBounds_toArray, List.set_cons_zero, List.set_cons_succ]
    refine wpAnyH_take (i := 17) (v := .pointer (some ⟨eb, ef, none⟩)) rfl (by kernel_rfl) (by kernel_rfl) (by kernel_rfl) (fun _ _ _ h => h) (ixR_if rfl 42 (.tmp 91) (.tmp 93) rfl _ _ _ rfl rfl hixD) S0.out ?_
    simp only [List.getElem_toArray, List.getElem_cons_zero, List.getElem_cons_succ, Act.put, List.setIfInBounds_toArray, List.set_cons_zero, List.set_cons_succ]
    refine wpAnyH_take (i := 18) (v := .agg #[.bool (l kd).1, .int .i64 (l kd).2]) rfl (by kernel_rfl) (by kernel_rfl) (by kernel_rfl) (fun _ _ _ h => h) (yieldsIf_load_mid (by rfl) _ _ rfl eb ef rfl (wcells (l kd)) _ (fun w' h => hrgD w' h.1) Tryz.underlying35 rfl infoWd) S0.out ?_
    simp only [List.getElem_toArray, List.getElem_cons_zero, List.getElem_cons_succ, Act.put, List.setIfInBounds_toArray, List.set_cons_zero, List.set_cons_succ]
    refine wpAnyH_call (i := 10) rfl rfl (by kernel_rfl) 53 #[.slice a1 24 a3, .int .i64 (kd : Int), .agg #[.bool (l ka).1, .int .i64 (l ka).2]] (by go_simp) ?_
    refine (refWith_any (l) kd hkd (l ka) ⟨a1, 24, a3⟩ _ (HW.out _ S0.out.1)).mono ?_
    rintro e w7 ⟨a7, rfl, hws7, hn7, hfar7⟩
    replace F0 := Lib.hid (F0.out.grow hn7)
    replace S0 : Hid (New w w7 ∧ HasRf w7 g4 ⟨a1, 24, a3⟩ s p q ∧ Has w7 g9 ⟨3, kd, ka, kb, nn, t⟩) := Lib.hid ⟨F0.out.new, F0.out.st, F0.out.ins⟩
    refine ⟨_, rfl, S0.out, ?_⟩
    simp only [List.getElem_toArray, List.getElem_cons_zero, List.getElem_cons_succ, Act.put, List.setIfInBounds_toArray, List.set_cons_zero, List.set_cons_succ]
    refine wpAnyH_call (i := 19) rfl rfl (by kernel_rfl) 53 #[.slice a7.ao a7.n a7.c, .int .i64 (ka : Int), .agg #[.bool (l kd).1, .int .i64 (l kd).2]] (by go_simp) ?_
    refine (refWith_any (updW l kd (l ka)) ka hka (l kd) a7 _ (hws7)).mono ?_
    rintro e w8 ⟨a8, rfl, hws8, hn8, hfar8⟩
    replace F0 := Lib.hid (F0.out.grow hn8)
    replace S0 : Hid (New w w8 ∧ HasRf w8 g4 ⟨a1, 24, a3⟩ s p q ∧ Has w8 g9 ⟨3, kd, ka, kb, nn, t⟩) := Lib.hid ⟨F0.out.new, F0.out.st, F0.out.ins⟩
    refine ⟨_, rfl, S0.out, ?_⟩
    simp only [List.getElem_toArray, List.getElem_cons_zero, List.getElem_cons_succ, Act.put, List.setIfInBounds_toArray, List.set_cons_zero, List.set_cons_succ]
    refine wpAnyH_forced [20, 21] _ _ _ S0.out (by kernel_rfl) (by simp) ?_
    simp only [List.map_cons, List.map_nil, Array.getD_eq_getD_getElem?, List.getElem?_toArray, List.getElem?_cons_succ, List.getElem?_cons_zero, Option.getD_some]
    refine wpLS_value rfl (.pointer (some ⟨g10, 0, none⟩)) S0.out (by go_simp) ?_
    simp only [Act.put, List.setIfInBounds_toArray, List.set_cons_zero, List.set_cons_succ]
    refine wpLS_stR0 rfl rfl (.tmp 97) (.tmp 96) rfl g10 rfl a8 rfl F0.out.nx ?_
    intro w9 H9 k9
    have F9 := F0.out.turn D.out H9 k9
    refine ⟨⟨F9.new, F9.st, F9.ins⟩, ?_⟩
    refine wpLS_nil ?_
    refine NoPanic.normal ?_
    have HWS := Lib.hid (WsAt.far hws8 hfar8 (Nat.lt_of_lt_of_le b10 (hn7.size)) k9.other)
    have HFS := Lib.hid hfar8
    replace FR := Lib.hid F9
    obtain ⟨c0, c1, c2, c3, d0, d1, d2, d3, d4, d5⟩ := FR.out.cells
    clear F0 S0 F9 H9 k9 hws8 hfar8
    have Tr1 : Hid True := Lib.hid trivial
    have Tr2 : Hid True := Lib.hid trivial
    have Tr3 : Hid True := Lib.hid trivial
    go_wp2_with (first
      | (clear Tr1; refine wpList_ldRf rfl (.tmp 10) rfl g10 rfl FR.out.nx ?_)
      | (clear Tr2; refine wpList_stRf rfl rfl (.tmp 6) (.tmp 98) rfl g6 rfl a8 s (p + 1) q rfl FR.out.res ?_; intro wz Hz kz)
      | (clear Tr3; refine wpList_stO rfl rfl (.tmp 8) (.tmp 99) rfl g8 rfl (0) (0) nilS rfl (HasC.kept FR.out.out kz (Ne.symm D.out.d68)) ?_; intro wo Ho ko))
    have NO : New w wo := ko.below _ D.out.n8 (kz.below _ D.out.n6 FR.out.new)
    exact bodyPost_ret (results_ctc (p := 6) (u := 7) (v := 8) rfl _ _ g6 g8 _ (.slice none 0 0) _ rfl (loadVar_C (HasC.kept Hz ko D.out.d68) Tryz.underlying44 rfl infoRf) rfl rfl (loadVar_C Ho Tryz.underlying31 rfl infoOut)) rfl (Dm.of HT.out (WsAt.far (WsAt.far HWS.out HFS.out (Nat.lt_of_lt_of_le b6 hn7.size) kz.other) HFS.out (Nat.lt_of_lt_of_le b8 hn7.size) ko.other) (HP.out _ NO) (EvAt.nil _) (Hp.nil _) NO (.inr (HFS.out.mono (Nat.le_trans D.out.n6 (Nat.le_of_lt (Nat.lt_of_lt_of_le b6 hn7.size))))) (.inl rfl) (.inl rfl) (.inr (.inl rfl)))
end Go.Proofs.YtlmnodbhfpgplaaGreatDoor
