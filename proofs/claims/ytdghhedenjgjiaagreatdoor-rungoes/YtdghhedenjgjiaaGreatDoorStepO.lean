/-
  The reference's Do: what the document makes of a state, for every function, state and row of answers.
-/
import Derived.Test.YtdghhedenjgjiaaGreatDoorStepN
import Derived.Test.YtdghhedenjgjiaaGreatDoorHeapR
import Derived.Test.YtdghhedenjgjiaaGreatDoorNumOpRef
import Derived.Test.YtdghhedenjgjiaaGreatDoorRefUses
namespace Go.Proofs.YtdghhedenjgjiaaGreatDoor
open Go.RowKit

/-- What the reference's Do answers. -/
def Dm (w w' : World) (e : Ending) (a s : Sl) (r : Tl) : Prop :=
  ∃ (a' s' : Sl) (v : Value) (so : Sl), e = .returned (.tuple #[.agg (refC a' s' r.s.p r.s.q).toArray, v, .agg (outC r.how r.val so).toArray]) ∧ WsAt w' a' r.s.l ∧ Hp w' (.slice s'.ao s'.n s'.c) r.s.h ∧ EvAt w' v r.ev ∧ Hp w' (.slice so.ao so.n so.c) r.hp ∧ New w w' ∧ (a' = a ∨ FarS w.heap.size a') ∧ (s' = s ∨ Fresh w.heap.size (.slice s'.ao s'.n s'.c) r.s.h) ∧ Fresh w.heap.size v r.ev ∧ (so = s ∨ Fresh w.heap.size (.slice so.ao so.n so.c) r.hp)
theorem FarS.mono {B C : Nat} {a : Sl} (h : FarS C a) (hb : B ≤ C) : FarS B a := let ⟨b, o, e, hh⟩ := h; ⟨b, o, e, Nat.le_trans hb hh⟩
theorem Dm.of {w w' : World} {r : Tl} {l : Ws} {h oh : List Int} {p q how val : Int} {es : List Ev} {a0 s0 a s so : Sl} {v : Value} (hr : r = ⟨⟨l, h, p, q⟩, es, how, val, oh⟩) (h0 : WsAt w' a l) (h1 : Hp w' (.slice s.ao s.n s.c) h) (h2 : EvAt w' v es) (h3 : Hp w' (.slice so.ao so.n so.c) oh) (h4 : New w w') (h5 : a = a0 ∨ FarS w.heap.size a) (h6 : s = s0 ∨ Fresh w.heap.size (.slice s.ao s.n s.c) h) (h7 : Fresh w.heap.size v es) (h8 : so = s0 ∨ Fresh w.heap.size (.slice so.ao so.n so.c) oh) :
    Dm w w' (.returned (.tuple #[.agg (refC a s p q).toArray, v, .agg (outC how val so).toArray])) a0 s0 r := by
  subst hr
  exact ⟨a, s, v, so, rfl, h0, h1, h2, h3, h4, h5, h6, h7, h8⟩
theorem results_ctc {fn : Func} {p u v : Tmp} {ty ty' : TypeId} (h : fn.results = #[.cell p ty, .tmp u, .cell v ty']) (tmps : Array Value) (w : World) (g k : Nat) (x y z : Value) (hp : tmps.getD p undef = .pointer (some ⟨g, 0, none⟩)) (hl : (loadVar ty ⟨g, 0, none⟩).run Tryz.prog w = .ok x w)
    (hu : tmps.getD u undef = y) (hv : tmps.getD v undef = .pointer (some ⟨k, 0, none⟩)) (hl' : (loadVar ty' ⟨k, 0, none⟩).run Tryz.prog w = .ok z w) : (results fn tmps).run Tryz.prog w = .ok (.tuple #[x, y, z]) w := by
  have hp' : tmps[p]?.getD undef = .pointer (some ⟨g, 0, none⟩) := by simpa using hp
  have hu' : tmps[u]?.getD undef = y := by simpa using hu
  have hv' : tmps[v]?.getD undef = .pointer (some ⟨k, 0, none⟩) := by simpa using hv
  simp [results, h, hp', hu', hv', asAddr, hl, hl']
/-- Its variables. -/
structure Dq (n g4 g6 g8 g9 g10 : Nat) : Prop where
  n6 : n ≤ g6
  n8 : n ≤ g8
  n10 : n ≤ g10
  d68 : g6 ≠ g8
  a4 : g4 ≠ g10
  a6 : g6 ≠ g10
  a8 : g8 ≠ g10
  a9 : g9 ≠ g10
  d46 : g4 ≠ g6
  d48 : g4 ≠ g8
  d69 : g6 ≠ g9
  d89 : g8 ≠ g9
structure Fq (w wx : World) (g4 g6 g8 g9 g10 : Nat) (a s : Sl) (p q : Int) (x : I) (a' s' : Sl) (p' q' : Int) : Prop where
  st : HasRf wx g4 a s p q
  res : HasRf wx g6 nilS nilS 0 0
  out : HasO wx g8 0 0 nilS
  ins : Has wx g9 x
  nx : HasRf wx g10 a' s' p' q'
  new : New w wx
section
variable {w wx wy : World} {g4 g6 g8 g9 g10 : Nat} {a s a' s' a2 s2 : Sl} {p q p' q' p2 q2 : Int} {x : I}
theorem Fq.turn (h : Fq w wx g4 g6 g8 g9 g10 a s p q x a' s' p' q') (D : Dq w.heap.size g4 g6 g8 g9 g10) (H : HasRf wy g10 a2 s2 p2 q2) (k : Kept g10 wx wy) : Fq w wy g4 g6 g8 g9 g10 a s p q x a2 s2 p2 q2 :=
  ⟨HasC.kept h.st k D.a4, HasC.kept h.res k D.a6, HasC.kept h.out k D.a8, (k.other _ D.a9).trans h.ins, H, k.below _ D.n10 h.new⟩
theorem Fq.grow (h : Fq w wx g4 g6 g8 g9 g10 a s p q x a' s' p' q') (n : New wx wy) : Fq w wy g4 g6 g8 g9 g10 a s p q x a' s' p' q' :=
  ⟨HasC.new h.st n, HasC.new h.res n, HasC.new h.out n, h.ins.new n, HasC.new h.nx n, h.new.trans n⟩
theorem Fq.cells (h : Fq w wx g4 g6 g8 g9 g10 a s p q x a' s' p' q') :
    wx.cell? ⟨g4, 0, none⟩ = some (.slice a.ao a.n a.c) ∧ wx.cell? ⟨g4, 1, none⟩ = some (.slice s.ao s.n s.c) ∧ wx.cell? ⟨g4, 2, none⟩ = some (.int .i64 p) ∧ wx.cell? ⟨g4, 3, none⟩ = some (.int .i64 q) ∧
    wx.cell? ⟨g9, 0, none⟩ = some (.int .i64 x.op) ∧ wx.cell? ⟨g9, 1, none⟩ = some (.int .i64 x.d) ∧ wx.cell? ⟨g9, 2, none⟩ = some (.int .i64 x.a) ∧ wx.cell? ⟨g9, 3, none⟩ = some (.int .i64 x.b) ∧ wx.cell? ⟨g9, 4, none⟩ = some (.int .i64 x.n) ∧ wx.cell? ⟨g9, 5, none⟩ = some (.int .i64 x.t) :=
  ⟨HasRf.l h.st, HasRf.hp h.st, HasRf.at h.st, HasRf.ask h.st, h.ins.cell.1, h.ins.cell.2.1, h.ins.cell.2.2.1, h.ins.cell.2.2.2, h.ins.cell4, h.ins.cell5⟩
end
section
variable {ops : Array Oper} {rest : List Oper} {op : Oper} {act : Act} {w : World} {Q : Exit → Act → World → Prop} {g : Nat} {a s : Sl} {p q : Int}
theorem wpList_stR0 (hgd : op.guard = none) (hdst : op.dst = none) (x y : Operand) (ho : op.op = .store 38 x y) (g : Nat) (hx : act.eval x = .pointer (some ⟨g, 0, none⟩)) (a2 : Sl) (hy : act.eval y = .slice a2.ao a2.n a2.c) (h : HasRf w g a s p q)
    (hk : ∀ w', HasRf w' g a2 s p q → Kept g w w' → wpList Tryz.prog ops Q rest act w') : wpList Tryz.prog ops Q (op :: rest) act w :=
  wpList_stX hgd hdst _ x y ho g 0 hx _ hy h [.slice a2.ao a2.n a2.c] rfl (by simp [refC]) (by simp [Value.oneCell']) infoWsl (by simp [refC]) hk
theorem wpList_stR1 (hgd : op.guard = none) (hdst : op.dst = none) (x y : Operand) (ho : op.op = .store 26 x y) (g : Nat) (hx : act.eval x = .pointer (some ⟨g, 1, none⟩)) (s2 : Sl) (hy : act.eval y = .slice s2.ao s2.n s2.c) (h : HasRf w g a s p q)
    (hk : ∀ w', HasRf w' g a s2 p q → Kept g w w' → wpList Tryz.prog ops Q rest act w') : wpList Tryz.prog ops Q (op :: rest) act w :=
  wpList_stX hgd hdst _ x y ho g 1 hx _ hy h [.slice s2.ao s2.n s2.c] rfl (by simp [refC]) (by simp [Value.oneCell']) infoHp (by simp [refC]) hk
theorem wpList_stR2 (hgd : op.guard = none) (hdst : op.dst = none) (x y : Operand) (ho : op.op = .store 3 x y) (g : Nat) (hx : act.eval x = .pointer (some ⟨g, 2, none⟩)) (p2 : Int) (hy : act.eval y = .int .i64 p2) (h : HasRf w g a s p q)
    (hk : ∀ w', HasRf w' g a s p2 q → Kept g w w' → wpList Tryz.prog ops Q rest act w') : wpList Tryz.prog ops Q (op :: rest) act w :=
  wpList_stX hgd hdst _ x y ho g 2 hx _ hy h [.int .i64 p2] rfl (by simp [refC]) (by simp [Value.oneCell']) infoIn (by simp [refC]) hk
theorem wpList_stR3 (hgd : op.guard = none) (hdst : op.dst = none) (x y : Operand) (ho : op.op = .store 3 x y) (g : Nat) (hx : act.eval x = .pointer (some ⟨g, 3, none⟩)) (q2 : Int) (hy : act.eval y = .int .i64 q2) (h : HasRf w g a s p q)
    (hk : ∀ w', HasRf w' g a s p q2 → Kept g w w' → wpList Tryz.prog ops Q rest act w') : wpList Tryz.prog ops Q (op :: rest) act w :=
  wpList_stX hgd hdst _ x y ho g 3 hx _ hy h [.int .i64 q2] rfl (by simp [refC]) (by simp [Value.oneCell']) infoIn (by simp [refC]) hk
end
theorem stp_go {f : List I} {s m2 : Mc} {az : List Int} {es : List Ev} {x : I} (hx : insA f s.p = x) (hk : knwB x s.l = true) (h : flw x s az = (m2, es, 0)) : stp f s az = ⟨m2, es, 0, 0, []⟩ := by
  unfold stp
  rw [hx, if_neg (by rw [hk]; decide), h, if_pos rfl]
theorem ixR_if {ops : Array Oper} {S : World → Prop} {op : Oper} {act : Act} (hw : Region.wanted op (yielded ops act.tmps) = true) (T : TypeId) (p i : Operand) (ho : op.op = .indexAddr T p i) (v iv r : Value) (hx : act.eval p = v) (hi : act.eval i = iv) (hr : ∀ w, (Instr.indexAt T v iv).run Tryz.prog w = .ok r w) :
    YieldsIf Tryz.prog ops S op r act := .inl ⟨hw, fun w _ => by
  unfold execOp
  simp only [ho, hx, hi, hr w, Sem.run_bind, Sem.run_pure, Result.andThen_ok]⟩
theorem wpLS_made {P : Program} {ops : Array Oper} {S : World → Prop} {Q : Exit → Act → World → Prop} {o : Oper} {rest : List Oper} {a : Act} {w w' : World} (hw : Region.wanted o (yielded ops a.tmps) = true) (v : Value) (hS : S w') (hr : (execOp a.eval o).run P w = .ok (.value v) w') (h : wpLS P ops Q S rest (a.put o.dst v) w') : wpLS P ops Q S (o :: rest) a w := by
  unfold wpLS
  rw [if_pos hw]
  unfold Oper.wp
  rw [hr]
  exact ⟨hS, h⟩
theorem ldC4_if {ops : Array Oper} {S : World → Prop} {op : Oper} {act : Act} (hw : Region.wanted op (yielded ops act.tmps) = true) (x : Operand) (ho : op.op = .load 40 x) (g : Nat) (hx : act.eval x = .pointer (some ⟨g, 0, none⟩)) {a s : Sl} {p q : Int} (h : ∀ w, S w → HasRf w g a s p q) :
    YieldsIf Tryz.prog ops S op (.agg (refC a s p q).toArray) act := yieldsIf_load_mid hw _ _ ho g 0 hx (refC a s p q) _ (fun w hS => (h w hS).all) Tryz.underlying40 rfl infoRf
theorem upd_swap (l : Ws) (d a : Nat) : updW (updW l d (l a)) a (l d) = updW (updW l a (l d)) d (l a) := by
  by_cases h : d = a
  · subst h; rfl
  · exact upd_comm h _ _
end Go.Proofs.YtdghhedenjgjiaaGreatDoor
