/-
  What the walk of run.Run uses.
-/
import Derived.Test.YtlmnodbhfpgplaaGreatDoorRunParts
import Derived.Test.YtlmnodbhfpgplaaGreatDoorStepL
namespace Go.Proofs.YtlmnodbhfpgplaaGreatDoor
open Go.RowKit

def svS (s : Sl) : Value := .slice s.ao s.n s.c
/-- What Run answers of what is right. -/
def Rd (w w' : World) (e : Ending) (R : Tr × Mc) : Prop :=
  ∃ (ev so s' : Sl), e = .returned (.tuple #[.agg (trC ev R.1.how R.1.val so R.1.st R.1.wk).toArray, .agg (cellsS R.2.l s' R.2.p R.2.q).toArray, .int .i64 0]) ∧ EvAt w' (svS ev) R.1.ev ∧ Hp w' (svS so) R.1.hp ∧ Hp w' (svS s') R.2.h ∧ New w w' ∧ Fresh w.heap.size (svS ev) R.1.ev ∧ Fresh w.heap.size (svS so) R.1.hp ∧ Fresh w.heap.size (svS s') R.2.h ∧ ev.n ≤ ev.c
theorem Rd.of {w w' : World} {R : Tr × Mc} {ev so s' : Sl} {es : List Ev} {how val st wk p q : Int} {oh zs : List Int} {l : Ws} (hR : (⟨es, how, val, oh, st, wk⟩, ⟨l, zs, p, q⟩) = R) (h1 : EvAt w' (svS ev) es) (h2 : Hp w' (svS so) oh) (h3 : Hp w' (svS s') zs) (h4 : New w w') (h5 : Fresh w.heap.size (svS ev) es) (h6 : Fresh w.heap.size (svS so) oh) (h7 : Fresh w.heap.size (svS s') zs) (h8 : ev.n ≤ ev.c) :
    Rd w w' (.returned (.tuple #[.agg (trC ev how val so st wk).toArray, .agg (cellsS l s' p q).toArray, .int .i64 0])) R := by
  subst hR
  exact ⟨ev, so, s', rfl, h1, h2, h3, h4, h5, h6, h7, h8⟩
theorem Evs.cap {w : World} {B : Nat} {e : Sl} {es : List Ev} (h : Evs w B (svS e) es) : e.n ≤ e.c := by
  rcases h.2 with ⟨hv, _⟩ | ⟨k, cap, cur, hv, _, _, hc, _⟩
  · simp only [svS, Value.slice.injEq] at hv
    omega
  · simp only [svS, Value.slice.injEq] at hv
    omega
theorem results_cct {fn : Func} {p v u : Tmp} {ty ty' : TypeId} (h : fn.results = #[.cell p ty, .cell v ty', .tmp u]) (tmps : Array Value) (w : World) (g k : Nat) (x z y : Value) (hp : tmps.getD p undef = .pointer (some ⟨g, 0, none⟩)) (hl : (loadVar ty ⟨g, 0, none⟩).run Tryz.prog w = .ok x w)
    (hv : tmps.getD v undef = .pointer (some ⟨k, 0, none⟩)) (hl' : (loadVar ty' ⟨k, 0, none⟩).run Tryz.prog w = .ok z w) (hu : tmps.getD u undef = y) : (results fn tmps).run Tryz.prog w = .ok (.tuple #[x, z, y]) w := by
  have hp' : tmps[p]?.getD undef = .pointer (some ⟨g, 0, none⟩) := by simpa using hp
  have hu' : tmps[u]?.getD undef = y := by simpa using hu
  have hv' : tmps[v]?.getD undef = .pointer (some ⟨k, 0, none⟩) := by simpa using hv
  simp [results, h, hp', hu', hv', asAddr, hl, hl']
/-- Where Run's variables lie. -/
structure Gx (n g3 g4 g5 g7 g8 : Nat) : Prop where
  n3 : n ≤ g3
  l34 : g3 < g4
  l45 : g4 < g5
  l57 : g5 < g7
  l78 : g7 < g8
/-- What it may turn. -/
def Gs (n g4 g5 g7 g8 : Nat) (e : Sl) : Nat → Prop := fun k => k < n ∨ k = g4 ∨ k = g5 ∨ k = g7 ∨ k = g8 ∨ (svS e).ownBlock = some k
/-- Its variables ahead of a step. -/
structure Fl (w wx : World) (B g3 g4 g5 g7 g8 : Nat) (rs : Nat → Int) (h a : Sl) (n : Int) (e : Sl) (ho va : Int) (o : Sl) (st wk : Int) (l : Ws) (s : Sl) (p q : Int) : Prop where
  cs : HasK wx g3 rs h a n
  rt : HasTr wx g4 nilS 0 0 nilS 0 0
  rz : HasS wx g5 noWs nilS 0 0
  t : HasTr wx g7 e ho va o st wk
  s : HasS wx g8 l s p q
  new : New w wx
  sz : B ≤ wx.heap.size
theorem HasC.grown {w w' : World} {g B : Nat} {ty : TypeId} {cs : List Value} {v : Value} {es : List Ev} (h : HasC w g ty cs) (hE : Evs w B v es) (hty : ty ≠ 133) (hgr : w.grownBy w' v.ownBlock) : HasC w' g ty cs := by
  refine (hgr.block g h.lt ?_).trans h
  intro e
  rcases hE.2 with ⟨hv, _⟩ | ⟨k, cap, cur, hv, _, hg, _⟩
  · rw [hv] at e; cases e
  · rw [hv] at e
    simp only [Value.ownBlock, Option.some.injEq] at e
    subst e
    have h' : w.heap[g]? = some (.cells cs.toArray ty (0, 0)) := h
    rw [h'] at hg
    simp only [Option.some.injEq, Obj.cells.injEq] at hg
    exact hty hg.2.1
section
variable {w wx wy : World} {B g3 g4 g5 g7 g8 : Nat} {rs : Nat → Int} {h a e o s e2 o2 s2 : Sl} {n ho va st wk ho2 va2 st2 wk2 p q p2 q2 : Int} {l l2 : Ws} {es : List Ev}
theorem Fl.grow (F : Fl w wx B g3 g4 g5 g7 g8 rs h a n e ho va o st wk l s p q) (k : New wx wy) : Fl w wy B g3 g4 g5 g7 g8 rs h a n e ho va o st wk l s p q :=
  ⟨HasC.new F.cs k, HasC.new F.rt k, HasC.new F.rz k, HasC.new F.t k, HasC.new F.s k, F.new.trans k, Nat.le_trans F.sz k.size⟩
theorem Fl.turn7 (F : Fl w wx B g3 g4 g5 g7 g8 rs h a n e ho va o st wk l s p q) (G : Gx w.heap.size g3 g4 g5 g7 g8) (H : HasTr wy g7 e2 ho2 va2 o2 st2 wk2) (k : Kept g7 wx wy) : Fl w wy B g3 g4 g5 g7 g8 rs h a n e2 ho2 va2 o2 st2 wk2 l s p q := by
  have h1 := G.n3; have h2 := G.l34; have h3 := G.l45; have h4 := G.l57; have h5 := G.l78
  exact ⟨HasC.kept F.cs k (by omega), HasC.kept F.rt k (by omega), HasC.kept F.rz k (by omega), H, HasC.kept F.s k (by omega), k.below _ (by omega) F.new, k.size ▸ F.sz⟩
theorem Fl.turn8 (F : Fl w wx B g3 g4 g5 g7 g8 rs h a n e ho va o st wk l s p q) (G : Gx w.heap.size g3 g4 g5 g7 g8) (H : HasS wy g8 l2 s2 p2 q2) (k : Kept g8 wx wy) : Fl w wy B g3 g4 g5 g7 g8 rs h a n e ho va o st wk l2 s2 p2 q2 := by
  have h1 := G.n3; have h2 := G.l34; have h3 := G.l45; have h4 := G.l57; have h5 := G.l78
  exact ⟨HasC.kept F.cs k (by omega), HasC.kept F.rt k (by omega), HasC.kept F.rz k (by omega), HasC.kept F.t k (by omega), H, k.below _ (by omega) F.new, k.size ▸ F.sz⟩
theorem Fl.grown (F : Fl w wx B g3 g4 g5 g7 g8 rs h a n e ho va o st wk l s p q) {v : Value} (hE : Evs wx B v es) (hgr : wx.grownBy wy v.ownBlock) (hB : w.heap.size ≤ B) : Fl w wy B g3 g4 g5 g7 g8 rs h a n e ho va o st wk l s p q :=
  ⟨HasC.grown F.cs hE (by decide) hgr, HasC.grown F.rt hE (by decide) hgr, HasC.grown F.rz hE (by decide) hgr, HasC.grown F.t hE (by decide) hgr, HasC.grown F.s hE (by decide) hgr, Below.grown F.new hgr F.new.size (fun k hk => Nat.le_trans hB (hE.lt k hk).1), Nat.le_trans F.sz hgr.size⟩
end
/-- Two rows, and an outcome's. -/
structure Rw (w : World) (G : Nat → Prop) (s s2 so : Sl) (zs z2 oh : List Int) : Prop where
  h1 : Hp w (svS s) zs
  a1 : Ap G (svS s) zs
  h2 : Hp w (svS s2) z2
  a2 : Ap G (svS s2) z2
  h3 : Hp w (svS so) oh
  a3 : Ap G (svS so) oh
section
variable {w wx : World} {G H : Nat → Prop} {s s2 so : Sl} {zs z2 oh : List Int}
theorem Rw.new (R : Rw w G s s2 so zs z2 oh) (n : New w wx) : Rw wx G s s2 so zs z2 oh := ⟨R.h1.new n, R.a1, R.h2.new n, R.a2, R.h3.new n, R.a3⟩
theorem Rw.keep (R : Rw w G s s2 so zs z2 oh) (hk : ∀ k ob, ¬ G k → w.heap[k]? = some ob → wx.heap[k]? = some ob) : Rw wx G s s2 so zs z2 oh := ⟨R.h1.keep R.a1 hk, R.a1, R.h2.keep R.a2 hk, R.a2, R.h3.keep R.a3 hk, R.a3⟩
theorem Rw.own (R : Rw w G s s2 so zs z2 oh) (hs : ∀ k, H k → G k ∨ w.heap.size ≤ k) : Rw w H s s2 so zs z2 oh := ⟨R.h1, R.h1.ap2 R.a1 hs, R.h2, R.h2.ap2 R.a2 hs, R.h3, R.h3.ap2 R.a3 hs⟩
end
theorem Gs.own {n g4 g5 g7 g8 m : Nat} {e e2 : Sl} (h : (svS e2).ownBlock = (svS e).ownBlock ∨ (svS e2).ownBlock = some m) : ∀ k, Gs n g4 g5 g7 g8 e2 k → Gs n g4 g5 g7 g8 e k ∨ m ≤ k := by
  intro k hk
  unfold Gs at hk ⊢
  rcases hk with h1 | h1 | h1 | h1 | h1 | h1
  · exact .inl (.inl h1)
  · exact .inl (.inr (.inl h1))
  · exact .inl (.inr (.inr (.inl h1)))
  · exact .inl (.inr (.inr (.inr (.inl h1))))
  · exact .inl (.inr (.inr (.inr (.inr (.inl h1)))))
  · rcases h with h | h
    · exact .inl (.inr (.inr (.inr (.inr (.inr (h ▸ h1))))))
    · rw [h] at h1
      simp only [Option.some.injEq] at h1
      exact .inr (by omega)
theorem Gs.lt {w wx : World} {B g3 g4 g5 g7 g8 : Nat} {e : Sl} {es : List Ev} (G : Gx w.heap.size g3 g4 g5 g7 g8) (h8 : g8 < wx.heap.size) (hE : Evs wx B (svS e) es) : ∀ k, Gs w.heap.size g4 g5 g7 g8 e k → k < wx.heap.size := by
  have h1 := G.n3; have h2 := G.l34; have h3 := G.l45; have h4 := G.l57; have h5 := G.l78
  intro k hk
  unfold Gs at hk
  rcases hk with h | h | h | h | h | h
  · omega
  · omega
  · omega
  · omega
  · omega
  · exact (hE.lt k h).2
theorem Gs.k4 {n g4 g5 g7 g8 : Nat} {e : Sl} {w w' : World} (k : Kept g4 w w') : ∀ j ob, ¬ Gs n g4 g5 g7 g8 e j → w.heap[j]? = some ob → w'.heap[j]? = some ob := fun j _ hG h => (k.other j (fun x => hG (.inr (.inl x)))).trans h
theorem Gs.k5 {n g4 g5 g7 g8 : Nat} {e : Sl} {w w' : World} (k : Kept g5 w w') : ∀ j ob, ¬ Gs n g4 g5 g7 g8 e j → w.heap[j]? = some ob → w'.heap[j]? = some ob := fun j _ hG h => (k.other j (fun x => hG (.inr (.inr (.inl x))))).trans h
theorem Gs.k7 {n g4 g5 g7 g8 : Nat} {e : Sl} {w w' : World} (k : Kept g7 w w') : ∀ j ob, ¬ Gs n g4 g5 g7 g8 e j → w.heap[j]? = some ob → w'.heap[j]? = some ob := fun j _ hG h => (k.other j (fun x => hG (.inr (.inr (.inr (.inl x)))))).trans h
theorem Gs.k8 {n g4 g5 g7 g8 : Nat} {e : Sl} {w w' : World} (k : Kept g8 w w') : ∀ j ob, ¬ Gs n g4 g5 g7 g8 e j → w.heap[j]? = some ob → w'.heap[j]? = some ob := fun j _ hG h => (k.other j (fun x => hG (.inr (.inr (.inr (.inr (.inl x))))))).trans h
theorem Gs.kg {n g4 g5 g7 g8 : Nat} {e : Sl} {w w' : World} (k : w.grownBy w' (svS e).ownBlock) : ∀ j ob, ¬ Gs n g4 g5 g7 g8 e j → w.heap[j]? = some ob → w'.heap[j]? = some ob := fun j _ hG h => (k.block j (heap_lt h) (fun x => hG (.inr (.inr (.inr (.inr (.inr x.symm))))))).trans h
theorem Ap.fresh {n g4 g5 g7 g8 : Nat} {e : Sl} {v : Value} {zs : List Int} (h : Ap (Gs n g4 g5 g7 g8 e) v zs) : Fresh n v zs := h.imp id fun ⟨b, o, m, c, e, hb⟩ => ⟨b, o, m, c, e, Nat.le_of_not_lt (fun x => hb (.inl x))⟩
theorem Hp.none {w w' : World} {v : Value} (h : Hp w v []) : Hp w' v [] := by
  obtain ⟨ao, cap, e, _⟩ := h
  exact ⟨ao, cap, e, fun i hi => absurd hi (Nat.not_lt_zero _)⟩
section
variable {ops : Array Oper} {S : World → Prop} {op : Oper} {act : Act}
theorem ldTr_if (hw : Region.wanted op (yielded ops act.tmps) = true) (x : Operand) (ho : op.op = .load 33 x) (g : Nat) (hx : act.eval x = .pointer (some ⟨g, 0, none⟩)) {e : Sl} {how val : Int} {o : Sl} {st wk : Int} (h : ∀ w, S w → HasTr w g e how val o st wk) :
    YieldsIf Tryz.prog ops S op (.agg (trC e how val o st wk).toArray) act := yieldsIf_load_mid hw _ _ ho g 0 hx (trC e how val o st wk) _ (fun w hS => (h w hS).all) Tryz.underlying33 rfl infoTr
theorem ldI_if (hw : Region.wanted op (yielded ops act.tmps) = true) (x : Operand) (ho : op.op = .load 79 x) (g : Nat) (hx : act.eval x = .pointer (some ⟨g, 0, none⟩)) {y : I} (h : ∀ w, S w → Has w g y) :
    YieldsIf Tryz.prog ops S op (.agg #[.int .i64 (y).op, .int .i64 (y).d, .int .i64 (y).a, .int .i64 (y).b, .int .i64 (y).n, .int .i64 (y).t]) act := yieldsIf_load_mid hw _ _ ho g 0 hx (cells6 y) _ (fun w hS => HasC.all (show HasC w g 79 (cells6 y) from h w hS)) Tryz.underlying79 rfl infoI
end
/-- A loop's round. -/
structure Lp (w wr : World) (B g3 g4 g5 g7 g8 : Nat) (rs : Nat → Int) (h a : Sl) (n : Nat) (f : List I) (az : List Int) (R : Tr × Mc) (k : Nat) (e o s : Sl) (l : Ws) (zs : List Int) (p q wk : Int) (es : List Ev) : Prop where
  fr : Fl w wr B g3 g4 g5 g7 g8 rs h a n e 0 0 o k wk l s p q
  ev : Evs wr B (svS e) es
  hs : Hp wr (svS s) zs
  ap : Ap (Gs w.heap.size g4 g5 g7 g8 e) (svS s) zs
  ho : Hp wr (svS o) []
  mc : mcB f ⟨l, zs, p, q⟩ = true
  on : onR f az (n - k) ⟨l, zs, p, q⟩ ⟨es, 0, 0, [], k, wk⟩ = R
  w0 : 0 ≤ wk
  w1 : wk ≤ k
  el : es.length ≤ k
theorem run_next {f : List I} {az : List Int} {n k : Nat} {m : Mc} {es : List Ev} {wk : Int} {R : Tr × Mc} (hk : k < n) (h : onR f az (n - k) m ⟨es, 0, 0, [], k, wk⟩ = R) {r : Tl} (hr : stp f m az = r) {x : I} (hx : insA f m.p = x) {wk2 : Int} (hw : wk + wk1 x = wk2) :
    onR f az (n - (k + 1)) r.s ⟨es ++ r.ev, r.how, r.val, r.hp, (k : Int) + 1, wk2⟩ = R := by
  rw [show n - k = n - (k + 1) + 1 by omega, onR_step rfl, hr] at h
  subst hw hx
  exact h
theorem ap_begin {w wx wz : World} {g3 g4 g5 g7 g8 : Nat} {s0 : Sl} {zs : List Int} (G : Gx w.heap.size g3 g4 g5 g7 g8) (hf : Fresh wz.heap.size (svS s0) zs) (b7 : g7 < wz.heap.size) (hs : Hp wx (svS s0) zs) (hg8 : wx.heap.size ≤ g8) (_hw : w.heap.size ≤ wz.heap.size) : Ap (Gs w.heap.size g4 g5 g7 g8 nilS) (svS s0) zs := by
  have h1 := G.n3; have h2 := G.l34; have h3 := G.l45; have h4 := G.l57; have h5 := G.l78
  have a1 : Ap (fun k => k < w.heap.size ∨ k = g4 ∨ k = g5 ∨ k = g7) (svS s0) zs := hf.ap (by intro k hk; omega)
  refine hs.ap2 a1 ?_
  intro k hk
  unfold Gs at hk
  rcases hk with h | h | h | h | h | h
  · exact .inl (.inl h)
  · exact .inl (.inr (.inl h))
  · exact .inl (.inr (.inr (.inl h)))
  · exact .inl (.inr (.inr (.inr h)))
  · exact .inr (by omega)
  · cases h
theorem Rw.grown {w wx : World} {n g4 g5 g7 g8 : Nat} {e e2 s s2 so : Sl} {zs z2 oh : List Int} (R : Rw w (Gs n g4 g5 g7 g8 e) s s2 so zs z2 oh) (hgr : w.grownBy wx (svS e).ownBlock) (hw : (svS e2).ownBlock = (svS e).ownBlock ∨ (svS e2).ownBlock = some w.heap.size) : Rw wx (Gs n g4 g5 g7 g8 e2) s s2 so zs z2 oh := by
  have R' := R.own (Gs.own hw)
  have K := R.keep (Gs.kg hgr)
  exact ⟨K.h1, R'.a1, K.h2, R'.a2, K.h3, R'.a3⟩
theorem stp_go0 {f : List I} {s : Mc} {az : List Int} (h : (stp f s az).how = 0) : (stp f s az).val = 0 ∧ (stp f s az).hp = [] := by
  unfold stp at h ⊢
  split at h
  · cases h
  · rename_i hk
    rw [if_neg hk]
    split at h
    · rename_i e
      rw [if_pos e]
      exact ⟨rfl, rfl⟩
    · rename_i e
      split at h
      · cases h
      · exact absurd h e
theorem run_stands {f : List I} {az : List Int} {n k : Nat} {m : Mc} {es : List Ev} {R : Tr × Mc} {r : Tl} {x : I} {wk2 st3 wk3 : Int} (hk : k < n) (h : onR f az (n - (k + 1)) r.s ⟨es ++ r.ev, r.how, r.val, r.hp, (k : Int) + 1, wk2⟩ = R) (hr : stp f m az = r) (hx : insA f m.p = x) (h0 : r.how = 0) (hs : r.s = m)
    (h1 : (k : Int) + 1 + ((n : Int) - ((k : Int) + 1)) = st3) (h2 : wk2 + ((n : Int) - ((k : Int) + 1)) * wk1 x = wk3) : (⟨es ++ r.ev, r.how, r.val, r.hp, st3, wk3⟩, r.s) = R := by
  subst hr hx h1 h2
  obtain ⟨g1, g2⟩ := stp_go0 h0
  rw [← h, hs, onR_still hs h0 _ _ h0 g1 g2, h0, g1, g2]
  have : ((n - (k + 1) : Nat) : Int) = (n : Int) - ((k : Int) + 1) := by omega
  rw [this]
theorem list_eqB {xs ys : List Int} (h : eqB xs ys = true) : xs = ys := by
  unfold eqB at h
  simpa using h
end Go.Proofs.YtlmnodbhfpgplaaGreatDoor
