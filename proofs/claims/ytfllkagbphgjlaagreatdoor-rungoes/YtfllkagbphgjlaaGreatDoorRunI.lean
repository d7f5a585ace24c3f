/-
  The reference's On: so many steps more, for every function, state that is right, and trace.
-/
import Derived.Test.YtfllkagbphgjlaaGreatDoorRunH
import Derived.Test.YtfllkagbphgjlaaGreatDoorStepR
import Derived.Test.YtfllkagbphgjlaaGreatDoorRefMoves
namespace Go.Proofs.YtfllkagbphgjlaaGreatDoor
open Go.RowKit

/-- A row of words lies in none of these blocks. -/
def ApS (G : Nat → Prop) (a : Sl) : Prop := ∃ b off, a.ao = some ⟨b, off, none⟩ ∧ ¬ G b
/-- What On answers. -/
def Oa (w w' : World) (G0 : Nat → Prop) (e : Ending) (R : Tr × Mc) : Prop :=
  ∃ (ev so a s : Sl), e = .returned (.tuple #[.agg (trC ev R.1.how R.1.val so R.1.st R.1.wk).toArray, .agg (refC a s R.2.p R.2.q).toArray]) ∧ EvAt w' (svS ev) R.1.ev ∧ Hp w' (svS so) R.1.hp ∧ WsAt w' a R.2.l ∧ Hp w' (svS s) R.2.h ∧ New w w' ∧ Ap G0 (svS ev) R.1.ev ∧ Ap G0 (svS so) R.1.hp ∧ ApS G0 a ∧ Ap G0 (svS s) R.2.h
theorem Oa.of {w w' : World} {G0 : Nat → Prop} {R : Tr × Mc} {ev so a s : Sl} {es : List Ev} {how val st wk p q : Int} {oh zs : List Int} {l : Ws} (hR : (⟨es, how, val, oh, st, wk⟩, ⟨l, zs, p, q⟩) = R) (h1 : EvAt w' (svS ev) es) (h2 : Hp w' (svS so) oh) (h3 : WsAt w' a l) (h4 : Hp w' (svS s) zs) (h5 : New w w') (h6 : Ap G0 (svS ev) es) (h7 : Ap G0 (svS so) oh) (h8 : ApS G0 a) (h9 : Ap G0 (svS s) zs) :
    Oa w w' G0 (.returned (.tuple #[.agg (trC ev how val so st wk).toArray, .agg (refC a s p q).toArray])) R := by
  subst hR
  exact ⟨ev, so, a, s, rfl, h1, h2, h3, h4, h5, h6, h7, h8, h9⟩
theorem results_cc {fn : Func} {p v : Tmp} {ty ty' : TypeId} (h : fn.results = #[.cell p ty, .cell v ty']) (tmps : Array Value) (w : World) (g k : Nat) (x z : Value) (hp : tmps.getD p undef = .pointer (some ⟨g, 0, none⟩)) (hl : (loadVar ty ⟨g, 0, none⟩).run Tryz.prog w = .ok x w)
    (hv : tmps.getD v undef = .pointer (some ⟨k, 0, none⟩)) (hl' : (loadVar ty' ⟨k, 0, none⟩).run Tryz.prog w = .ok z w) : (results fn tmps).run Tryz.prog w = .ok (.tuple #[x, z]) w := by
  have hp' : tmps[p]?.getD undef = .pointer (some ⟨g, 0, none⟩) := by simpa using hp
  have hv' : tmps[v]?.getD undef = .pointer (some ⟨k, 0, none⟩) := by simpa using hv
  simp [results, h, hp', hv', asAddr, hl, hl']
theorem WsAt.base {w : World} {a : Sl} {l : Ws} (h : WsAt w a l) : ∃ b off, a.ao = some ⟨b, off, none⟩ ∧ b < w.heap.size := by
  obtain ⟨ao, cap, e, hh⟩ := h
  obtain ⟨b, off, e1, h1⟩ := hh 0 (by omega)
  simp only [Value.slice.injEq] at e
  exact ⟨b, off, e.1.trans e1, cell_block (h1 0 _ rfl)⟩
theorem WsAt.aps {w : World} {a : Sl} {l : Ws} {G : Nat → Prop} (h : WsAt w a l) (hs : ∀ k, G k → w.heap.size ≤ k) : ApS G a := by
  obtain ⟨b, off, e, hb⟩ := h.base
  exact ⟨b, off, e, fun x => by have := hs _ x; omega⟩
theorem FarS.aps {B : Nat} {a : Sl} {G : Nat → Prop} (h : FarS B a) (hs : ∀ k, G k → k < B) : ApS G a := by
  obtain ⟨b, off, e, hb⟩ := h
  exact ⟨b, off, e, fun x => by have := hs _ x; omega⟩
theorem WsAt.keep {w w' : World} {a : Sl} {l : Ws} {G : Nat → Prop} (h : WsAt w a l) (ha : ApS G a) (hk : ∀ k ob, ¬ G k → w.heap[k]? = some ob → w'.heap[k]? = some ob) : WsAt w' a l := by
  obtain ⟨ao, cap, e, hh⟩ := h
  refine ⟨ao, cap, e, fun i hi => ?_⟩
  obtain ⟨b, off, e1, h1⟩ := hh i hi
  refine ⟨b, off, e1, fun j u hu => cell_keep (h1 j u hu) (fun ob hb => hk b ob ?_ hb)⟩
  obtain ⟨b', o', e', hb'⟩ := ha
  simp only [Value.slice.injEq] at e
  rw [← e.1, e'] at e1
  simp only [Option.some.injEq, Addr.mk.injEq] at e1
  rw [← e1.1]
  exact hb'
theorem Ap.same {w w' : World} {s : Sl} {zs z2 : List Int} {G : Nat → Prop} (h1 : Hp w (svS s) zs) (h2 : Hp w' (svS s) z2) (a : Ap G (svS s) zs) : Ap G (svS s) z2 := by
  rcases a with rfl | h
  · left
    have e1 : s.n = 0 := Hp.len h1
    have e2 : s.n = z2.length := Hp.len h2
    exact List.length_eq_zero_iff.mp (by omega)
  · exact .inr h
theorem EvAt.ap {w : World} {v : Value} {es : List Ev} {H : Nat → Prop} (h : EvAt w v es) (hs : ∀ k, H k → w.heap.size ≤ k) : Ap H v es := by
  obtain ⟨ao, cap, e, _, hh⟩ := h
  cases es with
  | nil => exact .inl rfl
  | cons z zs =>
    obtain ⟨b, off, e1, h1⟩ := hh 0 (by simp)
    refine .inr ⟨b, off, _, cap, by rw [e, e1], fun x => ?_⟩
    have := hs _ x
    have := cell_block (h1 0 _ rfl)
    omega
theorem EvAt.ap2 {w : World} {v : Value} {es : List Ev} {G H : Nat → Prop} (h : EvAt w v es) (a : Ap G v es) (hs : ∀ k, H k → G k ∨ w.heap.size ≤ k) : Ap H v es := by
  rcases a with e0 | ⟨b, o, n, c, e, hb⟩
  · exact .inl e0
  · rcases h.ap (H := fun k => w.heap.size ≤ k) (fun k hk => hk) with e0 | ⟨b', o', n', c', e', hb'⟩
    · exact .inl e0
    · refine .inr ⟨b, o, n, c, e, fun x => ?_⟩
      rw [e] at e'
      simp only [Value.slice.injEq, Option.some.injEq, Addr.mk.injEq] at e'
      rcases hs _ x with g | g
      · exact hb g
      · exact hb' (e'.1.1 ▸ g)
theorem WsAt.aps2 {w : World} {a : Sl} {l : Ws} {G H : Nat → Prop} (h : WsAt w a l) (ha : ApS G a) (hs : ∀ k, H k → G k ∨ w.heap.size ≤ k) : ApS H a := by
  obtain ⟨b, o, e, hb⟩ := ha
  obtain ⟨b', o', e', hb'⟩ := h.base
  rw [e] at e'
  simp only [Option.some.injEq, Addr.mk.injEq] at e'
  refine ⟨b, o, e, fun x => ?_⟩
  rcases hs _ x with g | g
  · exact hb g
  · have := e'.1; omega
theorem ApS.mono {G H : Nat → Prop} {a : Sl} (h : ApS G a) (hs : ∀ k, H k → G k) : ApS H a := let ⟨b, o, e, hb⟩ := h; ⟨b, o, e, fun x => hb (hs _ x)⟩
/-- What On turns. -/
def Go4 (G0 : Nat → Prop) (g6 g7 g10 g11 : Nat) : Nat → Prop := fun k => G0 k ∨ k = g6 ∨ k = g7 ∨ k = g10 ∨ k = g11
structure Gq (n g6 g7 g10 g11 : Nat) : Prop where
  n6 : n ≤ g6
  l67 : g6 < g7
  l710 : g7 < g10
  l1011 : g10 < g11
/-- Its rows. -/
structure Rz (w : World) (G : Nat → Prop) (e : Sl) (es : List Ev) (a : Sl) (l : Ws) (s : Sl) (zs : List Int) (o : Sl) (oh : List Int) : Prop where
  ev : EvAt w (svS e) es
  ae : Ap G (svS e) es
  ws : WsAt w a l
  aa : ApS G a
  hp : Hp w (svS s) zs
  ap : Ap G (svS s) zs
  ho : Hp w (svS o) oh
  ao : Ap G (svS o) oh
section
variable {w wx : World} {G : Nat → Prop} {e a s o : Sl} {es : List Ev} {l : Ws} {zs oh : List Int}
theorem Rz.new (R : Rz w G e es a l s zs o oh) (n : New w wx) : Rz wx G e es a l s zs o oh := ⟨R.ev.new n, R.ae, R.ws.new n, R.aa, R.hp.new n, R.ap, R.ho.new n, R.ao⟩
theorem Rz.keep (R : Rz w G e es a l s zs o oh) (hk : ∀ k ob, ¬ G k → w.heap[k]? = some ob → wx.heap[k]? = some ob) : Rz wx G e es a l s zs o oh := ⟨R.ev.keep R.ae hk, R.ae, R.ws.keep R.aa hk, R.aa, R.hp.keep R.ap hk, R.ap, R.ho.keep R.ao hk, R.ao⟩
end
section
variable {G0 : Nat → Prop} {g6 g7 g10 g11 : Nat} {w w' : World}
theorem Go4.k6 (k : Kept g6 w w') : ∀ j ob, ¬ Go4 G0 g6 g7 g10 g11 j → w.heap[j]? = some ob → w'.heap[j]? = some ob := fun j _ hG h => (k.other j (fun x => hG (.inr (.inl x)))).trans h
theorem Go4.k7 (k : Kept g7 w w') : ∀ j ob, ¬ Go4 G0 g6 g7 g10 g11 j → w.heap[j]? = some ob → w'.heap[j]? = some ob := fun j _ hG h => (k.other j (fun x => hG (.inr (.inr (.inl x))))).trans h
theorem Go4.k10 (k : Kept g10 w w') : ∀ j ob, ¬ Go4 G0 g6 g7 g10 g11 j → w.heap[j]? = some ob → w'.heap[j]? = some ob := fun j _ hG h => (k.other j (fun x => hG (.inr (.inr (.inr (.inl x)))))).trans h
theorem Go4.k11 (k : Kept g11 w w') : ∀ j ob, ¬ Go4 G0 g6 g7 g10 g11 j → w.heap[j]? = some ob → w'.heap[j]? = some ob := fun j _ hG h => (k.other j (fun x => hG (.inr (.inr (.inr (.inr x)))))).trans h
theorem Go4.ge {n : Nat} (G : Gq n g6 g7 g10 g11) : ∀ k, Go4 G0 g6 g7 g10 g11 k → G0 k ∨ n ≤ k := by
  have h1 := G.n6; have h2 := G.l67; have h3 := G.l710; have h4 := G.l1011
  intro k hk
  unfold Go4 at hk
  rcases hk with h | h | h | h | h
  · exact .inl h
  all_goals exact .inr (by omega)
theorem Go4.lt {n m : Nat} (h0 : ∀ k, G0 k → k < n) (G : Gq n g6 g7 g10 g11) (h : g11 < m) : ∀ k, Go4 G0 g6 g7 g10 g11 k → k < m := by
  have h1 := G.n6; have h2 := G.l67; have h3 := G.l710; have h4 := G.l1011
  intro k hk
  unfold Go4 at hk
  rcases hk with h | h | h | h | h
  · have := h0 k h; omega
  all_goals omega
end
/-- Its variables. -/
structure Fo (w wx : World) (g6 g7 g10 g11 : Nat) (a s : Sl) (p q : Int) (e : Sl) (ho va : Int) (o : Sl) (st wk : Int) : Prop where
  s : HasRf wx g6 a s p q
  t : HasTr wx g7 e ho va o st wk
  rt : HasTr wx g10 nilS 0 0 nilS 0 0
  rz : HasRf wx g11 nilS nilS 0 0
  new : New w wx
section
variable {w wx wy : World} {g6 g7 g10 g11 : Nat} {a s a2 s2 e e2 o o2 : Sl} {p q p2 q2 ho va st wk ho2 va2 st2 wk2 : Int}
theorem Fo.grow (F : Fo w wx g6 g7 g10 g11 a s p q e ho va o st wk) (k : New wx wy) : Fo w wy g6 g7 g10 g11 a s p q e ho va o st wk := ⟨HasC.new F.s k, HasC.new F.t k, HasC.new F.rt k, HasC.new F.rz k, F.new.trans k⟩
theorem Fo.turn6 (F : Fo w wx g6 g7 g10 g11 a s p q e ho va o st wk) (G : Gq w.heap.size g6 g7 g10 g11) (H : HasRf wy g6 a2 s2 p2 q2) (k : Kept g6 wx wy) : Fo w wy g6 g7 g10 g11 a2 s2 p2 q2 e ho va o st wk := by
  have h1 := G.n6; have h2 := G.l67; have h3 := G.l710; have h4 := G.l1011
  exact ⟨H, HasC.kept F.t k (by omega), HasC.kept F.rt k (by omega), HasC.kept F.rz k (by omega), k.below _ (by omega) F.new⟩
theorem Fo.turn7 (F : Fo w wx g6 g7 g10 g11 a s p q e ho va o st wk) (G : Gq w.heap.size g6 g7 g10 g11) (H : HasTr wy g7 e2 ho2 va2 o2 st2 wk2) (k : Kept g7 wx wy) : Fo w wy g6 g7 g10 g11 a s p q e2 ho2 va2 o2 st2 wk2 := by
  have h1 := G.n6; have h2 := G.l67; have h3 := G.l710; have h4 := G.l1011
  exact ⟨HasC.kept F.s k (by omega), H, HasC.kept F.rt k (by omega), HasC.kept F.rz k (by omega), k.below _ (by omega) F.new⟩
end
theorem evs_empty (w : World) : Evs (w.alloc (.cells #[] 68)) w.heap.size (.slice (some ⟨w.heap.size, 0, none⟩) 0 0) [] :=
  ⟨rfl, .inr ⟨w.heap.size, 0, #[], rfl, Nat.le_refl _, heap_alloc_new _ _, Nat.le_refl _, by simp, by simp, by simp⟩⟩
theorem Evs.news {w0 w w' : World} {B : Nat} {v : Value} {es : List Ev} (h : Evs w B v es) (hg : w.grownBy w' v.ownBlock) (hN : New w0 w) (hB : w0.heap.size ≤ B) : New w0 w' := Below.grown hN hg hN.size (fun k hk => Nat.le_trans hB (h.lt k hk).1)
/-- A loop's round. -/
structure Lo (w wr : World) (G0 : Nat → Prop) (g6 g7 g10 g11 : Nat) (f : List I) (az : List Int) (R : Tr × Mc) (k : Nat) (e o a s : Sl) (l : Ws) (zs : List Int) (p q : Int) (es : List Ev) (how val : Int) (oh : List Int) (st wk : Int) : Prop where
  fr : Fo w wr g6 g7 g10 g11 a s p q e how val o st wk
  rw : Rz wr (Go4 G0 g6 g7 g10 g11) e es a l s zs o oh
  mc : mcB f ⟨l, zs, p, q⟩ = true
  on : onR f az k ⟨l, zs, p, q⟩ ⟨es, how, val, oh, st, wk⟩ = R
  s0 : 0 ≤ st
  s1 : st + k ≤ 20000
  w0 : 0 ≤ wk
  w1 : wk + k ≤ 20000
  el : es.length + k ≤ 20000
theorem on_next {f : List I} {az : List Int} {k : Nat} {m : Mc} {es : List Ev} {val st wk : Int} {oh : List Int} {R : Tr × Mc} (h : onR f az (k + 1) m ⟨es, 0, val, oh, st, wk⟩ = R) {r : Tl} (hr : stp f m az = r) {x : I} (hx : insA f m.p = x) {wk2 : Int} (hw : wk + wk1 x = wk2) :
    onR f az k r.s ⟨es ++ r.ev, r.how, r.val, r.hp, st + 1, wk2⟩ = R := by
  rw [onR_step rfl, hr] at h
  subst hw hx
  exact h
end Go.Proofs.YtfllkagbphgjlaaGreatDoor
