/-
  The reference's On: so many steps more, for every function, state that is right, and trace.
  The walk of the reference's On.
-/
import Derived.Test.YtlmnodbhfpgplaaGreatDoorRunH
import Derived.Test.YtlmnodbhfpgplaaGreatDoorStepR
import Derived.Test.YtlmnodbhfpgplaaGreatDoorRefMoves
namespace Go.Proofs.YtlmnodbhfpgplaaGreatDoor
open Go.RowKit

/-- A row of words lies in none of these blocks. -/
def ApS (G : Nat → Prop) (a : Sl) : Prop := ∃ b off, a.ao = some ⟨b, off, none⟩ ∧ ¬ G b
/-- What On answers. -/
def Oa (w w' : World) (G0 : Nat → Prop) (e : Ending) (R : Tr × Mc) : Prop :=
  ∃ (ev so a s : Sl), e = .returned (.tuple #[.agg (trC ev R.1.how R.1.val so R.1.st R.1.wk).toArray, .agg (refC a s R.2.p R.2.q).toArray]) ∧ EvAt w' (svS ev) R.1.ev ∧ Hp w' (svS so) R.1.hp ∧ WsAt w' a R.2.l ∧ Hp w' (svS s) R.2.h ∧ New w w' ∧ Ap G0 (svS ev) R.1.ev ∧ Ap G0 (svS so) R.1.hp ∧ ApS G0 a ∧ Ap G0 (svS s) R.2.h
theorem Oa.of {w w' : World} {G0 : Nat → Prop} {R : Tr × Mc} {ev so a s : Sl} {es : List Ev} {how val st wk p q : Int} {oh zs : List Int} {l : Ws} (hR : (⟨es, how, val, oh, st, wk⟩, ⟨l, zs, p, q⟩) = R) (h1 : EvAt w' (svS ev) es) (h2 : Hp w' (svS so) oh) (h3 : WsAt w' a l) (h4 : Hp w' (svS s) zs) (h5 : New w w') (h6 : Ap G0 (svS ev) es) (h7 : Ap G0 (svS so) oh) (h8 : ApS G0 a) (h9 : Ap G0 (svS s) zs) :
    Oa w w' G0 (.returned (.tuple #[.agg (trC ev how val so st wk).toArray, .agg (refC a s p q).toArray])) R := by
  subst hR
  exact ⟨ev, so, a, s, rfl, h1, h2, h3, h4, h5, h6, h7, h8, h9⟩
theorem results_cc {fn : Func} {p v : Tmp} {ty ty' : TypeId} (h : fn.results = #[.cell p ty, .cell v ty']) (tmps : Array Value) (w : World) (g k : Nat) (x z : Value) (hp : tmps.getD p undef = .pointer (some ⟨g, 0, none⟩)) (hl : (loadVar ty ⟨g, 0, none⟩).run Tryz.prog w = .ok x w)
    (hv : tmps.getD v undef = .pointer (some ⟨k, 0, none⟩)) (hl' : (loadVar ty' ⟨k, 0, none⟩).run Tryz.prog w = .ok z w) : (results fn tmps).run Tryz.prog w = .ok (.tuple #[x, z]) w := by
  have hp' : tmps[p]?.getD undef = .pointer (some ⟨g, 0, none⟩) := by simpa using hp
  have hv' : tmps[v]?.getD undef = .pointer (some ⟨k, 0, none⟩) := by simpa using hv
  simp [results, h, hp', hv', asAddr, hl, hl']
theorem WsAt.base {w : World} {a : Sl} {l : Ws} (h : WsAt w a l) : ∃ b off, a.ao = some ⟨b, off, none⟩ ∧ b < w.heap.size := by
  obtain ⟨ao, cap, e, hh⟩ := h
  obtain ⟨b, off, e1, h1⟩ := hh 0 (by omega)
  simp only [Value.slice.injEq] at e
  exact ⟨b, off, e.1.trans e1, cell_block (h1 0 _ rfl)⟩
theorem WsAt.aps {w : World} {a : Sl} {l : Ws} {G : Nat → Prop} (h : WsAt w a l) (hs : ∀ k, G k → w.heap.size ≤ k) : ApS G a := by
  obtain ⟨b, off, e, hb⟩ := h.base
  exact ⟨b, off, e, fun x => by have := hs _ x; omega⟩
theorem FarS.aps {B : Nat} {a : Sl} {G : Nat → Prop} (h : FarS B a) (hs : ∀ k, G k → k < B) : ApS G a := by
  obtain ⟨b, off, e, hb⟩ := h
  exact ⟨b, off, e, fun x => by have := hs _ x; omega⟩
theorem WsAt.keep {w w' : World} {a : Sl} {l : Ws} {G : Nat → Prop} (h : WsAt w a l) (ha : ApS G a) (hk : ∀ k ob, ¬ G k → w.heap[k]? = some ob → w'.heap[k]? = some ob) : WsAt w' a l := by
  obtain ⟨ao, cap, e, hh⟩ := h
  refine ⟨ao, cap, e, fun i hi => ?_⟩
  obtain ⟨b, off, e1, h1⟩ := hh i hi
  refine ⟨b, off, e1, fun j u hu => cell_keep (h1 j u hu) (fun ob hb => hk b ob ?_ hb)⟩
  obtain ⟨b', o', e', hb'⟩ := ha
  simp only [Value.slice.injEq] at e
  rw [← e.1, e'] at e1
  simp only [Option.some.injEq, Addr.mk.injEq] at e1
  rw [← e1.1]
  exact hb'
theorem Ap.same {w w' : World} {s : Sl} {zs z2 : List Int} {G : Nat → Prop} (h1 : Hp w (svS s) zs) (h2 : Hp w' (svS s) z2) (a : Ap G (svS s) zs) : Ap G (svS s) z2 := by
  rcases a with rfl | h
  · left
    have e1 : s.n = 0 := Hp.len h1
    have e2 : s.n = z2.length := Hp.len h2
    exact List.length_eq_zero_iff.mp (by omega)
  · exact .inr h
theorem EvAt.ap {w : World} {v : Value} {es : List Ev} {H : Nat → Prop} (h : EvAt w v es) (hs : ∀ k, H k → w.heap.size ≤ k) : Ap H v es := by
  obtain ⟨ao, cap, e, _, hh⟩ := h
  cases es with
  | nil => exact .inl rfl
  | cons z zs =>
    obtain ⟨b, off, e1, h1⟩ := hh 0 (by simp)
    refine .inr ⟨b, off, _, cap, by rw [e, e1], fun x => ?_⟩
    have := hs _ x
    have := cell_block (h1 0 _ rfl)
    omega
theorem EvAt.ap2 {w : World} {v : Value} {es : List Ev} {G H : Nat → Prop} (h : EvAt w v es) (a : Ap G v es) (hs : ∀ k, H k → G k ∨ w.heap.size ≤ k) : Ap H v es := by
  rcases a with e0 | ⟨b, o, n, c, e, hb⟩
  · exact .inl e0
  · rcases h.ap (H := fun k => w.heap.size ≤ k) (fun k hk => hk) with e0 | ⟨b', o', n', c', e', hb'⟩
    · exact .inl e0
    · refine .inr ⟨b, o, n, c, e, fun x => ?_⟩
      rw [e] at e'
      simp only [Value.slice.injEq, Option.some.injEq, Addr.mk.injEq] at e'
      rcases hs _ x with g | g
      · exact hb g
      · exact hb' (e'.1.1 ▸ g)
theorem WsAt.aps2 {w : World} {a : Sl} {l : Ws} {G H : Nat → Prop} (h : WsAt w a l) (ha : ApS G a) (hs : ∀ k, H k → G k ∨ w.heap.size ≤ k) : ApS H a := by
  obtain ⟨b, o, e, hb⟩ := ha
  obtain ⟨b', o', e', hb'⟩ := h.base
  rw [e] at e'
  simp only [Option.some.injEq, Addr.mk.injEq] at e'
  refine ⟨b, o, e, fun x => ?_⟩
  rcases hs _ x with g | g
  · exact hb g
  · have := e'.1; omega
theorem ApS.mono {G H : Nat → Prop} {a : Sl} (h : ApS G a) (hs : ∀ k, H k → G k) : ApS H a := let ⟨b, o, e, hb⟩ := h; ⟨b, o, e, fun x => hb (hs _ x)⟩
/-- What On turns. -/
def Go4 (G0 : Nat → Prop) (g6 g7 g10 g11 : Nat) : Nat → Prop := fun k => G0 k ∨ k = g6 ∨ k = g7 ∨ k = g10 ∨ k = g11
structure Gq (n g6 g7 g10 g11 : Nat) : Prop where
  n6 : n ≤ g6
  l67 : g6 < g7
  l710 : g7 < g10
  l1011 : g10 < g11
/-- Its rows. -/
structure Rz (w : World) (G : Nat → Prop) (e : Sl) (es : List Ev) (a : Sl) (l : Ws) (s : Sl) (zs : List Int) (o : Sl) (oh : List Int) : Prop where
  ev : EvAt w (svS e) es
  ae : Ap G (svS e) es
  ws : WsAt w a l
  aa : ApS G a
  hp : Hp w (svS s) zs
  ap : Ap G (svS s) zs
  ho : Hp w (svS o) oh
  ao : Ap G (svS o) oh
section
variable {w wx : World} {G : Nat → Prop} {e a s o : Sl} {es : List Ev} {l : Ws} {zs oh : List Int}
theorem Rz.new (R : Rz w G e es a l s zs o oh) (n : New w wx) : Rz wx G e es a l s zs o oh := ⟨R.ev.new n, R.ae, R.ws.new n, R.aa, R.hp.new n, R.ap, R.ho.new n, R.ao⟩
theorem Rz.keep (R : Rz w G e es a l s zs o oh) (hk : ∀ k ob, ¬ G k → w.heap[k]? = some ob → wx.heap[k]? = some ob) : Rz wx G e es a l s zs o oh := ⟨R.ev.keep R.ae hk, R.ae, R.ws.keep R.aa hk, R.aa, R.hp.keep R.ap hk, R.ap, R.ho.keep R.ao hk, R.ao⟩
end
section
variable {G0 : Nat → Prop} {g6 g7 g10 g11 : Nat} {w w' : World}
theorem Go4.k6 (k : Kept g6 w w') : ∀ j ob, ¬ Go4 G0 g6 g7 g10 g11 j → w.heap[j]? = some ob → w'.heap[j]? = some ob := fun j _ hG h => (k.other j (fun x => hG (.inr (.inl x)))).trans h
theorem Go4.k7 (k : Kept g7 w w') : ∀ j ob, ¬ Go4 G0 g6 g7 g10 g11 j → w.heap[j]? = some ob → w'.heap[j]? = some ob := fun j _ hG h => (k.other j (fun x => hG (.inr (.inr (.inl x))))).trans h
theorem Go4.k10 (k : Kept g10 w w') : ∀ j ob, ¬ Go4 G0 g6 g7 g10 g11 j → w.heap[j]? = some ob → w'.heap[j]? = some ob := fun j _ hG h => (k.other j (fun x => hG (.inr (.inr (.inr (.inl x)))))).trans h
theorem Go4.k11 (k : Kept g11 w w') : ∀ j ob, ¬ Go4 G0 g6 g7 g10 g11 j → w.heap[j]? = some ob → w'.heap[j]? = some ob := fun j _ hG h => (k.other j (fun x => hG (.inr (.inr (.inr (.inr x)))))).trans h
theorem Go4.ge {n : Nat} (G : Gq n g6 g7 g10 g11) : ∀ k, Go4 G0 g6 g7 g10 g11 k → G0 k ∨ n ≤ k := by
  have h1 := G.n6; have h2 := G.l67; have h3 := G.l710; have h4 := G.l1011
  intro k hk
  unfold Go4 at hk
  rcases hk with h | h | h | h | h
  · exact .inl h
  all_goals exact .inr (by omega)
theorem Go4.lt {n m : Nat} (h0 : ∀ k, G0 k → k < n) (G : Gq n g6 g7 g10 g11) (h : g11 < m) : ∀ k, Go4 G0 g6 g7 g10 g11 k → k < m := by
  have h1 := G.n6; have h2 := G.l67; have h3 := G.l710; have h4 := G.l1011
  intro k hk
  unfold Go4 at hk
  rcases hk with h | h | h | h | h
  · have := h0 k h; omega
  all_goals omega
end
/-- Its variables. -/
structure Fo (w wx : World) (g6 g7 g10 g11 : Nat) (a s : Sl) (p q : Int) (e : Sl) (ho va : Int) (o : Sl) (st wk : Int) : Prop where
  s : HasRf wx g6 a s p q
  t : HasTr wx g7 e ho va o st wk
  rt : HasTr wx g10 nilS 0 0 nilS 0 0
  rz : HasRf wx g11 nilS nilS 0 0
  new : New w wx
section
variable {w wx wy : World} {g6 g7 g10 g11 : Nat} {a s a2 s2 e e2 o o2 : Sl} {p q p2 q2 ho va st wk ho2 va2 st2 wk2 : Int}
theorem Fo.grow (F : Fo w wx g6 g7 g10 g11 a s p q e ho va o st wk) (k : New wx wy) : Fo w wy g6 g7 g10 g11 a s p q e ho va o st wk := ⟨HasC.new F.s k, HasC.new F.t k, HasC.new F.rt k, HasC.new F.rz k, F.new.trans k⟩
theorem Fo.turn6 (F : Fo w wx g6 g7 g10 g11 a s p q e ho va o st wk) (G : Gq w.heap.size g6 g7 g10 g11) (H : HasRf wy g6 a2 s2 p2 q2) (k : Kept g6 wx wy) : Fo w wy g6 g7 g10 g11 a2 s2 p2 q2 e ho va o st wk := by
  have h1 := G.n6; have h2 := G.l67; have h3 := G.l710; have h4 := G.l1011
  exact ⟨H, HasC.kept F.t k (by omega), HasC.kept F.rt k (by omega), HasC.kept F.rz k (by omega), k.below _ (by omega) F.new⟩
theorem Fo.turn7 (F : Fo w wx g6 g7 g10 g11 a s p q e ho va o st wk) (G : Gq w.heap.size g6 g7 g10 g11) (H : HasTr wy g7 e2 ho2 va2 o2 st2 wk2) (k : Kept g7 wx wy) : Fo w wy g6 g7 g10 g11 a s p q e2 ho2 va2 o2 st2 wk2 := by
  have h1 := G.n6; have h2 := G.l67; have h3 := G.l710; have h4 := G.l1011
  exact ⟨HasC.kept F.s k (by omega), H, HasC.kept F.rt k (by omega), HasC.kept F.rz k (by omega), k.below _ (by omega) F.new⟩
end
theorem evs_empty (w : World) : Evs (w.alloc (.cells #[] 133)) w.heap.size (.slice (some ⟨w.heap.size, 0, none⟩) 0 0) [] :=
  ⟨rfl, .inr ⟨w.heap.size, 0, #[], rfl, Nat.le_refl _, heap_alloc_new _ _, Nat.le_refl _, by simp, by simp, by simp⟩⟩
theorem Evs.news {w0 w w' : World} {B : Nat} {v : Value} {es : List Ev} (h : Evs w B v es) (hg : w.grownBy w' v.ownBlock) (hN : New w0 w) (hB : w0.heap.size ≤ B) : New w0 w' := Below.grown hN hg hN.size (fun k hk => Nat.le_trans hB (h.lt k hk).1)
/-- A loop's round. -/
structure Lo (w wr : World) (G0 : Nat → Prop) (g6 g7 g10 g11 : Nat) (f : List I) (az : List Int) (R : Tr × Mc) (k : Nat) (e o a s : Sl) (l : Ws) (zs : List Int) (p q : Int) (es : List Ev) (how val : Int) (oh : List Int) (st wk : Int) : Prop where
  fr : Fo w wr g6 g7 g10 g11 a s p q e how val o st wk
  rw : Rz wr (Go4 G0 g6 g7 g10 g11) e es a l s zs o oh
  mc : mcB f ⟨l, zs, p, q⟩ = true
  on : onR f az k ⟨l, zs, p, q⟩ ⟨es, how, val, oh, st, wk⟩ = R
  s0 : 0 ≤ st
  s1 : st + k ≤ 20000
  w0 : 0 ≤ wk
  w1 : wk + k ≤ 20000
  el : es.length + k ≤ 20000
theorem on_next {f : List I} {az : List Int} {k : Nat} {m : Mc} {es : List Ev} {val st wk : Int} {oh : List Int} {R : Tr × Mc} (h : onR f az (k + 1) m ⟨es, 0, val, oh, st, wk⟩ = R) {r : Tl} (hr : stp f m az = r) {x : I} (hx : insA f m.p = x) {wk2 : Int} (hw : wk + wk1 x = wk2) :
    onR f az k r.s ⟨es ++ r.ev, r.how, r.val, r.hp, st + 1, wk2⟩ = R := by
  rw [onR_step rfl, hr] at h
  subst hw hx
  exact h
end Go.Proofs.YtlmnodbhfpgplaaGreatDoor
namespace Go.Proofs.YtlmnodbhfpgplaaGreatDoor
open Go.RowKit

set_option maxHeartbeats 32000000 in
set_option maxRecDepth 100000 in
theorem on_in (f : List I) (az : List Int) (fo : Option Addr) (fn fc : Nat) (ca : Sl) (k0 : Nat) (a0 s0 e0 o0 : Sl) (l0 : Ws) (z0 : List Int) (p0 q0 : Int) (es0 : List Ev) (how0 val0 : Int) (oh0 : List Int) (st0 wk0 : Int) (w : World) (hf : FunAt w (.slice fo fn fc) f) (ha : Hp w (svS ca) az) (hal : az.length ≤ 100000)
    (hw : WsAt w a0 l0) (hp : Hp w (svS s0) z0) (he : EvAt w (svS e0) es0) (ho : Hp w (svS o0) oh0) (hm : mcB f ⟨l0, z0, p0, q0⟩ = true) (hs : 0 ≤ st0 ∧ st0 + k0 ≤ 20000) (hwk : 0 ≤ wk0 ∧ wk0 + k0 ≤ 20000) (hel : es0.length + k0 ≤ 20000) (G0 : Nat → Prop) (hG0 : ∀ k, G0 k → k < w.heap.size) (i1 : Ap G0 (svS e0) es0) (i2 : ApS G0 a0) (i3 : Ap G0 (svS s0) z0) (i4 : Ap G0 (svS o0) oh0) :
    Calls Tryz.prog 9 #[.slice fo fn fc, .agg (refC a0 s0 p0 q0).toArray, .agg (trC e0 how0 val0 o0 st0 wk0).toArray, .slice ca.ao ca.n ca.c, .int .i64 (k0 : Int)] w fun r w' => Oa w w' G0 r (onR f az k0 ⟨l0, z0, p0, q0⟩ ⟨es0, how0, val0, oh0, st0, wk0⟩) := by
  obtain ⟨R, HR0⟩ : ∃ R, Hid (onR f az k0 ⟨l0, z0, p0, q0⟩ ⟨es0, how0, val0, oh0, st0, wk0⟩ = R) := ⟨_, Lib.hid rfl⟩
  rw [HR0.out]
  have HF := Lib.hid hf
  have HA := Lib.hid ha
  have HFN : Hid (fn = f.length) := Lib.hid hf.len
  have HAL := Lib.hid hal
  have HW := Lib.hid hw
  have HP := Lib.hid hp
  have HE := Lib.hid he
  have HO := Lib.hid ho
  have HM0 := Lib.hid hm
  have HG0 := Lib.hid hG0
  have J1 := Lib.hid i1
  have J2 := Lib.hid i2
  have J3 := Lib.hid i3
  have J4 := Lib.hid i4
  clear hf ha hal hw hp he ho hm hG0 i1 i2 i3 i4
  go_enter Tryz.func9, Tryz.ntmps9
  have Tr1 : Hid True := Lib.hid trivial
  have Tr2 : Hid True := Lib.hid trivial
  have Tr3 : Hid True := Lib.hid trivial
  have Tr4 : Hid True := Lib.hid trivial
  go_wp2_with (first
    | (clear Tr1; refine wpList_boxX rfl 44 (.tmp 1) rfl (refC a0 s0 p0 q0) rfl ?_; intro w1 g6 hg6 hl6 H6 hn1; have A6 : Hid (HasRf w1 g6 a0 s0 p0 q0) := Lib.hid H6; clear H6)
    | (clear Tr2; refine wpList_boxX rfl 33 (.tmp 2) rfl (trC e0 how0 val0 o0 st0 wk0) rfl ?_; intro w2 g7 hg7 hl7 H7 hn2; have A7 : Hid (HasTr w2 g7 e0 how0 val0 o0 st0 wk0) := Lib.hid H7; have l67 : g6 < g7 := Nat.lt_of_lt_of_le hl6 hg7; clear H7)
    | (clear Tr3; refine wpList_alX rfl 33 rfl _ zeroT_run _ rfl ?_; intro w3 g10 hg10 hl10 H10 hn3; have A10 : Hid (HasTr w3 g10 nilS 0 0 nilS 0 0) := Lib.hid H10; have l710 : g7 < g10 := Nat.lt_of_lt_of_le hl7 hg10; clear H10)
    | (clear Tr4; refine wpList_alX rfl 44 rfl _ zeroR_run _ rfl ?_; intro wb g11 hg11 hl11 H11 hn4; have l1011 : g10 < g11 := Nat.lt_of_lt_of_le hl10 hg11; have G : Hid (Gq w.heap.size g6 g7 g10 g11) := Lib.hid ⟨hg6, l67, l710, l1011⟩; have NB : New w wb := ((hn1.trans hn2).trans hn3).trans hn4; have FR : Hid (Fo w wb g6 g7 g10 g11 a0 s0 p0 q0 e0 how0 val0 o0 st0 wk0) := Lib.hid ⟨HasC.new A6.out ((hn2.trans hn3).trans hn4), HasC.new A7.out (hn3.trans hn4), HasC.new A10.out hn4, H11, NB⟩; have RZ : Hid (Rz wb (Go4 G0 g6 g7 g10 g11) e0 es0 a0 l0 s0 z0 o0 oh0) := Lib.hid ⟨HE.out.new NB, HE.out.ap2 J1.out (Go4.ge G.out), HW.out.new NB, HW.out.aps2 J2.out (Go4.ge G.out), HP.out.new NB, HP.out.ap2 J3.out (Go4.ge G.out), HO.out.new NB, HO.out.ap2 J4.out (Go4.ge G.out)⟩; have c71 := HasTr.how FR.out.t; clear H11 hn1 hn2 hn3 hn4 hg6 hl6 hg7 hl7 hg10 hl10 hg11 A6 A7 A10 l67 l710 l1011))
  have L0 : Lo w wb G0 g6 g7 g10 g11 f az R k0 e0 o0 a0 s0 l0 z0 p0 q0 es0 how0 val0 oh0 st0 wk0 := ⟨FR.out, RZ.out, HM0.out, HR0.out, hs.1, hs.2, hwk.1, hwk.2, hel⟩
  clear FR RZ HM0 HR0 HW HP HE HO c71 NB hs hwk hel
  simp only [Act.put, List.setIfInBounds_toArray, List.set_cons_zero, List.set_cons_succ]
  go_loopw [4] (fun kv wr => ∃ (k : Nat) (e o a s : Sl) (l : Ws) (zs : List Int) (p q : Int) (es : List Ev) (how val : Int) (oh : List Int) (st wk : Int), kv = .int .i64 k ∧ Hid (Lo w wr G0 g6 g7 g10 g11 f az R k e o a s l zs p q es how val oh st wk)) (fun kv _ => (intOf kv).toNat)
  case atStart => exact ⟨k0, e0, o0, a0, s0, l0, z0, p0, q0, es0, how0, val0, oh0, st0, wk0, rfl, Lib.hid L0⟩
  case round =>
    obtain ⟨k, e, o, a, s, l, zs, p, q, es, how, val, oh, st, wk, rfl, LO⟩ := hrel
    have FR := Lib.hid LO.out.fr
    have RZ := Lib.hid LO.out.rw
    have HM := Lib.hid LO.out.mc
    have HON := Lib.hid LO.out.on
    have hs0 := LO.out.s0
    have hs1 := LO.out.s1
    have hw0 := LO.out.w0
    have hw1 := LO.out.w1
    have hel := LO.out.el
    have c71 := HasTr.how FR.out.t
    clear LO
    cases k with
    | zero =>
      have hk0 : ¬ (0 : Int) < ((0 : Nat) : Int) := by decide
      have HRF : Hid ((⟨es, how, val, oh, st, wk⟩, ⟨l, zs, p, q⟩) = R) := Lib.hid HON.out
      go_wp2_with fail
      have b1 := G.out.n6; have b2 := G.out.l67; have b3 := G.out.l710; have b4 := G.out.l1011
      have D0 : Hid (New wr wr.drew) := Lib.hid ((New.refl wr).drew)
      have F0 := Lib.hid (FR.out.grow D0.out)
      replace RZ := Lib.hid (RZ.out.new D0.out)
      have S0 : Hid (HasTr wr.drew g7 e how val o st wk ∧ HasRf wr.drew g6 a s p q) := Lib.hid ⟨F0.out.t, F0.out.s⟩
      refine wp_region_noPanic ?_
      refine wp_region_held_drew (S := fun w' => HasTr w' g7 e how val o st wk ∧ HasRf w' g6 a s p q) (by kernel_rfl) S0.out (fun _ => ?_)
      refine wpAnyH_take (i := 0) (v := .agg (trC e how val o st wk).toArray) rfl (by kernel_rfl) (by kernel_rfl) (by kernel_rfl) (fun _ _ _ h => h) (ldTr_if rfl (.tmp 7) rfl g7 rfl (fun w' h => h.1)) S0.out ?_
      simp only [List.getElem_toArray, List.getElem_cons_zero, Act.put, List.setIfInBounds_toArray, List.set_cons_zero, List.set_cons_succ]
      refine wpAnyH_take (i := 1) (v := .agg (refC a s p q).toArray) rfl (by kernel_rfl) (by kernel_rfl) (by kernel_rfl) (fun _ _ _ h => h) (ldC4_if rfl (.tmp 6) rfl g6 rfl (fun w' h => h.2)) S0.out ?_
      simp only [List.getElem_toArray, List.getElem_cons_zero, List.getElem_cons_succ, Act.put, List.setIfInBounds_toArray, List.set_cons_zero, List.set_cons_succ]
      refine wpAnyH_forced [2, 3] _ _ _ S0.out (by kernel_rfl) (by simp) ?_
      simp only [List.map_cons, List.map_nil, Array.getD_eq_getD_getElem?, List.getElem?_toArray, List.getElem?_cons_succ, List.getElem?_cons_zero, Option.getD_some]
      refine wpLS_stX rfl rfl _ (.tmp 10) (.tmp 60) rfl g10 rfl _ rfl F0.out.rt (trC e how val o st wk) rfl (by simp [trC]) (by simp [trC, Value.oneCell']) infoTr ?_
      intro w4 H4 k4
      refine ⟨⟨HasC.kept S0.out.1 k4 (by omega), HasC.kept S0.out.2 k4 (by omega)⟩, ?_⟩
      refine wpLS_stX rfl rfl _ (.tmp 11) (.tmp 61) rfl g11 rfl _ rfl (HasC.kept F0.out.rz k4 (by omega)) (refC a s p q) rfl (by simp [refC]) (by simp [refC, Value.oneCell']) infoRf ?_
      intro w5 H5 k5
      refine ⟨⟨HasC.kept (HasC.kept S0.out.1 k4 (by omega)) k5 (by omega), HasC.kept (HasC.kept S0.out.2 k4 (by omega)) k5 (by omega)⟩, ?_⟩
      refine wpLS_nil ?_
      refine NoPanic.normal ?_
      go_wp2
      have NW : New w w5 := k5.below _ (by omega) (k4.below _ (by omega) F0.out.new)
      have RW := (RZ.out.keep (Go4.k10 k4)).keep (Go4.k11 k5)
      exact bodyPost_ret (results_cc (p := 10) (v := 11) rfl _ _ g10 g11 _ _ rfl (loadVar_C (HasC.kept H4 k5 (by omega)) Tryz.underlying33 rfl infoTr) rfl (loadVar_C H5 Tryz.underlying44 rfl infoRf)) rfl (Oa.of HRF.out RW.ev RW.ho RW.ws RW.hp NW (RW.ae.mono (fun _ => .inl)) (RW.ao.mono (fun _ => .inl)) (RW.aa.mono (fun _ => .inl)) (RW.ap.mono (fun _ => .inl)))
    | succ k =>
      have hk0 : (0 : Int) < ((k + 1 : Nat) : Int) := by omega
      by_cases h0 : how = 0
      · have e0' : 0 = how := h0.symm
        subst e0'
        have c62 := HasRf.at FR.out.s
        have hmm := mc_iff.mp HM.out
        have hp0 : 0 ≤ p := hmm.2.1
        have hpn : p < f.length := hmm.2.2.1
        obtain ⟨fb, fi, x, ex, hix, hrg⟩ := FunAt.ix HF.out (i := p.toNat) (by have := HFN.out; omega)
        rw [show ((p.toNat : Nat) : Int) = p from by omega] at hix
        have HXE : Hid (insA f p = x) := Lib.hid (by
          unfold insA
          rw [List.getD_eq_getElem?_getD, ex]
          rfl)
        have HX := Lib.hid hrg
        obtain ⟨⟨⟨l2, z2, p2, q2⟩, es2, how2, val2, oh2⟩, HRs⟩ : ∃ r, Hid (stp f ⟨l, zs, p, q⟩ az = r) := ⟨_, Lib.hid rfl⟩
        have hev2 : es2.length ≤ 1 := by
          have := stp_ev (f := f) (s := ⟨l, zs, p, q⟩) (az := az)
          rw [HRs.out] at this
          exact this
        have HL1 : Hid (([] : List Ev).length + es.length ≤ 100000) := Lib.hid (by simp; omega)
        have HL2 : Hid (([] ++ es).length + es2.length ≤ 100000) := Lib.hid (by simp; omega)
        have HEK : Hid ((es ++ es2).length + k ≤ 20000) := Lib.hid (by rw [List.length_append]; omega)
        have HMK : Hid (mcB f ⟨l2, z2, p2, q2⟩ = true) := Lib.hid (by have := stp_keeps (az := az) HM.out; rwa [HRs.out] at this)
        clear hmm hrg ex h0 hev2 hel
        cases hmv : movesB x.op with
        | true =>
          have HMV := Lib.hid hmv
          clear hmv
          have HWK : Hid (wk + wk1 x = wk) := Lib.hid (by unfold wk1; rw [if_pos HMV.out]; omega)
          have HNX := Lib.hid (on_next HON.out HRs.out HXE.out HWK.out)
          have Tr1 : Hid True := Lib.hid trivial
          have Tr2 : Hid True := Lib.hid trivial
          have Tr3 : Hid True := Lib.hid trivial
          have Tr4 : Hid True := Lib.hid trivial
          have Tr5 : Hid True := Lib.hid trivial
          have Tr6 : Hid True := Lib.hid trivial
          have Tr7 : Hid True := Lib.hid trivial
          have Tr8 : Hid True := Lib.hid trivial
          have Tr9 : Hid True := Lib.hid trivial
          have Tr10 : Hid True := Lib.hid trivial
          have Tr11 : Hid True := Lib.hid trivial
          have Tr12 : Hid True := Lib.hid trivial
          have Tr13 : Hid True := Lib.hid trivial
          have Tr14 : Hid True := Lib.hid trivial
          have Tr15 : Hid True := Lib.hid trivial
          have Tr16 : Hid True := Lib.hid trivial
          have Tr17 : Hid True := Lib.hid trivial
          go_wp2_with (first
            | (go_at_call 27; refine (refMoves_any x.op x.d x.a x.b x.n x.t _).mono ?_; rw [HMV.out]; rintro r wm ⟨rfl, hn⟩; replace I12 := Lib.hid (I12.out.new hn); replace FR := Lib.hid (FR.out.grow hn); replace RZ := Lib.hid (RZ.out.new hn); have c75 := HasTr.wk FR.out.t; clear hn)
            | (go_at_call 28; have b11 := HasC.lt FR.out.rz; refine (refDo_is (HF.out.new FR.out.new) RZ.out.ws RZ.out.hp (HA.out.new FR.out.new) HAL.out HM.out HRs.out).mono ?_; rintro r w3 ⟨a2, s2, ve, so, rfl, h0, h1, h2, h3, hn, fa, fs, fe, fo'⟩; obtain ⟨eo, ec, e1⟩ := h2.form; subst e1; have HVE := Lib.hid h2; have GL := Go4.lt HG0.out G.out b11; have RZ2 : Hid (Rz w3 (Go4 G0 g6 g7 g10 g11) e es a2 l2 s2 z2 so oh2) := Lib.hid ⟨RZ.out.ev.new hn, RZ.out.ae, h0, fa.elim (fun x => x ▸ RZ.out.aa) (fun x => x.aps GL), h1, fs.elim (fun x => by subst x; exact Ap.same RZ.out.hp h1 RZ.out.ap) (fun x => x.ap GL), h3, fo'.elim (fun x => by subst x; exact Ap.same RZ.out.hp h3 RZ.out.ap) (fun x => x.ap GL)⟩; replace I12 := Lib.hid (I12.out.new hn); replace FR := Lib.hid (FR.out.grow hn); replace RZ := RZ2; have d12 := HasC.lt (show HasC w3 g12 79 (cells6 x) from I12.out); clear h0 h1 h2 h3 fa fs fe fo' hn GL b11 RZ2)
            | (clear Tr1; refine wpList_ldE rfl (.tmp 27) rfl fb fi rfl (HX.out _ FR.out.new) ?_)
            | (clear Tr2; refine wpList_alX rfl 79 rfl _ Tryz.zeroValue79 [.int .i64 0, .int .i64 0, .int .i64 0, .int .i64 0, .int .i64 0, .int .i64 0] rfl ?_; intro w1 g12 hg12 hl12 H9 hn1; have I12 := Lib.hid H9; clear H9)
            | (clear Tr3; refine wpList_stX rfl rfl 79 (.tmp 12) (.tmp 28) rfl g12 0 rfl _ rfl I12.out (cells6 x) rfl (by simp [cells6]) (by simp [cells6, Value.oneCell']) (by rw [cells6_len]; exact infoI) (cs' := cells6 x) (by simp [cells6]) ?_; intro w2 H2 k2; have hn : New wr w2 := k2.below wr hg12 hn1; replace I12 : Hid (Has w2 g12 x) := Lib.hid H2; have l1112 : g11 < g12 := Nat.lt_of_lt_of_le (HasC.lt FR.out.rz) hg12; have n712 : g12 ≠ g7 := Nat.ne_of_gt (Nat.lt_trans (Nat.lt_trans G.out.l710 G.out.l1011) l1112); have n612 : g12 ≠ g6 := Nat.ne_of_gt (Nat.lt_trans (Nat.lt_trans (Nat.lt_trans G.out.l67 G.out.l710) G.out.l1011) l1112); replace FR := Lib.hid (FR.out.grow hn); replace RZ := Lib.hid (RZ.out.new hn); clear H2 k2 hn1 hn hg12 hl12)
            | (clear Tr4; refine wpList_ldI rfl (.tmp 12) rfl g12 rfl I12.out ?_)
            | (clear Tr5; refine wpList_ldRf rfl (.tmp 6) rfl g6 rfl FR.out.s ?_)
            | (clear Tr6; refine wpList_alX rfl 44 rfl _ zeroR_run _ rfl ?_; intro w4 g13 hg13 hl13 H10 hn4; have B13 : Hid (HasRf w4 g13 nilS nilS 0 0) := Lib.hid H10; have l1213 : g12 < g13 := Nat.lt_of_lt_of_le d12 hg13; clear H10)
            | (clear Tr7; refine wpList_alX rfl 31 rfl _ zeroO_run _ rfl ?_; intro w5 g15 hg15 hl15 H12 hn5; have O15 : Hid (HasO w5 g15 0 0 nilS) := Lib.hid H12; have l1315 : g13 < g15 := Nat.lt_of_lt_of_le hl13 hg15; replace B13 : Hid (HasRf w5 g13 nilS nilS 0 0) := Lib.hid (HasC.new B13.out hn5); clear H12)
            | (clear Tr8; refine wpList_stRf rfl rfl (.tmp 13) (.tmp 41) rfl g13 rfl a2 s2 p2 q2 rfl B13.out ?_; intro w6 H6 k6; replace B13 : Hid (HasRf w6 g13 a2 s2 p2 q2) := Lib.hid H6; replace O15 : Hid (HasO w6 g15 0 0 nilS) := Lib.hid (HasC.kept O15.out k6 (Nat.ne_of_gt l1315)); have hn6 : New w3 w6 := k6.below w3 hg13 (hn4.trans hn5); clear H6 k6)
            | (clear Tr9; refine wpList_stO rfl rfl (.tmp 15) (.tmp 43) rfl g15 rfl how2 val2 so rfl O15.out ?_; intro w7 H7 k7; have hn : New w3 w7 := k7.below w3 (Nat.le_trans hn4.size hg15) hn6; replace O15 : Hid (HasO w7 g15 how2 val2 so) := Lib.hid H7; replace B13 : Hid (HasRf w7 g13 a2 s2 p2 q2) := Lib.hid (HasC.kept B13.out k7 (Nat.ne_of_lt l1315)); replace I12 := Lib.hid (I12.out.new hn); replace HVE := Lib.hid (HVE.out.new hn); replace FR := Lib.hid (FR.out.grow hn); replace RZ := Lib.hid (RZ.out.new hn); have n713 : g13 ≠ g7 := (by have := G.out.l710; have := G.out.l1011; omega); have n715 : g15 ≠ g7 := (by have := G.out.l710; have := G.out.l1011; omega); have n613 : g13 ≠ g6 := (by have := G.out.l67; have := G.out.l710; have := G.out.l1011; omega); have n615 : g15 ≠ g6 := (by have := G.out.l67; have := G.out.l710; have := G.out.l1011; omega); have c70 := HasTr.ev (HasC.new FR.out.t (alloc_new w7 (.cells #[] 133))); clear H7 k7 hn hn4 hn5 hn6 hg13 hl13 hg15 hl15)
            | (clear Tr10; at_builtin; refine wpList_appEv rfl (.tmp 44) (.tmp 46) rfl w7.heap.size _ [] rfl (evs_empty w7) _ rfl es (RZ.out.ev.new (alloc_new _ _)) HL1.out (by rw [alloc_size]; omega) ?_; intro v1 w8 hE1 hgr1 hw1; have N8 : New w7 w8 := (evs_empty w7).news hgr1 (alloc_new _ _) (Nat.le_refl _))
            | (clear Tr11; at_builtin; refine wpList_appEv rfl (.tmp 47) (.tmp 48) rfl w7.heap.size v1 ([] ++ es) rfl hE1 _ rfl es2 (HVE.out.new N8) HL2.out N8.size ?_; intro v2 w9 hE2 hgr2 hw2; have hn : New w7 w9 := hE1.news hgr2 N8 (Nat.le_refl _); obtain ⟨e2, e3⟩ : ∃ e2 : Sl, v2 = .slice e2.ao e2.n e2.c := (by obtain ⟨a1, a2, a3⟩ := hE2.form; exact ⟨⟨a1, _, a2⟩, a3⟩); subst e3; have b11 := HasC.lt FR.out.rz; rw [List.nil_append] at hE2; have RZ2 : Hid (Rz w9 (Go4 G0 g6 g7 g10 g11) e2 (es ++ es2) a2 l2 s2 z2 so oh2) := Lib.hid ⟨hE2.at, hE2.fresh.ap (Go4.lt HG0.out G.out b11), RZ.out.ws.new hn, RZ.out.aa, RZ.out.hp.new hn, RZ.out.ap, RZ.out.ho.new hn, RZ.out.ao⟩; replace I12 := Lib.hid (I12.out.new hn); replace B13 : Hid (HasRf w9 g13 a2 s2 p2 q2) := Lib.hid (HasC.new B13.out hn); replace O15 : Hid (HasO w9 g15 how2 val2 so) := Lib.hid (HasC.new O15.out hn); replace FR := Lib.hid (FR.out.grow hn); replace RZ := RZ2; clear RZ2 hE1 hE2 hgr1 hgr2 hw1 hw2 N8 hn b11 HVE)
            | (clear Tr12; refine wpList_stTe rfl rfl (.tmp 50) (.tmp 49) rfl g7 rfl e2 rfl FR.out.t ?_; intro wc H9 k9; replace I12 : Hid (Has wc g12 x) := Lib.hid ((k9.other _ n712).trans I12.out); replace B13 : Hid (HasRf wc g13 a2 s2 p2 q2) := Lib.hid (HasC.kept B13.out k9 n713); replace O15 : Hid (HasO wc g15 how2 val2 so) := Lib.hid (HasC.kept O15.out k9 n715); replace RZ := Lib.hid (RZ.out.keep (Go4.k7 k9)); replace FR := Lib.hid (FR.out.turn7 G.out H9 k9); clear H9 k9)
            | (clear Tr13; refine wpList_ldOm rfl (.tmp 15) rfl g15 rfl O15.out ?_)
            | (clear Tr14; refine wpList_stTo rfl rfl (.tmp 52) (.tmp 51) rfl g7 rfl how2 val2 so rfl FR.out.t ?_; intro wc H9 k9; replace I12 : Hid (Has wc g12 x) := Lib.hid ((k9.other _ n712).trans I12.out); replace B13 : Hid (HasRf wc g13 a2 s2 p2 q2) := Lib.hid (HasC.kept B13.out k9 n713); replace O15 : Hid (HasO wc g15 how2 val2 so) := Lib.hid (HasC.kept O15.out k9 n715); replace RZ := Lib.hid (RZ.out.keep (Go4.k7 k9)); replace FR := Lib.hid (FR.out.turn7 G.out H9 k9); have c74 := HasTr.st FR.out.t; clear H9 k9)
            | (clear Tr15; refine wpList_stTs rfl rfl (.tmp 56) (.tmp 55) rfl g7 rfl (st + 1) rfl FR.out.t ?_; intro wc H9 k9; replace I12 : Hid (Has wc g12 x) := Lib.hid ((k9.other _ n712).trans I12.out); replace B13 : Hid (HasRf wc g13 a2 s2 p2 q2) := Lib.hid (HasC.kept B13.out k9 n713); replace O15 : Hid (HasO wc g15 how2 val2 so) := Lib.hid (HasC.kept O15.out k9 n715); replace RZ := Lib.hid (RZ.out.keep (Go4.k7 k9)); replace FR := Lib.hid (FR.out.turn7 G.out H9 k9); clear H9 k9)
            | (clear Tr16; refine wpList_ldRf rfl (.tmp 13) rfl g13 rfl B13.out ?_)
            | (clear Tr17; refine wpList_stRf rfl rfl (.tmp 6) (.tmp 57) rfl g6 rfl a2 s2 p2 q2 rfl FR.out.s ?_; intro wu H9 k9; replace RZ := Lib.hid (RZ.out.keep (Go4.k6 k9)); replace FR := Lib.hid (FR.out.turn6 G.out H9 k9); clear H9 k9))
          go_roundw
          case rel => exact ⟨k, e2, so, a2, s2, l2, z2, p2, q2, es ++ es2, how2, val2, oh2, st + 1, wk, by go_num, Lib.hid ⟨FR.out, RZ.out, HMK.out, HNX.out, by omega, by omega, by omega, by omega, by have := HEK.out; omega⟩⟩
          case measure => simp [intOf]
        | false =>
          have HMV := Lib.hid hmv
          clear hmv
          have HWK : Hid (wk + wk1 x = wk + 1) := Lib.hid (by unfold wk1; rw [if_neg (by rw [HMV.out]; decide)])
          have HNX := Lib.hid (on_next HON.out HRs.out HXE.out HWK.out)
          have Tr1 : Hid True := Lib.hid trivial
          have Tr2 : Hid True := Lib.hid trivial
          have Tr3 : Hid True := Lib.hid trivial
          have Tr4 : Hid True := Lib.hid trivial
          have Tr5 : Hid True := Lib.hid trivial
          have Tr6 : Hid True := Lib.hid trivial
          have Tr7 : Hid True := Lib.hid trivial
          have Tr8 : Hid True := Lib.hid trivial
          have Tr9 : Hid True := Lib.hid trivial
          have Tr10 : Hid True := Lib.hid trivial
          have Tr11 : Hid True := Lib.hid trivial
          have Tr12 : Hid True := Lib.hid trivial
          have Tr13 : Hid True := Lib.hid trivial
          have Tr14 : Hid True := Lib.hid trivial
          have Tr15 : Hid True := Lib.hid trivial
          have Tr16 : Hid True := Lib.hid trivial
          have Tr17 : Hid True := Lib.hid trivial
          have Tr18 : Hid True := Lib.hid trivial
          go_wp2_with (first
            | (go_at_call 27; refine (refMoves_any x.op x.d x.a x.b x.n x.t _).mono ?_; rw [HMV.out]; rintro r wm ⟨rfl, hn⟩; replace I12 := Lib.hid (I12.out.new hn); replace FR := Lib.hid (FR.out.grow hn); replace RZ := Lib.hid (RZ.out.new hn); have c75 := HasTr.wk FR.out.t; clear hn)
            | (go_at_call 28; have b11 := HasC.lt FR.out.rz; refine (refDo_is (HF.out.new FR.out.new) RZ.out.ws RZ.out.hp (HA.out.new FR.out.new) HAL.out HM.out HRs.out).mono ?_; rintro r w3 ⟨a2, s2, ve, so, rfl, h0, h1, h2, h3, hn, fa, fs, fe, fo'⟩; obtain ⟨eo, ec, e1⟩ := h2.form; subst e1; have HVE := Lib.hid h2; have GL := Go4.lt HG0.out G.out b11; have RZ2 : Hid (Rz w3 (Go4 G0 g6 g7 g10 g11) e es a2 l2 s2 z2 so oh2) := Lib.hid ⟨RZ.out.ev.new hn, RZ.out.ae, h0, fa.elim (fun x => x ▸ RZ.out.aa) (fun x => x.aps GL), h1, fs.elim (fun x => by subst x; exact Ap.same RZ.out.hp h1 RZ.out.ap) (fun x => x.ap GL), h3, fo'.elim (fun x => by subst x; exact Ap.same RZ.out.hp h3 RZ.out.ap) (fun x => x.ap GL)⟩; replace I12 := Lib.hid (I12.out.new hn); replace FR := Lib.hid (FR.out.grow hn); replace RZ := RZ2; have d12 := HasC.lt (show HasC w3 g12 79 (cells6 x) from I12.out); clear h0 h1 h2 h3 fa fs fe fo' hn GL b11 RZ2)
            | (clear Tr1; refine wpList_ldE rfl (.tmp 27) rfl fb fi rfl (HX.out _ FR.out.new) ?_)
            | (clear Tr2; refine wpList_alX rfl 79 rfl _ Tryz.zeroValue79 [.int .i64 0, .int .i64 0, .int .i64 0, .int .i64 0, .int .i64 0, .int .i64 0] rfl ?_; intro w1 g12 hg12 hl12 H9 hn1; have I12 := Lib.hid H9; clear H9)
            | (clear Tr3; refine wpList_stX rfl rfl 79 (.tmp 12) (.tmp 28) rfl g12 0 rfl _ rfl I12.out (cells6 x) rfl (by simp [cells6]) (by simp [cells6, Value.oneCell']) (by rw [cells6_len]; exact infoI) (cs' := cells6 x) (by simp [cells6]) ?_; intro w2 H2 k2; have hn : New wr w2 := k2.below wr hg12 hn1; replace I12 : Hid (Has w2 g12 x) := Lib.hid H2; have l1112 : g11 < g12 := Nat.lt_of_lt_of_le (HasC.lt FR.out.rz) hg12; have n712 : g12 ≠ g7 := Nat.ne_of_gt (Nat.lt_trans (Nat.lt_trans G.out.l710 G.out.l1011) l1112); have n612 : g12 ≠ g6 := Nat.ne_of_gt (Nat.lt_trans (Nat.lt_trans (Nat.lt_trans G.out.l67 G.out.l710) G.out.l1011) l1112); replace FR := Lib.hid (FR.out.grow hn); replace RZ := Lib.hid (RZ.out.new hn); clear H2 k2 hn1 hn hg12 hl12)
            | (clear Tr4; refine wpList_ldI rfl (.tmp 12) rfl g12 rfl I12.out ?_)
            | (clear Tr5; refine wpList_stTw rfl rfl (.tmp 35) (.tmp 34) rfl g7 rfl (wk + 1) rfl FR.out.t ?_; intro w9 H9 k9; replace I12 : Hid (Has w9 g12 x) := Lib.hid ((k9.other _ n712).trans I12.out); replace RZ := Lib.hid (RZ.out.keep (Go4.k7 k9)); replace FR := Lib.hid (FR.out.turn7 G.out H9 k9); clear H9 k9)
            | (clear Tr6; refine wpList_ldRf rfl (.tmp 6) rfl g6 rfl FR.out.s ?_)
            | (clear Tr7; refine wpList_alX rfl 44 rfl _ zeroR_run _ rfl ?_; intro w4 g13 hg13 hl13 H10 hn4; have B13 : Hid (HasRf w4 g13 nilS nilS 0 0) := Lib.hid H10; have l1213 : g12 < g13 := Nat.lt_of_lt_of_le d12 hg13; clear H10)
            | (clear Tr8; refine wpList_alX rfl 31 rfl _ zeroO_run _ rfl ?_; intro w5 g15 hg15 hl15 H12 hn5; have O15 : Hid (HasO w5 g15 0 0 nilS) := Lib.hid H12; have l1315 : g13 < g15 := Nat.lt_of_lt_of_le hl13 hg15; replace B13 : Hid (HasRf w5 g13 nilS nilS 0 0) := Lib.hid (HasC.new B13.out hn5); clear H12)
            | (clear Tr9; refine wpList_stRf rfl rfl (.tmp 13) (.tmp 41) rfl g13 rfl a2 s2 p2 q2 rfl B13.out ?_; intro w6 H6 k6; replace B13 : Hid (HasRf w6 g13 a2 s2 p2 q2) := Lib.hid H6; replace O15 : Hid (HasO w6 g15 0 0 nilS) := Lib.hid (HasC.kept O15.out k6 (Nat.ne_of_gt l1315)); have hn6 : New w3 w6 := k6.below w3 hg13 (hn4.trans hn5); clear H6 k6)
            | (clear Tr10; refine wpList_stO rfl rfl (.tmp 15) (.tmp 43) rfl g15 rfl how2 val2 so rfl O15.out ?_; intro w7 H7 k7; have hn : New w3 w7 := k7.below w3 (Nat.le_trans hn4.size hg15) hn6; replace O15 : Hid (HasO w7 g15 how2 val2 so) := Lib.hid H7; replace B13 : Hid (HasRf w7 g13 a2 s2 p2 q2) := Lib.hid (HasC.kept B13.out k7 (Nat.ne_of_lt l1315)); replace I12 := Lib.hid (I12.out.new hn); replace HVE := Lib.hid (HVE.out.new hn); replace FR := Lib.hid (FR.out.grow hn); replace RZ := Lib.hid (RZ.out.new hn); have n713 : g13 ≠ g7 := (by have := G.out.l710; have := G.out.l1011; omega); have n715 : g15 ≠ g7 := (by have := G.out.l710; have := G.out.l1011; omega); have n613 : g13 ≠ g6 := (by have := G.out.l67; have := G.out.l710; have := G.out.l1011; omega); have n615 : g15 ≠ g6 := (by have := G.out.l67; have := G.out.l710; have := G.out.l1011; omega); have c70 := HasTr.ev (HasC.new FR.out.t (alloc_new w7 (.cells #[] 133))); clear H7 k7 hn hn4 hn5 hn6 hg13 hl13 hg15 hl15)
            | (clear Tr11; at_builtin; refine wpList_appEv rfl (.tmp 44) (.tmp 46) rfl w7.heap.size _ [] rfl (evs_empty w7) _ rfl es (RZ.out.ev.new (alloc_new _ _)) HL1.out (by rw [alloc_size]; omega) ?_; intro v1 w8 hE1 hgr1 hw1; have N8 : New w7 w8 := (evs_empty w7).news hgr1 (alloc_new _ _) (Nat.le_refl _))
            | (clear Tr12; at_builtin; refine wpList_appEv rfl (.tmp 47) (.tmp 48) rfl w7.heap.size v1 ([] ++ es) rfl hE1 _ rfl es2 (HVE.out.new N8) HL2.out N8.size ?_; intro v2 w9 hE2 hgr2 hw2; have hn : New w7 w9 := hE1.news hgr2 N8 (Nat.le_refl _); obtain ⟨e2, e3⟩ : ∃ e2 : Sl, v2 = .slice e2.ao e2.n e2.c := (by obtain ⟨a1, a2, a3⟩ := hE2.form; exact ⟨⟨a1, _, a2⟩, a3⟩); subst e3; have b11 := HasC.lt FR.out.rz; rw [List.nil_append] at hE2; have RZ2 : Hid (Rz w9 (Go4 G0 g6 g7 g10 g11) e2 (es ++ es2) a2 l2 s2 z2 so oh2) := Lib.hid ⟨hE2.at, hE2.fresh.ap (Go4.lt HG0.out G.out b11), RZ.out.ws.new hn, RZ.out.aa, RZ.out.hp.new hn, RZ.out.ap, RZ.out.ho.new hn, RZ.out.ao⟩; replace I12 := Lib.hid (I12.out.new hn); replace B13 : Hid (HasRf w9 g13 a2 s2 p2 q2) := Lib.hid (HasC.new B13.out hn); replace O15 : Hid (HasO w9 g15 how2 val2 so) := Lib.hid (HasC.new O15.out hn); replace FR := Lib.hid (FR.out.grow hn); replace RZ := RZ2; clear RZ2 hE1 hE2 hgr1 hgr2 hw1 hw2 N8 hn b11 HVE)
            | (clear Tr13; refine wpList_stTe rfl rfl (.tmp 50) (.tmp 49) rfl g7 rfl e2 rfl FR.out.t ?_; intro wc H9 k9; replace I12 : Hid (Has wc g12 x) := Lib.hid ((k9.other _ n712).trans I12.out); replace B13 : Hid (HasRf wc g13 a2 s2 p2 q2) := Lib.hid (HasC.kept B13.out k9 n713); replace O15 : Hid (HasO wc g15 how2 val2 so) := Lib.hid (HasC.kept O15.out k9 n715); replace RZ := Lib.hid (RZ.out.keep (Go4.k7 k9)); replace FR := Lib.hid (FR.out.turn7 G.out H9 k9); clear H9 k9)
            | (clear Tr14; refine wpList_ldOm rfl (.tmp 15) rfl g15 rfl O15.out ?_)
            | (clear Tr15; refine wpList_stTo rfl rfl (.tmp 52) (.tmp 51) rfl g7 rfl how2 val2 so rfl FR.out.t ?_; intro wc H9 k9; replace I12 : Hid (Has wc g12 x) := Lib.hid ((k9.other _ n712).trans I12.out); replace B13 : Hid (HasRf wc g13 a2 s2 p2 q2) := Lib.hid (HasC.kept B13.out k9 n713); replace O15 : Hid (HasO wc g15 how2 val2 so) := Lib.hid (HasC.kept O15.out k9 n715); replace RZ := Lib.hid (RZ.out.keep (Go4.k7 k9)); replace FR := Lib.hid (FR.out.turn7 G.out H9 k9); have c74 := HasTr.st FR.out.t; clear H9 k9)
            | (clear Tr16; refine wpList_stTs rfl rfl (.tmp 56) (.tmp 55) rfl g7 rfl (st + 1) rfl FR.out.t ?_; intro wc H9 k9; replace I12 : Hid (Has wc g12 x) := Lib.hid ((k9.other _ n712).trans I12.out); replace B13 : Hid (HasRf wc g13 a2 s2 p2 q2) := Lib.hid (HasC.kept B13.out k9 n713); replace O15 : Hid (HasO wc g15 how2 val2 so) := Lib.hid (HasC.kept O15.out k9 n715); replace RZ := Lib.hid (RZ.out.keep (Go4.k7 k9)); replace FR := Lib.hid (FR.out.turn7 G.out H9 k9); clear H9 k9)
            | (clear Tr17; refine wpList_ldRf rfl (.tmp 13) rfl g13 rfl B13.out ?_)
            | (clear Tr18; refine wpList_stRf rfl rfl (.tmp 6) (.tmp 57) rfl g6 rfl a2 s2 p2 q2 rfl FR.out.s ?_; intro wu H9 k9; replace RZ := Lib.hid (RZ.out.keep (Go4.k6 k9)); replace FR := Lib.hid (FR.out.turn6 G.out H9 k9); clear H9 k9))
          go_roundw
          case rel => exact ⟨k, e2, so, a2, s2, l2, z2, p2, q2, es ++ es2, how2, val2, oh2, st + 1, wk + 1, by go_num, Lib.hid ⟨FR.out, RZ.out, HMK.out, HNX.out, by omega, by omega, by omega, by omega, by have := HEK.out; omega⟩⟩
          case measure => simp [intOf]
      · have q0' : (how == 0) = false := bneq_of h0
        have HRF : Hid ((⟨es, how, val, oh, st, wk⟩, ⟨l, zs, p, q⟩) = R) := Lib.hid (by
          have := HON.out
          rw [onR_ended (t := ⟨es, how, val, oh, st, wk⟩) h0] at this
          exact this)
        clear h0
        go_wp2_with fail
        have b1 := G.out.n6; have b2 := G.out.l67; have b3 := G.out.l710; have b4 := G.out.l1011
        have D0 : Hid (New wr wr.drew) := Lib.hid ((New.refl wr).drew)
        have F0 := Lib.hid (FR.out.grow D0.out)
        replace RZ := Lib.hid (RZ.out.new D0.out)
        have S0 : Hid (HasTr wr.drew g7 e how val o st wk ∧ HasRf wr.drew g6 a s p q) := Lib.hid ⟨F0.out.t, F0.out.s⟩
        refine wp_region_noPanic ?_
        refine wp_region_held_drew (S := fun w' => HasTr w' g7 e how val o st wk ∧ HasRf w' g6 a s p q) (by kernel_rfl) S0.out (fun _ => ?_)
        refine wpAnyH_take (i := 0) (v := .agg (trC e how val o st wk).toArray) rfl (by kernel_rfl) (by kernel_rfl) (by kernel_rfl) (fun _ _ _ h => h) (ldTr_if rfl (.tmp 7) rfl g7 rfl (fun w' h => h.1)) S0.out ?_
        simp only [List.getElem_toArray, List.getElem_cons_zero, Act.put, List.setIfInBounds_toArray, List.set_cons_zero, List.set_cons_succ]
        refine wpAnyH_take (i := 1) (v := .agg (refC a s p q).toArray) rfl (by kernel_rfl) (by kernel_rfl) (by kernel_rfl) (fun _ _ _ h => h) (ldC4_if rfl (.tmp 6) rfl g6 rfl (fun w' h => h.2)) S0.out ?_
        simp only [List.getElem_toArray, List.getElem_cons_zero, List.getElem_cons_succ, Act.put, List.setIfInBounds_toArray, List.set_cons_zero, List.set_cons_succ]
        refine wpAnyH_forced [2, 3] _ _ _ S0.out (by kernel_rfl) (by simp) ?_
        simp only [List.map_cons, List.map_nil, Array.getD_eq_getD_getElem?, List.getElem?_toArray, List.getElem?_cons_succ, List.getElem?_cons_zero, Option.getD_some]
        refine wpLS_stX rfl rfl _ (.tmp 10) (.tmp 60) rfl g10 rfl _ rfl F0.out.rt (trC e how val o st wk) rfl (by simp [trC]) (by simp [trC, Value.oneCell']) infoTr ?_
        intro w4 H4 k4
        refine ⟨⟨HasC.kept S0.out.1 k4 (by omega), HasC.kept S0.out.2 k4 (by omega)⟩, ?_⟩
        refine wpLS_stX rfl rfl _ (.tmp 11) (.tmp 61) rfl g11 rfl _ rfl (HasC.kept F0.out.rz k4 (by omega)) (refC a s p q) rfl (by simp [refC]) (by simp [refC, Value.oneCell']) infoRf ?_
        intro w5 H5 k5
        refine ⟨⟨HasC.kept (HasC.kept S0.out.1 k4 (by omega)) k5 (by omega), HasC.kept (HasC.kept S0.out.2 k4 (by omega)) k5 (by omega)⟩, ?_⟩
        refine wpLS_nil ?_
        refine NoPanic.normal ?_
        go_wp2
        have NW : New w w5 := k5.below _ (by omega) (k4.below _ (by omega) F0.out.new)
        have RW := (RZ.out.keep (Go4.k10 k4)).keep (Go4.k11 k5)
        exact bodyPost_ret (results_cc (p := 10) (v := 11) rfl _ _ g10 g11 _ _ rfl (loadVar_C (HasC.kept H4 k5 (by omega)) Tryz.underlying33 rfl infoTr) rfl (loadVar_C H5 Tryz.underlying44 rfl infoRf)) rfl (Oa.of HRF.out RW.ev RW.ho RW.ws RW.hp NW (RW.ae.mono (fun _ => .inl)) (RW.ao.mono (fun _ => .inl)) (RW.aa.mono (fun _ => .inl)) (RW.ap.mono (fun _ => .inl)))
end Go.Proofs.YtlmnodbhfpgplaaGreatDoor
