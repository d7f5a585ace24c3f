/-
  The reference's Do of an instruction that does more than move.
-/
import Derived.Test.YtlmnodbhfpgplaaGreatDoorStepRef
namespace Go.Proofs.YtlmnodbhfpgplaaGreatDoor
open Go.RowKit

theorem stp_un {f : List I} {s : Mc} {az : List Int} {x : I} (hx : insA f s.p = x) (hk : knwB x s.l = false) : stp f s az = ⟨s, [], 2, 0, []⟩ := by
  unfold stp
  rw [hx, if_pos hk]
theorem stp_end {f : List I} {s m2 : Mc} {az : List Int} {es : List Ev} {x : I} {how : Int} (hx : insA f s.p = x) (hk : knwB x s.l = true) (h : flw x s az = (m2, es, how)) (h0 : how ≠ 0) (h1 : how ≠ 1) : stp f s az = ⟨s, [], how, 0, []⟩ := by
  unfold stp
  rw [hx, if_neg (by rw [hk]; decide), h, if_neg h0, if_neg h1]
theorem stp_ret {f : List I} {s m2 : Mc} {az : List Int} {es : List Ev} {x : I} (hx : insA f s.p = x) (hk : knwB x s.l = true) (h : flw x s az = (m2, es, 1)) : stp f s az = ⟨s, [], 1, (s.l x.a.toNat).2, s.h⟩ := by
  unfold stp
  rw [hx, if_neg (by rw [hk]; decide), h, if_neg (show ¬ (1 : Int) = 0 by decide), if_pos rfl]
theorem putO_alloc {w : World} {g : Nat} (hg : g < w.heap.size) (X o : Obj) : (putO w g X).alloc o = putO (w.alloc o) g X := by
  unfold putO World.alloc
  simp only [World.mk.injEq, and_true]
  apply Array.ext_getElem?
  intro i
  simp only [Array.getElem?_push, Array.getElem?_setIfInBounds, Array.size_setIfInBounds, Array.size_push]
  by_cases h1 : i = w.heap.size
  · subst h1
    rw [if_pos rfl, if_neg (by omega), if_pos rfl]
  · rw [if_neg h1, if_neg h1]
    by_cases h2 : g = i
    · subst h2
      rw [if_pos rfl, if_pos rfl, if_pos hg, if_pos (by omega)]
    · rw [if_neg h2, if_neg h2]
theorem wpOp_skip {P : Program} {ops : Array Oper} {Q : Exit → Act → World → Prop} {i : Nat} {o : Oper} {a : Act} {w w' : World} {K : Act → World → Prop} (hi : ops[i]? = some o) (hg : o.guard = none) (hr : (execOp a.eval o).run P w = .ok .skip w') (hd : o.dst = none) (h : K a w') : wpOp P ops Q i K a w := by

  unfold wpOp
  simp only [hi, Region.wanted, hg, if_true]
  refine .inl ?_
  unfold Oper.wp
  rw [hr]
  unfold Oper.upon
  rw [hd]
  exact h
/-- A new block and a store elsewhere, in whichever order. -/
theorem wpAnyH_mkst {ops : Array Oper} {md : Region.Mode} {S : World → Prop} {Q : Exit → Act → World → Prop} {i j : Nat} {oi oj : Oper} {di : Tmp} {m : Nat} {l : Array Bool} {a : Act} {w : World} (hi : ops[i]? = some oi) (hj : ops[j]? = some oj) (ei : oi.dst = some di) (ej : oj.dst = none) (gi : oi.guard = none) (gj : oj.guard = none)
    (b0 : Region.ready md ops l = [i, j]) (b1 : Region.ready md ops (l.setIfInBounds i true) = [j]) (b2 : Region.ready md ops (l.setIfInBounds j true) = [i]) (hij : i ≠ j)
    (v : Nat → Value) (ob : Obj) (r : ∀ wx : World, (execOp a.eval oi).run Tryz.prog wx = .ok (.value (v wx.heap.size)) (wx.alloc ob))
    (t : TypeId) (x y : Operand) (ho : oj.op = .store t x y) (g : Nat) (hx : a.eval x = .pointer (some ⟨g, 0, none⟩)) (u : Value) (hy : a.eval y = u) (hx' : (a.put (some di) (v w.heap.size)).eval x = .pointer (some ⟨g, 0, none⟩)) (hy' : (a.put (some di) (v w.heap.size)).eval y = u)
    {ty : TypeId} {cs : List Value} (h : HasC w g ty cs) (xs : List Value) (hu : u.cells = xs.toArray) (hl : cs.length = xs.length) (h1 : ∀ v ∈ xs, v.oneCell' = true) (hf : (Tryz.prog.info? t).map (·.size) = some xs.length)
    (s1 : S (w.alloc ob)) (s3 : S (putO w g (.cells xs.toArray ty (0, 0)))) (hk : ∀ w2, HasC w2 g ty xs → Kept g (w.alloc ob) w2 → S w2 ∧ wpAnyH Tryz.prog md ops Q S m ((l.setIfInBounds i true).setIfInBounds j true) (a.put (some di) (v w.heap.size)) w2) : wpAnyH Tryz.prog md ops Q S (m + 2) l a w := by
  have hc : cs.take 0 ++ xs ++ cs.drop (0 + xs.length) = xs := by rw [List.take_zero, List.nil_append, List.drop_of_length_le (by omega), List.append_nil]
  have hs := h.store 0 xs t u hu (by omega) h1 hf
  have h' : HasC (w.alloc ob) g ty cs := HasC.new h (alloc_new _ _)
  have hs' := h'.store 0 xs t u hu (by omega) h1 hf
  rw [hc] at hs hs'
  have rj : (execOp a.eval oj).run Tryz.prog w = .ok .skip (putO w g (.cells xs.toArray ty (0, 0))) := by
    unfold execOp
    simp only [ho, hx, hy, hs, Sem.run_bind, Sem.run_pure, Result.andThen_ok]
  have rj' : (execOp (a.put (some di) (v w.heap.size)).eval oj).run Tryz.prog (w.alloc ob) = .ok .skip (putO (w.alloc ob) g (.cells xs.toArray ty (0, 0))) := by
    unfold execOp
    simp only [ho, hx', hy', hs', Sem.run_bind, Sem.run_pure, Result.andThen_ok]
  obtain ⟨k1, k2⟩ := hk _ (putO_same h') (Kept.put _ _ _)
  refine wpAnyH_all b0 (by simp) ?_
  simp only [List.mem_cons, List.not_mem_nil, or_false]
  rintro t (rfl | rfl)
  · refine wpOp_value hi gi (r w) ⟨s1, ?_⟩
    refine wpAnyH_all b1 (by simp) ?_
    simp only [List.mem_cons, List.not_mem_nil, or_false]
    rintro t rfl
    rw [ei]
    exact wpOp_skip hj gj rj' ej ⟨k1, k2⟩
  · refine wpOp_skip hj gj rj ej ⟨s3, ?_⟩
    refine wpAnyH_all b2 (by simp) ?_
    simp only [List.mem_cons, List.not_mem_nil, or_false]
    rintro t rfl
    have r' := r (putO w g (.cells xs.toArray ty (0, 0)))
    rw [putO_size, putO_alloc h.lt] at r'
    refine wpOp_value hi gi r' ⟨k1, ?_⟩
    rw [ei, Array.setIfInBounds_comm _ _ (Ne.symm hij)]
    exact k2
theorem flw_num {o n t : Int} {kd ka kb : Nat} (h : 4 ≤ o ∧ o ≤ 12) (s : Mc) (az : List Int) : flw ⟨o, kd, ka, kb, n, t⟩ s az = (⟨updW s.l kd (true, doV o (s.l ka).2 (s.l kb).2), s.h, s.p + 1, s.q⟩, [], doH o (s.l kb).2) := by
  unfold flw
  simp only [Int.toNat_natCast]
  rw [if_neg (by omega), if_neg (by omega), if_neg (by omega), if_neg (by omega), if_neg (by omega), if_neg (by omega), if_neg (by omega), if_neg (by omega), if_neg (by omega)]
set_option maxHeartbeats 32000000 in
set_option maxRecDepth 100000 in
theorem refStep_rest (ao : Option Addr) (n cap : Nat) (f : List I) (l : Ws) (zs : List Int) (p q : Int) (a s : Sl) (az : List Int) (bo : Option Addr) (bn bc : Nat) (w : World) (hf : FunAt w (.slice ao n cap) f) (hw : WsAt w a l) (hp : Hp w (.slice s.ao s.n s.c) zs) (ha : Hp w (.slice bo bn bc) az) (hal : bn ≤ 100000)
    (hm : mcB f ⟨l, zs, p, q⟩ = true) (o nn t : Int) (kd ka kb : Nat) (hkd : kd < 24) (hka : ka < 24) (hkb : kb < 24) (ho : 4 ≤ o ∧ o ≤ 15 ∨ o = 17 ∨ o = 18) (hx : insA f p = ⟨o, kd, ka, kb, nn, t⟩) :
    Calls Tryz.prog 28 #[.slice ao n cap, .agg (refC a s p q).toArray, .slice bo bn bc] w fun e w' => Dm w w' e a s (stp f ⟨l, zs, p, q⟩ az) := by
  have hmm := mc_iff.mp hm
  have hr := (right_iff.mp hmm.1).1
  have hp0 : 0 ≤ p := hmm.2.1
  have hpn : p < f.length := hmm.2.2.1
  have hp1 : p < 200 := by omega
  have hq0 : 0 ≤ q := hmm.2.2.2.2.1
  have h16 : zs.length ≤ 16 := hmm.2.2.2.1
  have h24 := hw.n
  obtain ⟨a1, a2, a3⟩ := a
  have h24' : a2 = 24 := h24
  subst h24'
  obtain ⟨fb, fo, x, ex, hix, hrg⟩ := FunAt.ix hf (i := p.toNat) (by have := hf.len; omega)
  rw [show ((p.toNat : Nat) : Int) = p from by omega] at hix
  have hxe : x = ⟨o, kd, ka, kb, nn, t⟩ := by
    rw [← hx]
    unfold insA
    rw [List.getD_eq_getElem?_getD, ex]
    rfl
  subst hxe
  have HW : Hid (∀ w', New w w' → WsAt w' ⟨a1, 24, a3⟩ l) := Lib.hid (fun w' h => hw.new h)
  have HP : Hid (∀ w', New w w' → Hp w' (.slice s.ao s.n s.c) zs) := Lib.hid (fun w' h => hp.new h)
  have HA : Hid (∀ w', New w w' → Hp w' (.slice bo bn bc) az) := Lib.hid (fun w' h => ha.new h)
  have HAL : Hid (bn = az.length) := Lib.hid ha.len
  have HX := Lib.hid hrg
  have HIX := Lib.hid hx
  have Tq1 : Hid True := Lib.hid trivial
  have Tq2 : Hid True := Lib.hid trivial
  have Tq3 : Hid True := Lib.hid trivial
  have Tq4 : Hid True := Lib.hid trivial
  have Tq5 : Hid True := Lib.hid trivial
  have Tq6 : Hid True := Lib.hid trivial
  have Tq7 : Hid True := Lib.hid trivial
  have Tq8 : Hid True := Lib.hid trivial
  have hkd' : (kd : Int) < 24 := by omega
  have hka' : (ka : Int) < 24 := by omega
  have hkb' : (kb : Int) < 24 := by omega
  clear hf hw hp ha hrg ex hmm hr hpn hx hm h24
  go_enter Tryz.func28, Tryz.ntmps28
  go_upto_region 3 with (first
    | (clear Tq1; refine wpList_boxX rfl 44 (.tmp 1) rfl (refC ⟨a1, 24, a3⟩ s p q) rfl ?_; intro w1 g4 hg4 hl4 H4 hn1; have A4 : Hid (HasRf w1 g4 ⟨a1, 24, a3⟩ s p q) := Lib.hid H4; clear H4)
    | (clear Tq2; refine wpList_alX rfl 44 rfl _ zeroR_run _ rfl ?_; intro w2 g6 hg6 hl6 H6 hn2; have A6 : Hid (HasRf w2 g6 nilS nilS 0 0) := Lib.hid H6; clear H6)
    | (clear Tq3; refine wpList_alX rfl 31 rfl _ zeroO_run _ rfl ?_; intro w3 g8 hg8 hl8 H8 hn3; have A8 : Hid (HasO w3 g8 0 0 nilS) := Lib.hid H8; replace A6 : Hid (HasRf w3 g6 nilS nilS 0 0) := Lib.hid (HasC.new A6.out hn3); replace A4 : Hid (HasRf w3 g4 ⟨a1, 24, a3⟩ s p q) := Lib.hid (HasC.new (HasC.new A4.out hn2) hn3); have HN := Lib.hid ((hn1.trans hn2).trans hn3); have c2 := HasRf.at A4.out; have n6 : w.heap.size ≤ g6 := Nat.le_trans hn1.size hg6; have n8 : w.heap.size ≤ g8 := Nat.le_trans (hn1.trans hn2).size hg8; have d46 : g4 < g6 := Nat.lt_of_lt_of_le hl4 hg6; have d68 : g6 < g8 := Nat.lt_of_lt_of_le hl6 hg8; clear H8 hn1 hn2 hn3 hg6 hl4 hl6 hg8)
    | (clear Tq4; refine wpList_ldE rfl (.tmp 23) rfl fb fo rfl (HX.out _ HN.out) ?_)
    | (clear Tq5; refine wpList_alX rfl 79 rfl _ Tryz.zeroValue79 [.int .i64 0, .int .i64 0, .int .i64 0, .int .i64 0, .int .i64 0, .int .i64 0] rfl ?_; intro w4 g9 hg9 hl9 H9 hn4; have I9 := Lib.hid H9; clear H9)
    | (clear Tq6; refine wpList_stX rfl rfl 79 (.tmp 9) (.tmp 24) rfl g9 0 rfl _ rfl I9.out (cells6 ⟨o, kd, ka, kb, nn, t⟩) rfl (by simp [cells6]) (by simp [cells6, Value.oneCell']) (by rw [cells6_len]; exact infoI) (cs' := cells6 ⟨o, kd, ka, kb, nn, t⟩) (by simp [cells6]) ?_; intro w5 H5 k5; have hn5 : New w3 w5 := k5.below w3 hg9 hn4; replace I9 : Hid (Has w5 g9 ⟨o, kd, ka, kb, nn, t⟩) := Lib.hid H5; have d89 : g8 < g9 := Nat.lt_of_lt_of_le hl8 hg9; replace A4 : Hid (HasRf w5 g4 ⟨a1, 24, a3⟩ s p q) := Lib.hid (HasC.new A4.out hn5); replace A6 : Hid (HasRf w5 g6 nilS nilS 0 0) := Lib.hid (HasC.new A6.out hn5); replace A8 : Hid (HasO w5 g8 0 0 nilS) := Lib.hid (HasC.new A8.out hn5); replace HN := Lib.hid (HN.out.trans hn5); have x0 := HasRf.l A4.out; have x1 := HasRf.hp A4.out; have x2 := HasRf.at A4.out; have x3 := HasRf.ask A4.out; have z5 := k5.size; clear H5 k5 hn4 hn5 hl8)
    | (clear Tq7; refine wpList_alX rfl 44 rfl _ zeroR_run _ rfl ?_; intro w6 g10 hg10 hl10 H10 hn6; have A10 : Hid (HasRf w6 g10 nilS nilS 0 0) := Lib.hid H10; clear H10)
    | (clear Tq8; refine wpList_stRf rfl rfl (.tmp 10) (.tmp 34) rfl g10 rfl ⟨a1, 24, a3⟩ s (p + 1) q rfl A10.out ?_; intro wy H7 k7; have hn7 : New w5 wy := k7.below w5 hg10 hn6; have d910 : g9 < g10 := Nat.lt_of_lt_of_le (heap_lt I9.out) hg10; have D : Hid (Dq w.heap.size g4 g6 g8 g9 g10) := Lib.hid ⟨n6, n8, Nat.le_trans HN.out.size hg10, by omega, by omega, by omega, by omega, by omega, by omega, by omega, by omega, by omega⟩; have FR : Hid (Fq w wy g4 g6 g8 g9 g10 ⟨a1, 24, a3⟩ s p q ⟨o, kd, ka, kb, nn, t⟩ ⟨a1, 24, a3⟩ s (p + 1) q) := Lib.hid ⟨HasC.new A4.out hn7, HasC.new A6.out hn7, HasC.new A8.out hn7, I9.out.new hn7, H7, HN.out.trans hn7⟩; obtain ⟨c0, c1, c2, c3, d0, d1, d2, d3, d4, d5⟩ := FR.out.cells; clear H7 k7 hn6 hn7 hg10 hl10 A4 A6 A8 A10 I9 HN x0 x1 x2 x3 n6 n8 d46 d68 d89 d910 z5 hg9 hl9))
  have q16 : (o == 16) = false := bneq_of (by omega)
  have q1 : (o == 1) = false := bneq_of (by omega)
  have q2 : (o == 2) = false := bneq_of (by omega)
  have q3 : (o == 3) = false := bneq_of (by omega)
  have HPL := Lib.hid (uses_places (x := ⟨o, kd, ka, kb, nn, t⟩) ⟨by simp, by simpa using hka', by simp, by simpa using hkb'⟩)
  have Tu : Hid True := Lib.hid trivial
  have HO := Lib.hid ho
  clear ho
  go_wp2_with (first
    | (go_at_call 54; refine (refUses_any o kd ka kb nn t _).mono ?_; rintro e w7 ⟨v, rfl, hv, hn⟩; obtain ⟨uo, uc, hvs, hv2⟩ := own_rowAt hv; subst hvs; rw [List.length_map])
    | (clear Tu; refine wpList_ldI rfl (.tmp 9) rfl g9 rfl FR.out.ins ?_))
  have HR : Hid (RowAt w7 (.slice uo (usesL ⟨o, kd, ka, kb, nn, t⟩).length uc) ((usesL ⟨o, kd, ka, kb, nn, t⟩).map (Value.int .i64))) := Lib.hid ⟨uo, uc, by rw [List.length_map], hv2⟩
  replace FR := Lib.hid (FR.out.grow hn)
  clear hv hv2 hn c0 c1 c2 c3 d0 d1 d2 d3 d4 d5
  obtain ⟨m, HM⟩ : ∃ m, Hid ((usesL ⟨o, kd, ka, kb, nn, t⟩).length = m) := ⟨_, Lib.hid rfl⟩
  rw [HM.out] at HR ⊢
  have hm : m ≤ 2 := by rw [← HM.out]; exact uses_few _
  go_loopw [12] (fun kv wr => ∃ k : Nat, kv = .int .i64 k ∧ k ≤ m ∧ Hid (New w7 wr) ∧ Hid (∀ i (hi : i < (usesL ⟨o, kd, ka, kb, nn, t⟩).length), i < k → (l (usesL ⟨o, kd, ka, kb, nn, t⟩)[i].toNat).1 = true)) (fun kv _ => m - (intOf kv).toNat)
  case atStart => exact ⟨0, rfl, by omega, Lib.hid (New.refl _), Lib.hid (fun i _ hi => absurd hi (Nat.not_lt_zero _))⟩
  case round =>
    obtain ⟨k, rfl, hk, HNr, HB⟩ := hrel
    replace FR := Lib.hid (FR.out.grow HNr.out)
    have hne := newW_any wr
    have c0 : ∀ y : NewW wr, y.val.cell? ⟨g4, 0, none⟩ = some (.slice a1 24 a3) := fun y => (FR.out.grow y.property).cells.1
    by_cases hlt : k < m
    · have hlt' : (k : Int) < (m : Int) := by omega
      obtain ⟨pa, v, e, hix7, hcell⟩ := RowAt.ix HR.out 107 Tryz.underlying107 Tryz.sizeOf3 (i := k) hlt
      obtain ⟨j, hj, ej⟩ := HPL.out k _ (List.getElem?_eq_getElem (by rw [HM.out]; exact hlt))
      have ev : v = .int .i64 (j : Int) := by
        rw [List.getElem?_map, List.getElem?_eq_getElem (by rw [HM.out]; exact hlt), ej] at e
        exact (Option.some.inj e).symm
      subst ev
      have hc : ∀ y : NewW wr, y.val.cell? pa = some (.int .i64 (j : Int)) := fun y => hcell _ (HNr.out.trans y.property)
      obtain ⟨jb, jf, hixJ, hrgJ⟩ := ElAt.ix (show ElAt w (.slice a1 24 a3) 24 (fun i => wcells (l i)) from HW.out w (New.refl w)) 42 Tryz.underlying42 sizeWd hj
      have cJ : ∀ y : NewW wr, y.val.cell? ⟨jb, jf, none⟩ = some (.bool (l j).1) := fun y => hrgJ _ (FR.out.new.trans y.property) 0 _ rfl
      have HE := Lib.hid ej
      clear e hcell ej hrgJ
      cases hq : (l j).1 with
      | true =>
        rw [hq] at cJ
        have HQ := Lib.hid hq
        clear hq
        go_wp2_with fail
        refine wp_region_new (New.refl wr) (by kernel_rfl) (by kernel_rfl) ?_
        repeat (go_big_quiet_step (first | fail))
        refine wpQuiet_nil ?_
        intro w8 hn8
        go_wp2
        go_roundw
        case rel => exact ⟨k + 1, by go_num, hlt, Lib.hid (HNr.out.trans hn8), Lib.hid (fun i hi h1 => by
          by_cases e : i = k
          · subst e; rw [HE.out]; exact HQ.out
          · exact HB.out i hi (by omega))⟩
        case measure => simp [intOf]; omega
      | false =>
        rw [hq] at cJ
        have HT : Hid (stp f ⟨l, zs, p, q⟩ az = ⟨⟨l, zs, p, q⟩, [], 2, 0, []⟩) := Lib.hid (stp_un HIX.out (knw_no (by rw [HM.out]; exact hlt) (by rw [HE.out]; exact hq)))
        clear hq
        go_wp2_with fail
        refine wp_region_new (New.refl wr) (by kernel_rfl) (by kernel_rfl) ?_
        repeat (go_big_quiet_step (first | fail))
        refine wpQuiet_nil ?_
        intro w8 hn8
        replace FR := Lib.hid (FR.out.grow hn8)
        have Tr1 : Hid True := Lib.hid trivial
        have Tr2 : Hid True := Lib.hid trivial
        have Tr3 : Hid True := Lib.hid trivial
        go_wp2_with (first
          | (clear Tr1; refine wpList_ldRf rfl (.tmp 4) rfl g4 rfl FR.out.st ?_)
          | (clear Tr2; refine wpList_stRf rfl rfl (.tmp 6) (.tmp 118) rfl g6 rfl ⟨a1, 24, a3⟩ s p q rfl FR.out.res ?_; intro wz Hz kz)
          | (clear Tr3; refine wpList_stO rfl rfl (.tmp 8) (.tmp 119) rfl g8 rfl (2) (0) nilS rfl (HasC.kept FR.out.out kz (Ne.symm D.out.d68)) ?_; intro wo Ho ko))
        have NO : New w wo := ko.below _ D.out.n8 (kz.below _ D.out.n6 FR.out.new)
        exact bodyPost_ret (results_ctc (p := 6) (u := 7) (v := 8) rfl _ _ g6 g8 _ (.slice none 0 0) _ rfl (loadVar_C (HasC.kept Hz ko D.out.d68) Tryz.underlying44 rfl infoRf) rfl rfl (loadVar_C Ho Tryz.underlying31 rfl infoOut)) rfl (Dm.of HT.out (HW.out _ NO) (HP.out _ NO) (EvAt.nil _) (Hp.nil _) NO (.inl rfl) (.inl rfl) (.inl rfl) (.inr (.inl rfl)))
    · have hlt' : ¬ (k : Int) < (m : Int) := by omega
      have HK : Hid (knwB ⟨o, kd, ka, kb, nn, t⟩ l = true) := Lib.hid (knw_all (fun i hi => HB.out i hi (by rw [HM.out] at hi; omega)))
      obtain ⟨ab, af, hixA, hrgA⟩ := ElAt.ix (show ElAt w (.slice a1 24 a3) 24 (fun i => wcells (l i)) from HW.out w (New.refl w)) 42 Tryz.underlying42 sizeWd hka
      obtain ⟨bb, bf, hixB, hrgB⟩ := ElAt.ix (show ElAt w (.slice a1 24 a3) 24 (fun i => wcells (l i)) from HW.out w (New.refl w)) 42 Tryz.underlying42 sizeWd hkb
      have cA : ∀ y : NewW wr, y.val.cell? ⟨ab, af + 1, none⟩ = some (.int .i64 (l ka).2) := fun y => hrgA _ (FR.out.new.trans y.property) 1 _ rfl
      have cB : ∀ y : NewW wr, y.val.cell? ⟨bb, bf + 1, none⟩ = some (.int .i64 (l kb).2) := fun y => hrgB _ (FR.out.new.trans y.property) 1 _ rfl
      have cxa : ∀ y : NewW wr, y.val.cell? ⟨g9, 2, none⟩ = some (.int .i64 (ka : Int)) := fun y => (FR.out.grow y.property).cells.2.2.2.2.2.2.1
      have cxb : ∀ y : NewW wr, y.val.cell? ⟨g9, 3, none⟩ = some (.int .i64 (kb : Int)) := fun y => (FR.out.grow y.property).cells.2.2.2.2.2.2.2.1
      go_wp2_with fail
      refine wp_region_new (New.refl wr) (by kernel_rfl) (by kernel_rfl) ?_
      repeat (go_big_quiet_step (first | fail))
      refine wpQuiet_nil ?_
      intro wy hn8
      replace FR := Lib.hid (FR.out.grow hn8)
      clear c0 cA cB cxa cxb hixA hixB hrgA hrgB hn8 hne HB HNr HR HM HPL hm hk hlt hlt'
      obtain ⟨c0, c1, c2, c3, d0, d1, d2, d3, d4, d5⟩ := FR.out.cells
      have hop : o = 18 ∨ o = 17 ∨ o = 14 ∨ o = 15 ∨ o = 13 ∨ (4 ≤ o ∧ o ≤ 12) := by have := HO.out; omega
      clear HO q16 q1 q2 q3
      rcases hop with rfl | rfl | rfl | rfl | rfl | hop
      · have HT : Hid (stp f ⟨l, zs, p, q⟩ az = ⟨⟨l, zs, p, q⟩, [], 1, (l ka).2, zs⟩) := Lib.hid (by have := stp_ret (f := f) (s := ⟨l, zs, p, q⟩) (az := az) HIX.out HK.out (m2 := ⟨l, zs, p + 1, q⟩) (es := []) (by simp [flw]); rw [this]; simp)
        go_wp2_with fail
        have F0 := Lib.hid (FR.out.grow ((New.refl wy).drew))
        have S0 : Hid (New w wy.drew ∧ HasRf wy.drew g4 ⟨a1, 24, a3⟩ s p q) := Lib.hid ⟨F0.out.new, F0.out.st⟩
        refine wp_region_noPanic ?_
        refine wp_region_held_drew (S := fun w' => New w w' ∧ HasRf w' g4 ⟨a1, 24, a3⟩ s p q) (by kernel_rfl) S0.out (fun _ => ?_)
        refine wpAnyH_take (i := 0) (v := .agg (refC ⟨a1, 24, a3⟩ s p q).toArray) rfl (by kernel_rfl) (by kernel_rfl) (by kernel_rfl) (fun _ _ _ h => h) (ldC4_if rfl (.tmp 4) rfl g4 rfl (fun w' h => h.2)) S0.out ?_
        simp only [List.getElem_toArray, List.getElem_cons_zero, Act.put, List.setIfInBounds_toArray, List.set_cons_zero, List.set_cons_succ]
        refine wpAnyH_take (i := 1) (v := .int .i64 (l ka).2) rfl (by kernel_rfl) (by kernel_rfl) (by kernel_rfl) (fun _ _ _ h => h) (Or.inl ⟨rfl, fun _ _ => by go_simp⟩) S0.out ?_
        simp only [List.getElem_toArray, List.getElem_cons_zero, List.getElem_cons_succ, Act.put, List.setIfInBounds_toArray, List.set_cons_zero, List.set_cons_succ]
        refine wpAnyH_take (i := 2) (v := .pointer (some ⟨g4, 1, none⟩)) rfl (by kernel_rfl) (by kernel_rfl) (by kernel_rfl) (fun _ _ _ h => h) (Or.inl ⟨rfl, fun _ _ => by go_simp⟩) S0.out ?_
        simp only [List.getElem_toArray, List.getElem_cons_zero, List.getElem_cons_succ, Act.put, List.setIfInBounds_toArray, List.set_cons_zero, List.set_cons_succ]
        refine wpAnyH_take (i := 3) (v := .slice s.ao s.n s.c) rfl (by kernel_rfl) (by kernel_rfl) (by kernel_rfl) (fun _ _ _ h => h) (ldC_if rfl 24 Tryz.isAgg24 (.tmp 139) rfl ⟨g4, 1, none⟩ rfl (fun w' h => HasRf.hp h.2)) S0.out ?_
        simp only [List.getElem_toArray, List.getElem_cons_zero, List.getElem_cons_succ, Act.put, List.setIfInBounds_toArray, List.set_cons_zero, List.set_cons_succ]
        refine wpAnyH_take (i := 4) (v := .agg #[.int .i64 1, .int .i64 (l ka).2, .slice s.ao s.n s.c]) rfl (by kernel_rfl) (by kernel_rfl) (by kernel_rfl) (fun _ _ _ h => h) (Or.inl ⟨rfl, fun _ _ => by go_simp⟩) S0.out ?_
        simp only [List.getElem_toArray, List.getElem_cons_zero, List.getElem_cons_succ, Act.put, List.setIfInBounds_toArray, List.set_cons_zero, List.set_cons_succ]
        refine wpAnyH_forced [5, 6, 7] _ _ _ S0.out (by kernel_rfl) (by simp) ?_
        simp only [List.map_cons, List.map_nil, Array.getD_eq_getD_getElem?, List.getElem?_toArray, List.getElem?_cons_succ, List.getElem?_cons_zero, Option.getD_some]
        refine wpLS_stX rfl rfl _ (.tmp 6) (.tmp 137) rfl g6 rfl _ rfl F0.out.res (refC ⟨a1, 24, a3⟩ s p q) rfl (by simp [refC]) (by simp [refC, Value.oneCell']) infoRf ?_
        intro wz Hz kz
        refine ⟨⟨kz.below _ D.out.n6 F0.out.new, HasC.kept F0.out.st kz D.out.d46⟩, ?_⟩
        refine wpLS_value rfl (.slice none 0 0) ⟨kz.below _ D.out.n6 F0.out.new, HasC.kept F0.out.st kz D.out.d46⟩ (by go_simp) ?_
        simp only [Act.put, List.setIfInBounds_toArray, List.set_cons_zero, List.set_cons_succ]
        refine wpLS_stX rfl rfl _ (.tmp 8) (.tmp 141) rfl g8 rfl _ rfl (HasC.kept F0.out.out kz (Ne.symm D.out.d68)) (outC 1 (l ka).2 s) rfl (by simp [outC]) (by simp [outC, Value.oneCell']) infoOut ?_
        intro wo Ho ko
        refine ⟨⟨ko.below _ D.out.n8 (kz.below _ D.out.n6 F0.out.new), HasC.kept (HasC.kept F0.out.st kz D.out.d46) ko D.out.d48⟩, ?_⟩
        refine wpLS_nil ?_
        refine NoPanic.normal ?_
        replace FR := F0
        go_wp2
        have NO : New w wo := ko.below _ D.out.n8 (kz.below _ D.out.n6 FR.out.new)
        exact bodyPost_ret (results_ctc (p := 6) (u := 7) (v := 8) rfl _ _ g6 g8 _ (.slice none 0 0) _ rfl (loadVar_C (HasC.kept Hz ko D.out.d68) Tryz.underlying44 rfl infoRf) rfl rfl (loadVar_C Ho Tryz.underlying31 rfl infoOut)) rfl (Dm.of HT.out (HW.out _ NO) (HP.out _ NO) (EvAt.nil _) (HP.out _ NO) NO (.inl rfl) (.inl rfl) (.inl rfl) (.inl rfl))
      · by_cases hz : (l ka).2 = 0
        · have qa : ((l ka).2 == 0) = true := beq_of hz
          have HT : Hid (stp f ⟨l, zs, p, q⟩ az = ⟨⟨l, zs, t, q⟩, [], 0, 0, []⟩) := Lib.hid (stp_go HIX.out HK.out (by simp [flw, hz]))
          clear hz
          have Tr1 : Hid True := Lib.hid trivial
          have Tr2 : Hid True := Lib.hid trivial
          have Tr3 : Hid True := Lib.hid trivial
          have Tr4 : Hid True := Lib.hid trivial
          go_wp2_with (first
            | (clear Tr1; refine wpList_stR2 rfl rfl (.tmp 149) (.tmp 148) rfl g10 rfl t rfl FR.out.nx ?_; intro wy Hy ky; replace FR := Lib.hid (FR.out.turn D.out Hy ky); obtain ⟨c0, c1, c2, c3, d0, d1, d2, d3, d4, d5⟩ := FR.out.cells)
            | (clear Tr2; refine wpList_ldRf rfl (.tmp 10) rfl g10 rfl FR.out.nx ?_)
            | (clear Tr3; refine wpList_stRf rfl rfl (.tmp 6) (.tmp 150) rfl g6 rfl ⟨a1, 24, a3⟩ s (t) q rfl FR.out.res ?_; intro wz Hz kz)
            | (clear Tr4; refine wpList_stO rfl rfl (.tmp 8) (.tmp 151) rfl g8 rfl (0) (0) nilS rfl (HasC.kept FR.out.out kz (Ne.symm D.out.d68)) ?_; intro wo Ho ko))
          have NO : New w wo := ko.below _ D.out.n8 (kz.below _ D.out.n6 FR.out.new)
          exact bodyPost_ret (results_ctc (p := 6) (u := 7) (v := 8) rfl _ _ g6 g8 _ (.slice none 0 0) _ rfl (loadVar_C (HasC.kept Hz ko D.out.d68) Tryz.underlying44 rfl infoRf) rfl rfl (loadVar_C Ho Tryz.underlying31 rfl infoOut)) rfl (Dm.of HT.out (HW.out _ NO) (HP.out _ NO) (EvAt.nil _) (Hp.nil _) NO (.inl rfl) (.inl rfl) (.inl rfl) (.inr (.inl rfl)))
        · have qa : ((l ka).2 == 0) = false := bneq_of hz
          have HT : Hid (stp f ⟨l, zs, p, q⟩ az = ⟨⟨l, zs, p + 1, q⟩, [], 0, 0, []⟩) := Lib.hid (stp_go HIX.out HK.out (by simp [flw, hz]))
          clear hz
          have Tr1 : Hid True := Lib.hid trivial
          have Tr2 : Hid True := Lib.hid trivial
          have Tr3 : Hid True := Lib.hid trivial
          go_wp2_with (first
            | (clear Tr1; refine wpList_ldRf rfl (.tmp 10) rfl g10 rfl FR.out.nx ?_)
            | (clear Tr2; refine wpList_stRf rfl rfl (.tmp 6) (.tmp 150) rfl g6 rfl ⟨a1, 24, a3⟩ s (p + 1) q rfl FR.out.res ?_; intro wz Hz kz)
            | (clear Tr3; refine wpList_stO rfl rfl (.tmp 8) (.tmp 151) rfl g8 rfl (0) (0) nilS rfl (HasC.kept FR.out.out kz (Ne.symm D.out.d68)) ?_; intro wo Ho ko))
          have NO : New w wo := ko.below _ D.out.n8 (kz.below _ D.out.n6 FR.out.new)
          exact bodyPost_ret (results_ctc (p := 6) (u := 7) (v := 8) rfl _ _ g6 g8 _ (.slice none 0 0) _ rfl (loadVar_C (HasC.kept Hz ko D.out.d68) Tryz.underlying44 rfl infoRf) rfl rfl (loadVar_C Ho Tryz.underlying31 rfl infoOut)) rfl (Dm.of HT.out (HW.out _ NO) (HP.out _ NO) (EvAt.nil _) (Hp.nil _) NO (.inl rfl) (.inl rfl) (.inl rfl) (.inr (.inl rfl)))
      · obtain ⟨mm, HMM⟩ : ∃ mm, Hid ((hpSt zs (l ka).2 (l kb).2).length = mm) := ⟨_, Lib.hid rfl⟩
        rcases hpHow_cases zs (l ka).2 with ⟨hh, _⟩ | ⟨hh, _⟩
        · have HT : Hid (stp f ⟨l, zs, p, q⟩ az = ⟨⟨l, hpSt zs (l ka).2 (l kb).2, p + 1, q⟩, [], 0, 0, []⟩) := Lib.hid (stp_go HIX.out HK.out (by simp [flw, hh]))
          have HH := Lib.hid hh
          clear hh
          have Tr1 : Hid True := Lib.hid trivial
          have Tr2 : Hid True := Lib.hid trivial
          have Tr3 : Hid True := Lib.hid trivial
          have Tr4 : Hid True := Lib.hid trivial
          go_wp2_with (first
            | (go_at_call 55; have b6 := HasC.lt FR.out.res; have b8 := HasC.lt FR.out.out; have b10 := HasC.lt FR.out.nx; refine (rstore_fr (HP.out _ FR.out.new) HMM.out HH.out).mono ?_; rintro e w7 ⟨so, sc, rfl, hs7, hn, hfr⟩; have HS7 := Lib.hid hs7; have HFR := Lib.hid hfr; clear hs7 hfr; replace FR := Lib.hid (FR.out.grow hn); clear hn; obtain ⟨c0, c1, c2, c3, d0, d1, d2, d3, d4, d5⟩ := FR.out.cells)
            | (clear Tr1; refine wpList_stR1 rfl rfl (.tmp 169) (.tmp 168) rfl g10 rfl ⟨so, mm, sc⟩ rfl FR.out.nx ?_; intro wy Hy ky; replace HS7 := Lib.hid (Hp.far HS7.out HFR.out b10 ky.other); replace FR := Lib.hid (FR.out.turn D.out Hy ky); obtain ⟨c0, c1, c2, c3, d0, d1, d2, d3, d4, d5⟩ := FR.out.cells)
            | (clear Tr2; refine wpList_ldRf rfl (.tmp 10) rfl g10 rfl FR.out.nx ?_)
            | (clear Tr3; refine wpList_stRf rfl rfl (.tmp 6) (.tmp 170) rfl g6 rfl ⟨a1, 24, a3⟩ ⟨so, mm, sc⟩ (p + 1) q rfl FR.out.res ?_; intro wz Hz kz)
            | (clear Tr4; refine wpList_stO rfl rfl (.tmp 8) (.tmp 171) rfl g8 rfl (0) (0) nilS rfl (HasC.kept FR.out.out kz (Ne.symm D.out.d68)) ?_; intro wo Ho ko))
          have NO : New w wo := ko.below _ D.out.n8 (kz.below _ D.out.n6 FR.out.new)
          exact bodyPost_ret (results_ctc (p := 6) (u := 7) (v := 8) rfl _ _ g6 g8 _ (.slice none 0 0) _ rfl (loadVar_C (HasC.kept Hz ko D.out.d68) Tryz.underlying44 rfl infoRf) rfl rfl (loadVar_C Ho Tryz.underlying31 rfl infoOut)) rfl (Dm.of HT.out (HW.out _ NO) (Hp.far (Hp.far HS7.out HFR.out b6 kz.other) HFR.out b8 ko.other) (EvAt.nil _) (Hp.nil _) NO (.inl rfl) (.inr (HFR.out.mono (Nat.le_trans D.out.n6 (Nat.le_of_lt b6)))) (.inl rfl) (.inr (.inl rfl)))
        · have HT : Hid (stp f ⟨l, zs, p, q⟩ az = ⟨⟨l, zs, p, q⟩, [], 4, 0, []⟩) := Lib.hid (stp_end HIX.out HK.out (m2 := ⟨l, hpSt zs (l ka).2 (l kb).2, p + 1, q⟩) (es := []) (by simp [flw, hh]) (by decide) (by decide))
          have HH := Lib.hid hh
          clear hh
          have Tr1 : Hid True := Lib.hid trivial
          have Tr2 : Hid True := Lib.hid trivial
          have Tr3 : Hid True := Lib.hid trivial
          go_wp2_with (first
            | (go_at_call 55; have b6 := HasC.lt FR.out.res; have b8 := HasC.lt FR.out.out; have b10 := HasC.lt FR.out.nx; refine (rstore_fr (HP.out _ FR.out.new) HMM.out HH.out).mono ?_; rintro e w7 ⟨so, sc, rfl, hs7, hn, hfr⟩; have HS7 := Lib.hid hs7; have HFR := Lib.hid hfr; clear hs7 hfr; replace FR := Lib.hid (FR.out.grow hn); clear hn; obtain ⟨c0, c1, c2, c3, d0, d1, d2, d3, d4, d5⟩ := FR.out.cells)
            | (clear Tr1; refine wpList_ldRf rfl (.tmp 4) rfl g4 rfl FR.out.st ?_)
            | (clear Tr2; refine wpList_stRf rfl rfl (.tmp 6) (.tmp 165) rfl g6 rfl ⟨a1, 24, a3⟩ s p q rfl FR.out.res ?_; intro wz Hz kz)
            | (clear Tr3; refine wpList_stO rfl rfl (.tmp 8) (.tmp 167) rfl g8 rfl (4) (0) nilS rfl (HasC.kept FR.out.out kz (Ne.symm D.out.d68)) ?_; intro wo Ho ko))
          have NO : New w wo := ko.below _ D.out.n8 (kz.below _ D.out.n6 FR.out.new)
          exact bodyPost_ret (results_ctc (p := 6) (u := 7) (v := 8) rfl _ _ g6 g8 _ (.slice none 0 0) _ rfl (loadVar_C (HasC.kept Hz ko D.out.d68) Tryz.underlying44 rfl infoRf) rfl rfl (loadVar_C Ho Tryz.underlying31 rfl infoOut)) rfl (Dm.of HT.out (HW.out _ NO) (HP.out _ NO) (EvAt.nil _) (Hp.nil _) NO (.inl rfl) (.inl rfl) (.inl rfl) (.inr (.inl rfl)))
      · by_cases hqa : (bn : Int) ≤ q
        · have HT : Hid (stp f ⟨l, zs, p, q⟩ az = ⟨⟨l, zs, p, q⟩, [], 5, 0, []⟩) := Lib.hid (stp_end HIX.out HK.out (m2 := ⟨l, zs, p + 1, q⟩) (es := []) (by simp [flw, show (az.length : Int) ≤ q from by have := HAL.out; omega]) (by decide) (by decide))
          have Tr1 : Hid True := Lib.hid trivial
          have Tr2 : Hid True := Lib.hid trivial
          have Tr3 : Hid True := Lib.hid trivial
          go_wp2_with (first
            | (clear Tr1; refine wpList_ldRf rfl (.tmp 4) rfl g4 rfl FR.out.st ?_)
            | (clear Tr2; refine wpList_stRf rfl rfl (.tmp 6) (.tmp 180) rfl g6 rfl ⟨a1, 24, a3⟩ s p q rfl FR.out.res ?_; intro wz Hz kz)
            | (clear Tr3; refine wpList_stO rfl rfl (.tmp 8) (.tmp 181) rfl g8 rfl (5) (0) nilS rfl (HasC.kept FR.out.out kz (Ne.symm D.out.d68)) ?_; intro wo Ho ko))
          have NO : New w wo := ko.below _ D.out.n8 (kz.below _ D.out.n6 FR.out.new)
          exact bodyPost_ret (results_ctc (p := 6) (u := 7) (v := 8) rfl _ _ g6 g8 _ (.slice none 0 0) _ rfl (loadVar_C (HasC.kept Hz ko D.out.d68) Tryz.underlying44 rfl infoRf) rfl rfl (loadVar_C Ho Tryz.underlying31 rfl infoOut)) rfl (Dm.of HT.out (HW.out _ NO) (HP.out _ NO) (EvAt.nil _) (Hp.nil _) NO (.inl rfl) (.inl rfl) (.inl rfl) (.inr (.inl rfl)))
        · obtain ⟨ya, y, ey, hixy, hcy⟩ := Hp.ix (HA.out _ (New.refl w)) (i := q.toNat) (by have := HAL.out; omega)
          rw [show ((q.toNat : Nat) : Int) = q from by omega] at hixy
          have HCA := Lib.hid hcy
          have cY := hcy _ FR.out.new
          have HT : Hid (stp f ⟨l, zs, p, q⟩ az = ⟨⟨updW l kd (true, y), zs, p + 1, q + 1⟩, [(nn, (l ka).2, y)], 0, 0, []⟩) := Lib.hid (stp_go HIX.out HK.out (by simp [flw, show ¬ (az.length : Int) ≤ q from by have := HAL.out; omega, ey]))
          clear ey hcy
          have Tr1 : Hid True := Lib.hid trivial
          have Tr2 : Hid True := Lib.hid trivial
          go_wp2_with (first
            | (go_at_call 53; have b6 := HasC.lt FR.out.res; have b8 := HasC.lt FR.out.out; have b10 := HasC.lt FR.out.nx; refine (refWith_any l kd hkd (true, y) ⟨a1, 24, a3⟩ _ (HW.out _ FR.out.new)).mono ?_; rintro e w7 ⟨a7, rfl, hws, hn, hfar⟩; have HWS := Lib.hid hws; have HFS := Lib.hid hfar; clear hws hfar; replace FR := Lib.hid (FR.out.grow hn); clear hn; obtain ⟨c0, c1, c2, c3, d0, d1, d2, d3, d4, d5⟩ := FR.out.cells)
            | (clear Tr1; refine wpList_stR3 rfl rfl (.tmp 190) (.tmp 189) rfl g10 rfl (q + 1) rfl FR.out.nx ?_; intro wy Hy ky; replace FR := Lib.hid (FR.out.turn D.out Hy ky); obtain ⟨c0, c1, c2, c3, d0, d1, d2, d3, d4, d5⟩ := FR.out.cells; have cY := HCA.out _ FR.out.new)
            | (clear Tr2; refine wpList_stR0 rfl rfl (.tmp 198) (.tmp 197) rfl g10 rfl a7 rfl FR.out.nx ?_; intro wy Hy ky; replace HWS := Lib.hid (WsAt.far HWS.out HFS.out b10 ky.other); replace FR := Lib.hid (FR.out.turn D.out Hy ky); obtain ⟨c0, c1, c2, c3, d0, d1, d2, d3, d4, d5⟩ := FR.out.cells))
          have F0 := Lib.hid (FR.out.grow ((New.refl _).drew))
          have S0 : Hid (New w wy.drew ∧ HasRf wy.drew g10 a7 s (p + 1) (q + 1) ∧ Has wy.drew g9 ⟨15, kd, ka, kb, nn, t⟩) := Lib.hid ⟨F0.out.new, F0.out.nx, F0.out.ins⟩
          refine wp_region_noPanic ?_
          refine wp_region_held_drew (S := fun w' => New w w' ∧ HasRf w' g10 a7 s (p + 1) (q + 1) ∧ Has w' g9 ⟨15, kd, ka, kb, nn, t⟩) (by kernel_rfl) S0.out (fun _ => ?_)
          refine wpAnyH_take (i := 0) (v := .agg (refC a7 s (p + 1) (q + 1)).toArray) rfl (by kernel_rfl) (by kernel_rfl) (by kernel_rfl) (fun _ _ _ h => h) (ldC4_if rfl (.tmp 10) rfl g10 rfl (fun w' h => h.2.1)) S0.out ?_
          simp only [List.getElem_toArray, List.getElem_cons_zero, Act.put, List.setIfInBounds_toArray, List.set_cons_zero, List.set_cons_succ]
          refine wpAnyH_take (i := 1) (v := .pointer (some ⟨g9, 4, none⟩)) rfl (by kernel_rfl) (by kernel_rfl) (by kernel_rfl) (fun _ _ _ h => h) (Or.inl ⟨rfl, fun _ _ => by go_simp⟩) S0.out ?_
          simp only [List.getElem_toArray, List.getElem_cons_zero, List.getElem_cons_succ, Act.put, List.setIfInBounds_toArray, List.set_cons_zero, List.set_cons_succ]
          refine wpAnyH_take (i := 2) (v := .int .i64 nn) rfl (by kernel_rfl) (by kernel_rfl) (by kernel_rfl) (fun _ _ _ h => h) (ldC_if rfl 2 Tryz.isAgg2 (.tmp 200) rfl ⟨g9, 4, none⟩ rfl (fun w' h => h.2.2.cell4)) S0.out ?_
          simp only [List.getElem_toArray, List.getElem_cons_zero, List.getElem_cons_succ, Act.put, List.setIfInBounds_toArray, List.set_cons_zero, List.set_cons_succ]
          refine wpAnyH_take (i := 3) (v := .int .i64 (l ka).2) rfl (by kernel_rfl) (by kernel_rfl) (by kernel_rfl) (fun _ _ _ h => h) (Or.inl ⟨rfl, fun _ _ => by go_simp⟩) S0.out ?_
          simp only [List.getElem_toArray, List.getElem_cons_zero, List.getElem_cons_succ, Act.put, List.setIfInBounds_toArray, List.set_cons_zero, List.set_cons_succ]
          refine wpAnyH_take (i := 4) (v := .int .i64 y) rfl (by kernel_rfl) (by kernel_rfl) (by kernel_rfl) (fun _ _ _ h => h) (Or.inl ⟨rfl, fun _ _ => by go_simp⟩) S0.out ?_
          simp only [List.getElem_toArray, List.getElem_cons_zero, List.getElem_cons_succ, Act.put, List.setIfInBounds_toArray, List.set_cons_zero, List.set_cons_succ]
          refine wpAnyH_take (i := 5) (v := .agg #[.int .i64 nn, .int .i64 (l ka).2, .int .i64 y]) rfl (by kernel_rfl) (by kernel_rfl) (by kernel_rfl) (fun _ _ _ h => h) (Or.inl ⟨rfl, fun _ _ => by go_simp⟩) S0.out ?_
          simp only [List.getElem_toArray, List.getElem_cons_zero, List.getElem_cons_succ, Act.put, List.setIfInBounds_toArray, List.set_cons_zero, List.set_cons_succ]
          refine wpAnyH_take (i := 7) (v := .agg #[.int .i64 0, .int .i64 0, .slice none 0 0]) rfl (by kernel_rfl) (by kernel_rfl) (by kernel_rfl) (fun _ _ _ h => h) (Or.inl ⟨rfl, fun _ _ => by go_simp⟩) S0.out ?_
          simp only [List.getElem_toArray, List.getElem_cons_zero, List.getElem_cons_succ, Act.put, List.setIfInBounds_toArray, List.set_cons_zero, List.set_cons_succ]
          have hbe : w.heap.size ≤ wy.drew.heap.size := F0.out.new.size
          have e6 := HasC.lt F0.out.res
          have e8 := HasC.lt F0.out.out
          have F1 := Lib.hid (F0.out.grow (alloc_new wy.drew (.cells #[.int .i64 nn, .int .i64 (l ka).2, .int .i64 y] 133)))
          have HE : Hid (HasC (wy.drew.alloc (.cells #[.int .i64 nn, .int .i64 (l ka).2, .int .i64 y] 133)) wy.drew.heap.size 133 (evCells (nn, (l ka).2, y))) := Lib.hid (HasC.box wy.drew _ [.int .i64 nn, .int .i64 (l ka).2, .int .i64 y])
          replace HWS := Lib.hid (HWS.out.new ((New.refl wy).drew.trans (alloc_new wy.drew (.cells #[.int .i64 nn, .int .i64 (l ka).2, .int .i64 y] 133))))
          have K3 := Kept.put wy.drew g6 (.cells (refC a7 s (p + 1) (q + 1)).toArray 44 (0, 0))
          refine wpAnyH_mkst (i := 6) (j := 8) rfl rfl rfl rfl rfl rfl (by kernel_rfl) (by kernel_rfl) (by kernel_rfl) (by decide) (fun b => .slice (some ⟨b, 0, none⟩) 1 1) (.cells #[.int .i64 nn, .int .i64 (l ka).2, .int .i64 y] 133) (fun wx => by go_simp) _ (.tmp 6) (.tmp 199) rfl g6 rfl _ rfl rfl rfl F0.out.res (refC a7 s (p + 1) (q + 1)) rfl (by simp [refC]) (by simp [refC, Value.oneCell']) infoRf ⟨F1.out.new, F1.out.nx, F1.out.ins⟩ ⟨K3.below _ D.out.n6 F0.out.new, HasC.kept F0.out.nx K3 (Ne.symm D.out.a6), (K3.other _ (Ne.symm D.out.d69)).trans F0.out.ins⟩ ?_
          obtain ⟨ge, hge⟩ : ∃ ge, ge = wy.drew.heap.size := ⟨_, rfl⟩
          rw [← hge] at HE hbe e6 e8 ⊢
          generalize wy.drew.alloc (.cells #[.int .i64 nn, .int .i64 (l ka).2, .int .i64 y] 133) = we at F1 HE HWS ⊢
          intro wz Hz kz
          simp only [Act.put, List.setIfInBounds_toArray, List.set_cons_zero, List.set_cons_succ]
          have S1 : Hid (New w wz ∧ HasRf wz g10 a7 s (p + 1) (q + 1) ∧ Has wz g9 ⟨15, kd, ka, kb, nn, t⟩) := Lib.hid ⟨kz.below _ D.out.n6 F1.out.new, HasC.kept F1.out.nx kz (Ne.symm D.out.a6), (kz.other _ (Ne.symm D.out.d69)).trans F1.out.ins⟩
          refine ⟨S1.out, ?_⟩
          refine wpAnyH_forced [9, 10] _ _ _ S1.out (by kernel_rfl) (by simp) ?_
          simp only [List.map_cons, List.map_nil, Array.getD_eq_getD_getElem?, List.getElem?_toArray, List.getElem?_cons_succ, List.getElem?_cons_zero, Option.getD_some]
          refine wpLS_value rfl (.slice (some ⟨ge, 0, none⟩) 1 1) S1.out (by go_simp) ?_
          simp only [Act.put, List.setIfInBounds_toArray, List.set_cons_zero, List.set_cons_succ]
          refine wpLS_stX rfl rfl _ (.tmp 8) (.tmp 206) rfl g8 rfl _ rfl (HasC.kept F1.out.out kz (Ne.symm D.out.d68)) (outC 0 0 nilS) rfl (by simp [outC]) (by simp [outC, Value.oneCell']) infoOut ?_
          intro wo Ho ko
          refine ⟨⟨ko.below _ D.out.n8 S1.out.1, HasC.kept S1.out.2.1 ko (Ne.symm D.out.a8), (ko.other _ (Ne.symm D.out.d89)).trans S1.out.2.2⟩, ?_⟩
          refine wpLS_nil ?_
          refine NoPanic.normal ?_
          replace FR := F1
          go_wp2
          have NO : New w wo := ko.below _ D.out.n8 (kz.below _ D.out.n6 FR.out.new)
          exact bodyPost_ret (results_ctc (p := 6) (u := 7) (v := 8) rfl _ _ g6 g8 _ (.slice (some ⟨ge, 0, none⟩) 1 1) _ rfl (loadVar_C (HasC.kept Hz ko D.out.d68) Tryz.underlying44 rfl infoRf) rfl rfl (loadVar_C Ho Tryz.underlying31 rfl infoOut)) rfl (Dm.of HT.out (WsAt.far (WsAt.far HWS.out HFS.out b6 kz.other) HFS.out b8 ko.other) (HP.out _ NO) (EvAt.one (HasC.kept (HasC.kept HE.out kz (Nat.ne_of_gt e6)) ko (Nat.ne_of_gt e8))) (Hp.nil _) NO (.inr (HFS.out.mono (Nat.le_trans D.out.n6 (Nat.le_of_lt b6)))) (.inl rfl) (.inr ⟨ge, 0, 1, 1, rfl, hbe⟩) (.inr (.inl rfl)))
      · obtain ⟨vv, HLD⟩ : ∃ vv, Hid (hpLd zs (l ka).2 = vv) := ⟨_, Lib.hid rfl⟩
        rcases hpHow_cases zs (l ka).2 with ⟨hh, _⟩ | ⟨hh, _⟩
        · have HT : Hid (stp f ⟨l, zs, p, q⟩ az = ⟨⟨updW l kd (true, vv), zs, p + 1, q⟩, [], 0, 0, []⟩) := Lib.hid (stp_go HIX.out HK.out (by simp [flw, hh, HLD.out]))
          have HH := Lib.hid hh
          clear hh
          have Tr1 : Hid True := Lib.hid trivial
          have Tr2 : Hid True := Lib.hid trivial
          have Tr3 : Hid True := Lib.hid trivial
          have Tr4 : Hid True := Lib.hid trivial
          go_wp2_with (first
            | (go_at_call 56; refine (refDo_any 13 (l ka).2 (l kb).2 _).mono ?_; rintro e w5 ⟨rfl, rfl⟩)
            | (go_at_call 57; refine (rload_is (HP.out _ FR.out.new) HLD.out HH.out).mono ?_; rintro e w6 ⟨rfl, rfl⟩)
            | (go_at_call 53; have b6 := HasC.lt FR.out.res; have b8 := HasC.lt FR.out.out; have b10 := HasC.lt FR.out.nx; refine (refWith_any l kd hkd (true, vv) ⟨a1, 24, a3⟩ _ (HW.out _ FR.out.new)).mono ?_; rintro e w7 ⟨a7, rfl, hws, hn, hfar⟩; have HWS := Lib.hid hws; have HFS := Lib.hid hfar; clear hws hfar; replace FR := Lib.hid (FR.out.grow hn); clear hn; obtain ⟨c0, c1, c2, c3, d0, d1, d2, d3, d4, d5⟩ := FR.out.cells)
            | (clear Tr1; refine wpList_stR0 rfl rfl (.tmp 237) (.tmp 236) rfl g10 rfl a7 rfl FR.out.nx ?_; intro wy Hy ky; replace HWS := Lib.hid (WsAt.far HWS.out HFS.out b10 ky.other); replace FR := Lib.hid (FR.out.turn D.out Hy ky); obtain ⟨c0, c1, c2, c3, d0, d1, d2, d3, d4, d5⟩ := FR.out.cells)
            | (clear Tr2; refine wpList_ldRf rfl (.tmp 10) rfl g10 rfl FR.out.nx ?_)
            | (clear Tr3; refine wpList_stRf rfl rfl (.tmp 6) (.tmp 238) rfl g6 rfl a7 s (p + 1) q rfl FR.out.res ?_; intro wz Hz kz)
            | (clear Tr4; refine wpList_stO rfl rfl (.tmp 8) (.tmp 239) rfl g8 rfl (0) (0) nilS rfl (HasC.kept FR.out.out kz (Ne.symm D.out.d68)) ?_; intro wo Ho ko))
          have NO : New w wo := ko.below _ D.out.n8 (kz.below _ D.out.n6 FR.out.new)
          exact bodyPost_ret (results_ctc (p := 6) (u := 7) (v := 8) rfl _ _ g6 g8 _ (.slice none 0 0) _ rfl (loadVar_C (HasC.kept Hz ko D.out.d68) Tryz.underlying44 rfl infoRf) rfl rfl (loadVar_C Ho Tryz.underlying31 rfl infoOut)) rfl (Dm.of HT.out (WsAt.far (WsAt.far HWS.out HFS.out b6 kz.other) HFS.out b8 ko.other) (HP.out _ NO) (EvAt.nil _) (Hp.nil _) NO (.inr (HFS.out.mono (Nat.le_trans D.out.n6 (Nat.le_of_lt b6)))) (.inl rfl) (.inl rfl) (.inr (.inl rfl)))
        · have HT : Hid (stp f ⟨l, zs, p, q⟩ az = ⟨⟨l, zs, p, q⟩, [], 4, 0, []⟩) := Lib.hid (stp_end HIX.out HK.out (m2 := ⟨updW l kd (true, vv), zs, p + 1, q⟩) (es := []) (by simp [flw, hh, HLD.out]) (by decide) (by decide))
          have HH := Lib.hid hh
          clear hh
          have Tr1 : Hid True := Lib.hid trivial
          have Tr2 : Hid True := Lib.hid trivial
          have Tr3 : Hid True := Lib.hid trivial
          go_wp2_with (first
            | (go_at_call 56; refine (refDo_any 13 (l ka).2 (l kb).2 _).mono ?_; rintro e w5 ⟨rfl, rfl⟩)
            | (go_at_call 57; refine (rload_is (HP.out _ FR.out.new) HLD.out HH.out).mono ?_; rintro e w6 ⟨rfl, rfl⟩)
            | (clear Tr1; refine wpList_ldRf rfl (.tmp 4) rfl g4 rfl FR.out.st ?_)
            | (clear Tr2; refine wpList_stRf rfl rfl (.tmp 6) (.tmp 227) rfl g6 rfl ⟨a1, 24, a3⟩ s p q rfl FR.out.res ?_; intro wz Hz kz)
            | (clear Tr3; refine wpList_stO rfl rfl (.tmp 8) (.tmp 229) rfl g8 rfl (4) (0) nilS rfl (HasC.kept FR.out.out kz (Ne.symm D.out.d68)) ?_; intro wo Ho ko))
          have NO : New w wo := ko.below _ D.out.n8 (kz.below _ D.out.n6 FR.out.new)
          exact bodyPost_ret (results_ctc (p := 6) (u := 7) (v := 8) rfl _ _ g6 g8 _ (.slice none 0 0) _ rfl (loadVar_C (HasC.kept Hz ko D.out.d68) Tryz.underlying44 rfl infoRf) rfl rfl (loadVar_C Ho Tryz.underlying31 rfl infoOut)) rfl (Dm.of HT.out (HW.out _ NO) (HP.out _ NO) (EvAt.nil _) (Hp.nil _) NO (.inl rfl) (.inl rfl) (.inl rfl) (.inr (.inl rfl)))
      · have q18 : (o == 18) = false := bneq_of (by omega)
        have q17 : (o == 17) = false := bneq_of (by omega)
        have q14 : (o == 14) = false := bneq_of (by omega)
        have q15 : (o == 15) = false := bneq_of (by omega)
        have q13 : (o == 13) = false := bneq_of (by omega)
        obtain ⟨vv, HLD⟩ : ∃ vv, Hid (doV o (l ka).2 (l kb).2 = vv) := ⟨_, Lib.hid rfl⟩
        rcases doH_cases (op := o) (b := (l kb).2) hop with hh | hh
        · have HT : Hid (stp f ⟨l, zs, p, q⟩ az = ⟨⟨updW l kd (true, vv), zs, p + 1, q⟩, [], 0, 0, []⟩) := Lib.hid (stp_go HIX.out HK.out (by rw [flw_num hop, hh, HLD.out]))
          have HH := Lib.hid hh
          clear hh hop
          have Tr1 : Hid True := Lib.hid trivial
          have Tr2 : Hid True := Lib.hid trivial
          have Tr3 : Hid True := Lib.hid trivial
          have Tr4 : Hid True := Lib.hid trivial
          go_wp2_with (first
            | (go_at_call 56; refine (refDo_any o (l ka).2 (l kb).2 _).mono ?_; rintro e w5 ⟨rfl, rfl⟩; rw [HLD.out, HH.out])
            | (go_at_call 53; have b6 := HasC.lt FR.out.res; have b8 := HasC.lt FR.out.out; have b10 := HasC.lt FR.out.nx; refine (refWith_any l kd hkd (true, vv) ⟨a1, 24, a3⟩ _ (HW.out _ FR.out.new)).mono ?_; rintro e w7 ⟨a7, rfl, hws, hn, hfar⟩; have HWS := Lib.hid hws; have HFS := Lib.hid hfar; clear hws hfar; replace FR := Lib.hid (FR.out.grow hn); clear hn; obtain ⟨c0, c1, c2, c3, d0, d1, d2, d3, d4, d5⟩ := FR.out.cells)
            | (clear Tr1; refine wpList_stR0 rfl rfl (.tmp 237) (.tmp 236) rfl g10 rfl a7 rfl FR.out.nx ?_; intro wy Hy ky; replace HWS := Lib.hid (WsAt.far HWS.out HFS.out b10 ky.other); replace FR := Lib.hid (FR.out.turn D.out Hy ky); obtain ⟨c0, c1, c2, c3, d0, d1, d2, d3, d4, d5⟩ := FR.out.cells)
            | (clear Tr2; refine wpList_ldRf rfl (.tmp 10) rfl g10 rfl FR.out.nx ?_)
            | (clear Tr3; refine wpList_stRf rfl rfl (.tmp 6) (.tmp 238) rfl g6 rfl a7 s (p + 1) q rfl FR.out.res ?_; intro wz Hz kz)
            | (clear Tr4; refine wpList_stO rfl rfl (.tmp 8) (.tmp 239) rfl g8 rfl (0) (0) nilS rfl (HasC.kept FR.out.out kz (Ne.symm D.out.d68)) ?_; intro wo Ho ko))
          have NO : New w wo := ko.below _ D.out.n8 (kz.below _ D.out.n6 FR.out.new)
          exact bodyPost_ret (results_ctc (p := 6) (u := 7) (v := 8) rfl _ _ g6 g8 _ (.slice none 0 0) _ rfl (loadVar_C (HasC.kept Hz ko D.out.d68) Tryz.underlying44 rfl infoRf) rfl rfl (loadVar_C Ho Tryz.underlying31 rfl infoOut)) rfl (Dm.of HT.out (WsAt.far (WsAt.far HWS.out HFS.out b6 kz.other) HFS.out b8 ko.other) (HP.out _ NO) (EvAt.nil _) (Hp.nil _) NO (.inr (HFS.out.mono (Nat.le_trans D.out.n6 (Nat.le_of_lt b6)))) (.inl rfl) (.inl rfl) (.inr (.inl rfl)))
        · have HT : Hid (stp f ⟨l, zs, p, q⟩ az = ⟨⟨l, zs, p, q⟩, [], 3, 0, []⟩) := Lib.hid (stp_end HIX.out HK.out (m2 := ⟨updW l kd (true, vv), zs, p + 1, q⟩) (es := []) (by rw [flw_num hop, hh, HLD.out]) (by decide) (by decide))
          have HH := Lib.hid hh
          clear hh hop
          have Tr1 : Hid True := Lib.hid trivial
          have Tr2 : Hid True := Lib.hid trivial
          have Tr3 : Hid True := Lib.hid trivial
          go_wp2_with (first
            | (go_at_call 56; refine (refDo_any o (l ka).2 (l kb).2 _).mono ?_; rintro e w5 ⟨rfl, rfl⟩; rw [HLD.out, HH.out])
            | (clear Tr1; refine wpList_ldRf rfl (.tmp 4) rfl g4 rfl FR.out.st ?_)
            | (clear Tr2; refine wpList_stRf rfl rfl (.tmp 6) (.tmp 227) rfl g6 rfl ⟨a1, 24, a3⟩ s p q rfl FR.out.res ?_; intro wz Hz kz)
            | (clear Tr3; refine wpList_stO rfl rfl (.tmp 8) (.tmp 229) rfl g8 rfl (3) (0) nilS rfl (HasC.kept FR.out.out kz (Ne.symm D.out.d68)) ?_; intro wo Ho ko))
          have NO : New w wo := ko.below _ D.out.n8 (kz.below _ D.out.n6 FR.out.new)
          exact bodyPost_ret (results_ctc (p := 6) (u := 7) (v := 8) rfl _ _ g6 g8 _ (.slice none 0 0) _ rfl (loadVar_C (HasC.kept Hz ko D.out.d68) Tryz.underlying44 rfl infoRf) rfl rfl (loadVar_C Ho Tryz.underlying31 rfl infoOut)) rfl (Dm.of HT.out (HW.out _ NO) (HP.out _ NO) (EvAt.nil _) (Hp.nil _) NO (.inl rfl) (.inl rfl) (.inl rfl) (.inr (.inl rfl)))
end Go.Proofs.YtlmnodbhfpgplaaGreatDoor
