/-
  The contract of step.Do: for every function, state and row of answers.
-/
import Derived.Test.YtdghhedenjgjiaaGreatDoorStepC
import Derived.Test.YtdghhedenjgjiaaGreatDoorFunIx
namespace Go.Proofs.YtdghhedenjgjiaaGreatDoor
open Go.RowKit

def outC (how val : Int) (s : Sl) : List Value := [.int .i64 how, .int .i64 val, .slice s.ao s.n s.c]
abbrev HasO (w : World) (g : Nat) (how val : Int) (s : Sl) : Prop := HasC w g 33 (outC how val s)
theorem infoOut : (Tryz.prog.info? 33).map (·.size) = some 3 := by kernel_rfl
theorem zeroO_run (w : World) : (zeroValue 33).run Tryz.prog w = .ok (.agg (outC 0 0 nilS).toArray) w := Tryz.zeroValue33 w
theorem wpList_stO {ops : Array Oper} {rest : List Oper} {op : Oper} {act : Act} {w : World} {Q : Exit → Act → World → Prop} (hgd : op.guard = none) (hdst : op.dst = none) (a b : Operand) (ho : op.op = .store 33 a b) (g : Nat) (hx : act.eval a = .pointer (some ⟨g, 0, none⟩)) (how val : Int) (s : Sl) (hy : act.eval b = .agg (outC how val s).toArray)
    {how' val' : Int} {s' : Sl} (h : HasO w g how' val' s') (hk : ∀ w', HasO w' g how val s → Kept g w w' → wpList Tryz.prog ops Q rest act w') : wpList Tryz.prog ops Q (op :: rest) act w :=
  wpList_stX hgd hdst _ a b ho g 0 hx _ hy h (outC how val s) rfl (by simp [outC]) (by simp [outC, Value.oneCell']) infoOut (by simp [outC]) hk
theorem results_ctct {fn : Func} {p u v r : Tmp} {ty ty' : TypeId} (h : fn.results = #[.cell p ty, .tmp u, .cell v ty', .tmp r]) (tmps : Array Value) (w : World) (g k : Nat) (x y z x4 : Value) (hp : tmps.getD p undef = .pointer (some ⟨g, 0, none⟩)) (hl : (loadVar ty ⟨g, 0, none⟩).run Tryz.prog w = .ok x w)
    (hu : tmps.getD u undef = y) (hv : tmps.getD v undef = .pointer (some ⟨k, 0, none⟩)) (hl' : (loadVar ty' ⟨k, 0, none⟩).run Tryz.prog w = .ok z w) (hr : tmps.getD r undef = x4) : (results fn tmps).run Tryz.prog w = .ok (.tuple #[x, y, z, x4]) w := by
  have hp' : tmps[p]?.getD undef = .pointer (some ⟨g, 0, none⟩) := by simpa using hp
  have hu' : tmps[u]?.getD undef = y := by simpa using hu
  have hv' : tmps[v]?.getD undef = .pointer (some ⟨k, 0, none⟩) := by simpa using hv
  have hr' : tmps[r]?.getD undef = x4 := by simpa using hr
  simp [results, h, hp', hu', hv', hr', asAddr, hl, hl']
/-- Do's variables. -/
structure Fd (w wx : World) (g4 g6 g8 : Nat) (l : Ws) (s : Sl) (p q : Int) : Prop where
  st : HasS wx g4 l s p q
  res : HasS wx g6 noWs nilS 0 0
  out : HasO wx g8 0 0 nilS
  new : New w wx
theorem Fd.grow {w wx wy : World} {g4 g6 g8 : Nat} {l : Ws} {s : Sl} {p q : Int} (h : Fd w wx g4 g6 g8 l s p q) (n : New wx wy) : Fd w wy g4 g6 g8 l s p q := ⟨HasC.new h.st n, HasC.new h.res n, HasC.new h.out n, h.new.trans n⟩
/-- What Do answers of a state that is right. -/
def Dn (w w' : World) (e : Ending) (r : Tl) : Prop :=
  ∃ (s' : Sl) (v : Value) (so : Sl), e = .returned (.tuple #[.agg (cellsS r.s.l s' r.s.p r.s.q).toArray, v, .agg (outC r.how r.val so).toArray, .int .i64 0]) ∧ Hp w' (.slice s'.ao s'.n s'.c) r.s.h ∧ EvAt w' v r.ev ∧ Hp w' (.slice so.ao so.n so.c) r.hp ∧ New w w' ∧ Fresh w.heap.size (.slice s'.ao s'.n s'.c) r.s.h ∧ Fresh w.heap.size v r.ev ∧ Fresh w.heap.size (.slice so.ao so.n so.c) r.hp
theorem Dn.of {w w' : World} {r : Tl} {l : Ws} {h oh : List Int} {p q how val : Int} {es : List Ev} {s so : Sl} {v : Value} (hr : r = ⟨⟨l, h, p, q⟩, es, how, val, oh⟩) (h1 : Hp w' (.slice s.ao s.n s.c) h) (h2 : EvAt w' v es) (h3 : Hp w' (.slice so.ao so.n so.c) oh) (h4 : New w w') (h5 : Fresh w.heap.size (.slice s.ao s.n s.c) h) (h6 : Fresh w.heap.size v es) (h7 : Fresh w.heap.size (.slice so.ao so.n so.c) oh) :
    Dn w w' (.returned (.tuple #[.agg (cellsS l s p q).toArray, v, .agg (outC how val so).toArray, .int .i64 0])) r := by
  subst hr
  exact ⟨s, v, so, rfl, h1, h2, h3, h4, h5, h6, h7⟩
theorem follow_is {l : Ws} {s : Sl} {p q o n t : Int} {kd ka kb : Nat} (hkd : kd < 24) (hka : ka < 24) (hkb : kb < 24) (hp0 : 0 ≤ p) (hp1 : p < 200) (hq0 : 0 ≤ q) (ho : 1 ≤ o ∧ o ≤ 18) {zs az : List Int} {ao : Option Addr} {an ac : Nat} {w : World}
    (hs : Hp w (.slice s.ao s.n s.c) zs) (ha : Hp w (.slice ao an ac) az) (hal : an ≤ 100000) {l2 : Ws} {z2 : List Int} {p2 q2 how : Int} {es : List Ev} (hr : flw ⟨o, kd, ka, kb, n, t⟩ ⟨l, zs, p, q⟩ az = (⟨l2, z2, p2, q2⟩, es, how)) :
    Calls Tryz.prog 36 #[.agg (cellsS l s p q).toArray, .agg #[.int .i64 o, .int .i64 kd, .int .i64 ka, .int .i64 kb, .int .i64 n, .int .i64 t], .slice ao an ac] w fun e w' =>
      ∃ (s' : Sl) (v : Value), e = .returned (.tuple #[.agg (cellsS l2 s' p2 q2).toArray, v, .int .i64 how]) ∧ Hp w' (.slice s'.ao s'.n s'.c) z2 ∧ EvAt w' v es ∧ New w w' ∧ (s' = s ∨ Fresh w.heap.size (.slice s'.ao s'.n s'.c) z2) ∧ Fresh w.heap.size v es := by
  refine (follow_in l s p q o n t kd ka kb hkd hka hkb hp0 hp1 hq0 ho zs az ao an ac w hs ha hal).mono ?_
  rw [hr]
  exact fun e w' h => h
theorem fresh_step {B C : Nat} {s1 s2 : Sl} {zs z2 : List Int} {w w' : World} (f : Fresh B (.slice s1.ao s1.n s1.c) zs) (h1 : Hp w (.slice s1.ao s1.n s1.c) zs) (h2 : Hp w' (.slice s2.ao s2.n s2.c) z2) (hs : s2 = s1 ∨ Fresh C (.slice s2.ao s2.n s2.c) z2) (hle : B ≤ C) : Fresh B (.slice s2.ao s2.n s2.c) z2 := by
  rcases hs with rfl | h
  · rcases f with rfl | h'
    · left
      have e1 := h1.len
      have e2 := h2.len
      exact List.length_eq_zero_iff.mp (by simp at e1; omega)
    · exact .inr h'
  · exact h.mono hle
theorem wpLS_stX {ops : Array Oper} {S : World → Prop} {Q : Exit → Act → World → Prop} {op : Oper} {rest : List Oper} {act : Act} {w : World} (hgd : op.guard = none) (hdst : op.dst = none) (t : TypeId) (a b : Operand) (ho : op.op = .store t a b) (g : Nat) (hx : act.eval a = .pointer (some ⟨g, 0, none⟩)) (u : Value) (hy : act.eval b = u)
    {ty : TypeId} {cs : List Value} (h : HasC w g ty cs) (xs : List Value) (hu : u.cells = xs.toArray) (hl : cs.length = xs.length) (h1 : ∀ v ∈ xs, v.oneCell' = true) (hi : (Tryz.prog.info? t).map (·.size) = some xs.length)
    (hk : ∀ w', HasC w' g ty xs → Kept g w w' → S w' ∧ wpLS Tryz.prog ops Q S rest act w') : wpLS Tryz.prog ops Q S (op :: rest) act w := by
  have hs := h.store 0 xs t u hu (by omega) h1 hi
  have hc : cs.take 0 ++ xs ++ cs.drop (0 + xs.length) = xs := by rw [List.take_zero, List.nil_append, List.drop_of_length_le (by omega), List.append_nil]
  rw [hc] at hs
  have hr : (execOp act.eval op).run Tryz.prog w = .ok .skip (putO w g (.cells xs.toArray ty (0, 0))) := by
    unfold execOp
    simp only [ho, hx, hy, hs, Sem.run_bind, Sem.run_pure, Result.andThen_ok]
  obtain ⟨h1, h2⟩ := hk _ (putO_same h) (Kept.put _ _ _)
  exact wpLS_skip hgd hr hdst h1 h2
theorem zeroS_lit : #[Value.bool false, .int .i64 0, Value.bool false, .int .i64 0, Value.bool false, .int .i64 0, Value.bool false, .int .i64 0, Value.bool false, .int .i64 0, Value.bool false, .int .i64 0, Value.bool false, .int .i64 0, Value.bool false, .int .i64 0, Value.bool false, .int .i64 0, Value.bool false, .int .i64 0, Value.bool false, .int .i64 0, Value.bool false, .int .i64 0, Value.bool false, .int .i64 0, Value.bool false, .int .i64 0, Value.bool false, .int .i64 0, Value.bool false, .int .i64 0, Value.bool false, .int .i64 0, Value.bool false, .int .i64 0, Value.bool false, .int .i64 0, Value.bool false, .int .i64 0, Value.bool false, .int .i64 0, Value.bool false, .int .i64 0, Value.bool false, .int .i64 0, Value.bool false, .int .i64 0, .slice none 0 0, .int .i64 0, .int .i64 0] = (cellsS noWs nilS 0 0).toArray := by kernel_rfl
set_option maxHeartbeats 16000000 in
set_option maxRecDepth 100000 in
theorem stepDo_bad (v : Value) (f : List I) (m : Mc) (s : Sl) (az : List Int) (va : Value) (w : World) (hl : Laid w) (hf : FunAt w v f) (hp : Hp w (.slice s.ao s.n s.c) m.h) (_ha : Hp w va az) (hm : mcB f m = false) :
    Calls Tryz.prog 12 #[v, .agg (cellsS m.l s m.p m.q).toArray, va] w fun e w' => e = .returned (.tuple #[.agg (cellsS noWs nilS 0 0).toArray, .slice none 0 0, .agg (outC 0 0 nilS).toArray, .int .i64 1]) ∧ New w w' := by
  obtain ⟨l, zs, p, q⟩ := m
  have HL := Lib.hid hl
  have HF := Lib.hid hf
  have HP := Lib.hid hp
  have T6 : Hid True := Lib.hid trivial
  have T15 : Hid True := Lib.hid trivial
  have hzS := zeroS_lit
  clear hl hf hp
  go_enter Tryz.func12, Tryz.ntmps12
  go_wp2_with (first
    | (refine wpList_boxX rfl 28 (.tmp 1) rfl (cellsS l s p q) rfl ?_; intro w1 g4 hg4 hl4 H4 hn1; have A4 := Lib.hid H4; clear H4)
    | (clear T6; refine wpList_alX rfl 28 rfl _ zeroS_run _ rfl ?_; intro w2 g6 hg6 hl6 H6 hn2; have A6 : Hid (HasS w2 g6 noWs nilS 0 0) := Lib.hid H6; clear H6)
    | (refine wpList_alX rfl 33 rfl _ zeroO_run _ rfl ?_; intro w3 g8 hg8 hl8 H8 hn3; have FD : Hid (Fd w w3 g4 g6 g8 l s p q) := Lib.hid ⟨HasC.new (HasC.new A4.out hn2) hn3, HasC.new A6.out hn3, H8, (hn1.trans hn2).trans hn3⟩; have d46 : g4 ≠ g6 := (by omega); have d48 : g4 ≠ g8 := (by omega); have d68 : g6 ≠ g8 := (by omega); have n4 : w.heap.size ≤ g4 := hg4; have n6 : w.heap.size ≤ g6 := Nat.le_trans hn1.size hg6; have n8 : w.heap.size ≤ g8 := Nat.le_trans (hn1.trans hn2).size hg8; clear H8 A4 A6 hg4 hg6 hg8 hl4 hl6 hl8 hn1 hn2 hn3)
    | (clear T15; refine wpList_ldS rfl (.tmp 4) rfl g4 rfl FD.out.st ?_)
    | (go_at_call 15; refine (stepRight_any _ f ⟨l, zs, p, q⟩ s _ (HL.out.new FD.out.new) (HF.out.new FD.out.new) (HP.out.new FD.out.new)).mono ?_; rw [hm]; rintro e w4 ⟨rfl, hn4⟩; replace FD := Lib.hid (FD.out.grow hn4); have c48 := HasS.hp FD.out.st; clear hn4)
    | (refine wpList_stS rfl rfl (.tmp 6) (.tmp 18) rfl g6 rfl (l := noWs) (s := nilS) (p := 0) (q := 0) (by exact congrArg Value.agg hzS) FD.out.res ?_; intro wz Hz kz)
    | (refine wpList_stO rfl rfl (.tmp 8) (.tmp 19) rfl g8 rfl (0) (0) nilS rfl (HasC.kept FD.out.out kz (Ne.symm d68)) ?_; intro wo Ho ko))
  refine bodyPost_ret (results_ctct (p := 6) (u := 7) (v := 8) (r := 9) rfl _ _ g6 g8 _ (.slice none 0 0) _ (.int .i64 1) rfl (loadVar_C (HasC.kept Hz ko d68) Tryz.underlying28 rfl (by rw [cellsS_len]; exact infoSt)) rfl rfl (loadVar_C Ho Tryz.underlying33 rfl infoOut) rfl) rfl ⟨rfl, ko.below _ n8 (kz.below _ n6 FD.out.new)⟩
set_option maxHeartbeats 16000000 in
set_option maxRecDepth 100000 in
theorem stepDo_in (ao : Option Addr) (n cap : Nat) (f : List I) (l : Ws) (zs : List Int) (p q : Int) (s : Sl) (az : List Int) (bo : Option Addr) (bn bc : Nat) (w : World) (hl : Laid w) (hf : FunAt w (.slice ao n cap) f) (hp : Hp w (.slice s.ao s.n s.c) zs) (ha : Hp w (.slice bo bn bc) az) (hal : bn ≤ 100000)
    (hm : mcB f ⟨l, zs, p, q⟩ = true) (o nn t : Int) (kd ka kb : Nat) (hkd : kd < 24) (hka : ka < 24) (hkb : kb < 24) (ho : 1 ≤ o ∧ o ≤ 18) (hx : insA f p = ⟨o, kd, ka, kb, nn, t⟩) :
    Calls Tryz.prog 12 #[.slice ao n cap, .agg (cellsS l s p q).toArray, .slice bo bn bc] w fun e w' => Dn w w' e (stp f ⟨l, zs, p, q⟩ az) := by
  have hmm := mc_iff.mp hm
  have hr := (right_iff.mp hmm.1).1
  have hp0 : 0 ≤ p := hmm.2.1
  have hpn : p < f.length := hmm.2.2.1
  have hp1 : p < 200 := by omega
  have hq0 : 0 ≤ q := hmm.2.2.2.2.1
  have h16 : s.n ≤ 16 := by
    have h1 : zs.length ≤ 16 := hmm.2.2.2.1
    have h2 := hp.len
    omega
  obtain ⟨fb, fo, x, ex, hix, hrg⟩ := FunAt.ix hf (i := p.toNat) (by have := hf.len; omega)
  rw [show ((p.toNat : Nat) : Int) = p from by omega] at hix
  have hxe : x = ⟨o, kd, ka, kb, nn, t⟩ := by
    rw [← hx]
    unfold insA
    rw [List.getD_eq_getElem?_getD, ex]
    rfl
  subst hxe
  have HL := Lib.hid hl
  have HF := Lib.hid hf
  have HP := Lib.hid hp
  have HA := Lib.hid ha
  have HX := Lib.hid hrg
  have HIX := Lib.hid hx
  have HPL : Hid (0 ≤ (ka : Int) ∧ (ka : Int) < 24 ∧ 0 ≤ (kb : Int) ∧ (kb : Int) < 24) := Lib.hid (by omega)
  have T6 : Hid True := Lib.hid trivial
  have T15 : Hid True := Lib.hid trivial
  have hka' : (ka : Int) < 24 := by omega
  have HO := Lib.hid ho
  clear hl hf hp ha hrg ex hmm hr hpn hx ho
  cases hk : knwB ⟨o, kd, ka, kb, nn, t⟩ l with
  | false =>
    have HT : Hid (stp f ⟨l, zs, p, q⟩ az = ⟨⟨l, zs, p, q⟩, [], 2, 0, []⟩) := Lib.hid (by unfold stp; simp only [HIX.out]; rw [if_pos hk])
    go_enter Tryz.func12, Tryz.ntmps12
    go_wp2_with (first
      | (refine wpList_boxX rfl 28 (.tmp 1) rfl (cellsS l s p q) rfl ?_; intro w1 g4 hg4 hl4 H4 hn1; have A4 := Lib.hid H4; clear H4)
      | (clear T6; refine wpList_alX rfl 28 rfl _ zeroS_run _ rfl ?_; intro w2 g6 hg6 hl6 H6 hn2; have A6 : Hid (HasS w2 g6 noWs nilS 0 0) := Lib.hid H6; clear H6)
      | (refine wpList_alX rfl 33 rfl _ zeroO_run _ rfl ?_; intro w3 g8 hg8 hl8 H8 hn3; have FD : Hid (Fd w w3 g4 g6 g8 l s p q) := Lib.hid ⟨HasC.new (HasC.new A4.out hn2) hn3, HasC.new A6.out hn3, H8, (hn1.trans hn2).trans hn3⟩; have d46 : g4 ≠ g6 := (by omega); have d48 : g4 ≠ g8 := (by omega); have d68 : g6 ≠ g8 := (by omega); have n4 : w.heap.size ≤ g4 := hg4; have n6 : w.heap.size ≤ g6 := Nat.le_trans hn1.size hg6; have n8 : w.heap.size ≤ g8 := Nat.le_trans (hn1.trans hn2).size hg8; clear H8 A4 A6 hg4 hg6 hg8 hl4 hl6 hl8 hn1 hn2 hn3)
      | (clear T15; refine wpList_ldS rfl (.tmp 4) rfl g4 rfl FD.out.st ?_)
      | (go_at_call 15; refine (stepRight_any _ f ⟨l, zs, p, q⟩ s _ (HL.out.new FD.out.new) (HF.out.new FD.out.new) (HP.out.new FD.out.new)).mono ?_; rw [hm]; rintro e w4 ⟨rfl, hn4⟩; replace FD := Lib.hid (FD.out.grow hn4); have c48 := HasS.hp FD.out.st; clear hn4)
      | (go_at_call 34; have b4 := HasC.lt FD.out.st; have b6 := HasC.lt FD.out.res; have b8 := HasC.lt FD.out.out; refine (copied_any (s := s) (HP.out.new FD.out.new) h16).mono ?_; rintro e w5 ⟨s1, rfl, hv, hn5, hf⟩; replace FD := Lib.hid (FD.out.grow hn5); have HV := Lib.hid hv; have HFr := Lib.hid hf; clear hv hf hn5)
      | (refine wpList_stHp rfl rfl (.tmp 23) (.tmp 22) rfl g4 rfl s1 rfl FD.out.st ?_; intro w6 H6 k6; replace HV := Lib.hid (Hp.far HV.out HFr.out b4 k6.other); replace FD : Hid (Fd w w6 g4 g6 g8 l s1 p q) := Lib.hid ⟨H6, HasC.kept FD.out.res k6 (Ne.symm d46), HasC.kept FD.out.out k6 (Ne.symm d48), k6.below _ n4 FD.out.new⟩; have c49 := HasS.at FD.out.st; clear H6 k6)
      | (refine wpList_ldE rfl (.tmp 27) rfl fb fo rfl (HX.out _ FD.out.new) ?_)
      | (refine wpList_alX rfl 72 rfl _ Tryz.zeroValue72 [.int .i64 0, .int .i64 0, .int .i64 0, .int .i64 0, .int .i64 0, .int .i64 0] rfl ?_; intro w7 g10 hg10 hl10 H10 hn7; have I10 := Lib.hid H10; have d10 : g6 < g10 ∧ g8 < g10 := ⟨Nat.lt_of_lt_of_le (HasC.lt FD.out.res) hg10, Nat.lt_of_lt_of_le (HasC.lt FD.out.out) hg10⟩; clear H10)
      | (refine wpList_stX rfl rfl 72 (.tmp 10) (.tmp 28) rfl g10 0 rfl _ rfl I10.out (cells6 ⟨o, kd, ka, kb, nn, t⟩) rfl (by simp [cells6]) (by simp [cells6, Value.oneCell']) (by rw [cells6_len]; exact infoI) (cs' := cells6 ⟨o, kd, ka, kb, nn, t⟩) (by simp [cells6]) ?_; intro w8 H8 k8; have hn8 : New w6 w8 := k8.below w6 hg10 hn7; replace FD := Lib.hid (FD.out.grow hn8); replace HV := Lib.hid (HV.out.new hn8); replace I10 : Hid (Has w8 g10 ⟨o, kd, ka, kb, nn, t⟩) := Lib.hid H8; clear H8 k8 hn8 hn7 hl10 hg10)
      | (refine wpList_ldS rfl (.tmp 4) rfl g4 rfl FD.out.st ?_)
      | (refine wpList_ldI rfl (.tmp 10) rfl g10 rfl I10.out ?_)
      | (go_at_call 35; refine (knowns_any l s1 p q ⟨o, kd, ka, kb, nn, t⟩ HPL.out _ (HL.out.new FD.out.new)).mono ?_; rw [hk]; rintro e w9 ⟨rfl, hn9⟩; replace FD := Lib.hid (FD.out.grow hn9); replace HV := Lib.hid (HV.out.new hn9); replace I10 := Lib.hid (I10.out.new hn9); clear hn9)
      | (refine wpList_stS rfl rfl (.tmp 6) (.tmp 33) rfl g6 rfl rfl FD.out.res ?_; intro wz Hz kz)
      | (refine wpList_stO rfl rfl (.tmp 8) (.tmp 34) rfl g8 rfl (2) (0) nilS rfl (HasC.kept FD.out.out kz (Ne.symm d68)) ?_; intro wo Ho ko))
    exact bodyPost_ret (results_ctct (p := 6) (u := 7) (v := 8) (r := 9) rfl _ _ g6 g8 _ (.slice none 0 0) _ (.int .i64 0) rfl (loadVar_C (HasC.kept Hz ko d68) Tryz.underlying28 rfl (by rw [cellsS_len]; exact infoSt)) rfl rfl (loadVar_C Ho Tryz.underlying33 rfl infoOut) rfl) rfl (Dn.of HT.out (Hp.far (Hp.far HV.out HFr.out b6 kz.other) HFr.out b8 ko.other) (EvAt.nil _) (Hp.nil _) (ko.below _ n8 (kz.below _ n6 FD.out.new)) (HFr.out.mono (Nat.le_trans n6 (Nat.le_of_lt b6))) (.inl rfl) (.inl rfl))
  | true =>
    obtain ⟨⟨⟨l2, z2, p2, q2⟩, es, how⟩, HR⟩ : ∃ r, Hid (flw ⟨o, kd, ka, kb, nn, t⟩ ⟨l, zs, p, q⟩ az = r) := ⟨_, Lib.hid rfl⟩
    by_cases h0 : how = 0
    · have q0 : (how == 0) = true := beq_of h0
      have HT : Hid (stp f ⟨l, zs, p, q⟩ az = ⟨⟨l2, z2, p2, q2⟩, es, 0, 0, []⟩) := Lib.hid (by unfold stp; simp only [HIX.out]; rw [if_neg (by rw [hk]; decide), HR.out, if_pos h0])
      clear h0
      go_enter Tryz.func12, Tryz.ntmps12
      go_wp2_with (first
        | (refine wpList_boxX rfl 28 (.tmp 1) rfl (cellsS l s p q) rfl ?_; intro w1 g4 hg4 hl4 H4 hn1; have A4 := Lib.hid H4; clear H4)
        | (clear T6; refine wpList_alX rfl 28 rfl _ zeroS_run _ rfl ?_; intro w2 g6 hg6 hl6 H6 hn2; have A6 : Hid (HasS w2 g6 noWs nilS 0 0) := Lib.hid H6; clear H6)
        | (refine wpList_alX rfl 33 rfl _ zeroO_run _ rfl ?_; intro w3 g8 hg8 hl8 H8 hn3; have FD : Hid (Fd w w3 g4 g6 g8 l s p q) := Lib.hid ⟨HasC.new (HasC.new A4.out hn2) hn3, HasC.new A6.out hn3, H8, (hn1.trans hn2).trans hn3⟩; have d46 : g4 ≠ g6 := (by omega); have d48 : g4 ≠ g8 := (by omega); have d68 : g6 ≠ g8 := (by omega); have n4 : w.heap.size ≤ g4 := hg4; have n6 : w.heap.size ≤ g6 := Nat.le_trans hn1.size hg6; have n8 : w.heap.size ≤ g8 := Nat.le_trans (hn1.trans hn2).size hg8; clear H8 A4 A6 hg4 hg6 hg8 hl4 hl6 hl8 hn1 hn2 hn3)
        | (clear T15; refine wpList_ldS rfl (.tmp 4) rfl g4 rfl FD.out.st ?_)
        | (go_at_call 15; refine (stepRight_any _ f ⟨l, zs, p, q⟩ s _ (HL.out.new FD.out.new) (HF.out.new FD.out.new) (HP.out.new FD.out.new)).mono ?_; rw [hm]; rintro e w4 ⟨rfl, hn4⟩; replace FD := Lib.hid (FD.out.grow hn4); have c48 := HasS.hp FD.out.st; clear hn4)
        | (go_at_call 34; have b4 := HasC.lt FD.out.st; have b6 := HasC.lt FD.out.res; have b8 := HasC.lt FD.out.out; refine (copied_any (s := s) (HP.out.new FD.out.new) h16).mono ?_; rintro e w5 ⟨s1, rfl, hv, hn5, hf⟩; replace FD := Lib.hid (FD.out.grow hn5); have HV := Lib.hid hv; have HFr := Lib.hid hf; have Z5 := Lib.hid hn5.size; clear hv hf hn5)
        | (refine wpList_stHp rfl rfl (.tmp 23) (.tmp 22) rfl g4 rfl s1 rfl FD.out.st ?_; intro w6 H6 k6; replace HV := Lib.hid (Hp.far HV.out HFr.out b4 k6.other); replace FD : Hid (Fd w w6 g4 g6 g8 l s1 p q) := Lib.hid ⟨H6, HasC.kept FD.out.res k6 (Ne.symm d46), HasC.kept FD.out.out k6 (Ne.symm d48), k6.below _ n4 FD.out.new⟩; have c49 := HasS.at FD.out.st; have Z6 := Lib.hid k6.size; clear H6 k6)
        | (refine wpList_ldE rfl (.tmp 27) rfl fb fo rfl (HX.out _ FD.out.new) ?_)
        | (refine wpList_alX rfl 72 rfl _ Tryz.zeroValue72 [.int .i64 0, .int .i64 0, .int .i64 0, .int .i64 0, .int .i64 0, .int .i64 0] rfl ?_; intro w7 g10 hg10 hl10 H10 hn7; have I10 := Lib.hid H10; have d10 : g6 < g10 ∧ g8 < g10 := ⟨Nat.lt_of_lt_of_le (HasC.lt FD.out.res) hg10, Nat.lt_of_lt_of_le (HasC.lt FD.out.out) hg10⟩; clear H10)
        | (refine wpList_stX rfl rfl 72 (.tmp 10) (.tmp 28) rfl g10 0 rfl _ rfl I10.out (cells6 ⟨o, kd, ka, kb, nn, t⟩) rfl (by simp [cells6]) (by simp [cells6, Value.oneCell']) (by rw [cells6_len]; exact infoI) (cs' := cells6 ⟨o, kd, ka, kb, nn, t⟩) (by simp [cells6]) ?_; intro w8 H8 k8; have hn8 : New w6 w8 := k8.below w6 hg10 hn7; replace FD := Lib.hid (FD.out.grow hn8); replace HV := Lib.hid (HV.out.new hn8); replace I10 : Hid (Has w8 g10 ⟨o, kd, ka, kb, nn, t⟩) := Lib.hid H8; have Z8 := Lib.hid hn8.size; clear H8 k8 hn8 hn7 hl10 hg10)
        | (refine wpList_ldS rfl (.tmp 4) rfl g4 rfl FD.out.st ?_)
        | (refine wpList_ldI rfl (.tmp 10) rfl g10 rfl I10.out ?_)
        | (go_at_call 35; refine (knowns_any l s1 p q ⟨o, kd, ka, kb, nn, t⟩ HPL.out _ (HL.out.new FD.out.new)).mono ?_; rw [hk]; rintro e w9 ⟨rfl, hn9⟩; replace FD := Lib.hid (FD.out.grow hn9); replace HV := Lib.hid (HV.out.new hn9); replace I10 := Lib.hid (I10.out.new hn9); have Z9 := Lib.hid hn9.size; clear hn9)
        | (go_at_call 36; refine (follow_is hkd hka hkb hp0 hp1 hq0 HO.out HV.out (HA.out.new FD.out.new) hal HR.out).mono ?_; rintro e w10 ⟨s2, ve, rfl, hh2, hev, hn10, hs2, hfe⟩; have HS2 := Lib.hid (fresh_step HFr.out HV.out hh2 hs2 (by have := Z5.out; have := Z6.out; have := Z8.out; have := Z9.out; omega)); have HFE := Lib.hid (hfe.mono (B := w4.heap.size) (by have := Z5.out; have := Z6.out; have := Z8.out; have := Z9.out; omega)); replace FD := Lib.hid (FD.out.grow hn10); replace HV := Lib.hid (HV.out.new hn10); replace I10 := Lib.hid (I10.out.new hn10); have HH := Lib.hid hh2; have HE := Lib.hid hev; clear hh2 hev hfe hs2 hn10)
        | (refine wpList_alX rfl 28 rfl _ zeroS_run _ rfl ?_; intro w11 g11 hg11 hl11 H11 hn11; have B11 : Hid (HasS w11 g11 noWs nilS 0 0) := Lib.hid H11; clear H11)
        | (refine wpList_stS rfl rfl (.tmp 11) (.tmp 40) rfl g11 rfl (l := l2) (s := s2) (p := p2) (q := q2) rfl B11.out ?_; intro w12 H12 k12; have hn12 : New w10 w12 := k12.below w10 hg11 hn11; replace FD := Lib.hid (FD.out.grow hn12); replace HV := Lib.hid (HV.out.new hn12); replace I10 := Lib.hid (I10.out.new hn12); replace HH := Lib.hid (HH.out.new hn12); replace HE := Lib.hid (HE.out.new hn12); replace B11 : Hid (HasS w12 g11 l2 s2 p2 q2) := Lib.hid H12; clear H12 k12 hn12 hn11 hg11 hl11)
        | (refine wpList_ldS rfl (.tmp 11) rfl g11 rfl B11.out ?_)
        | (refine wpList_stS rfl rfl (.tmp 6) (.tmp 46) rfl g6 rfl rfl FD.out.res ?_; intro wz Hz kz)
        | (refine wpList_stO rfl rfl (.tmp 8) (.tmp 48) rfl g8 rfl (0) (0) nilS rfl (HasC.kept FD.out.out kz (Ne.symm d68)) ?_; intro wo Ho ko))
      exact bodyPost_ret (results_ctct (p := 6) (u := 7) (v := 8) (r := 9) rfl _ _ g6 g8 _ (ve) _ (.int .i64 0) rfl (loadVar_C (HasC.kept Hz ko d68) Tryz.underlying28 rfl (by rw [cellsS_len]; exact infoSt)) rfl rfl (loadVar_C Ho Tryz.underlying33 rfl infoOut) rfl) rfl (Dn.of HT.out (Hp.far (Hp.far HH.out HS2.out b6 kz.other) HS2.out b8 ko.other) (EvAt.far (EvAt.far HE.out HFE.out b6 kz.other) HFE.out b8 ko.other) (Hp.nil _) (ko.below _ n8 (kz.below _ n6 FD.out.new)) (HS2.out.mono (Nat.le_trans n6 (Nat.le_of_lt b6))) (HFE.out.mono (Nat.le_trans n6 (Nat.le_of_lt b6))) (.inl rfl))
    · have q0 : (how == 0) = false := bneq_of h0
      by_cases h1 : how = 1
      · have q1 : (how == 1) = true := beq_of h1
        have HT : Hid (stp f ⟨l, zs, p, q⟩ az = ⟨⟨l, zs, p, q⟩, [], how, (l ka).2, zs⟩) := Lib.hid (by unfold stp; simp only [HIX.out]; rw [if_neg (by rw [hk]; decide), HR.out, if_neg h0, if_pos h1, h1]; rfl)
        clear h0 h1
        go_enter Tryz.func12, Tryz.ntmps12
        go_wp2_with (first
          | (refine wpList_boxX rfl 28 (.tmp 1) rfl (cellsS l s p q) rfl ?_; intro w1 g4 hg4 hl4 H4 hn1; have A4 := Lib.hid H4; clear H4)
          | (clear T6; refine wpList_alX rfl 28 rfl _ zeroS_run _ rfl ?_; intro w2 g6 hg6 hl6 H6 hn2; have A6 : Hid (HasS w2 g6 noWs nilS 0 0) := Lib.hid H6; clear H6)
          | (refine wpList_alX rfl 33 rfl _ zeroO_run _ rfl ?_; intro w3 g8 hg8 hl8 H8 hn3; have FD : Hid (Fd w w3 g4 g6 g8 l s p q) := Lib.hid ⟨HasC.new (HasC.new A4.out hn2) hn3, HasC.new A6.out hn3, H8, (hn1.trans hn2).trans hn3⟩; have d46 : g4 ≠ g6 := (by omega); have d48 : g4 ≠ g8 := (by omega); have d68 : g6 ≠ g8 := (by omega); have n4 : w.heap.size ≤ g4 := hg4; have n6 : w.heap.size ≤ g6 := Nat.le_trans hn1.size hg6; have n8 : w.heap.size ≤ g8 := Nat.le_trans (hn1.trans hn2).size hg8; clear H8 A4 A6 hg4 hg6 hg8 hl4 hl6 hl8 hn1 hn2 hn3)
          | (clear T15; refine wpList_ldS rfl (.tmp 4) rfl g4 rfl FD.out.st ?_)
          | (go_at_call 15; refine (stepRight_any _ f ⟨l, zs, p, q⟩ s _ (HL.out.new FD.out.new) (HF.out.new FD.out.new) (HP.out.new FD.out.new)).mono ?_; rw [hm]; rintro e w4 ⟨rfl, hn4⟩; replace FD := Lib.hid (FD.out.grow hn4); have c48 := HasS.hp FD.out.st; clear hn4)
          | (go_at_call 34; have b4 := HasC.lt FD.out.st; have b6 := HasC.lt FD.out.res; have b8 := HasC.lt FD.out.out; refine (copied_any (s := s) (HP.out.new FD.out.new) h16).mono ?_; rintro e w5 ⟨s1, rfl, hv, hn5, hf⟩; replace FD := Lib.hid (FD.out.grow hn5); have HV := Lib.hid hv; have HFr := Lib.hid hf; have Z5 := Lib.hid hn5.size; clear hv hf hn5)
          | (refine wpList_stHp rfl rfl (.tmp 23) (.tmp 22) rfl g4 rfl s1 rfl FD.out.st ?_; intro w6 H6 k6; replace HV := Lib.hid (Hp.far HV.out HFr.out b4 k6.other); replace FD : Hid (Fd w w6 g4 g6 g8 l s1 p q) := Lib.hid ⟨H6, HasC.kept FD.out.res k6 (Ne.symm d46), HasC.kept FD.out.out k6 (Ne.symm d48), k6.below _ n4 FD.out.new⟩; have c49 := HasS.at FD.out.st; have Z6 := Lib.hid k6.size; clear H6 k6)
          | (refine wpList_ldE rfl (.tmp 27) rfl fb fo rfl (HX.out _ FD.out.new) ?_)
          | (refine wpList_alX rfl 72 rfl _ Tryz.zeroValue72 [.int .i64 0, .int .i64 0, .int .i64 0, .int .i64 0, .int .i64 0, .int .i64 0] rfl ?_; intro w7 g10 hg10 hl10 H10 hn7; have I10 := Lib.hid H10; have d10 : g6 < g10 ∧ g8 < g10 := ⟨Nat.lt_of_lt_of_le (HasC.lt FD.out.res) hg10, Nat.lt_of_lt_of_le (HasC.lt FD.out.out) hg10⟩; clear H10)
          | (refine wpList_stX rfl rfl 72 (.tmp 10) (.tmp 28) rfl g10 0 rfl _ rfl I10.out (cells6 ⟨o, kd, ka, kb, nn, t⟩) rfl (by simp [cells6]) (by simp [cells6, Value.oneCell']) (by rw [cells6_len]; exact infoI) (cs' := cells6 ⟨o, kd, ka, kb, nn, t⟩) (by simp [cells6]) ?_; intro w8 H8 k8; have hn8 : New w6 w8 := k8.below w6 hg10 hn7; replace FD := Lib.hid (FD.out.grow hn8); replace HV := Lib.hid (HV.out.new hn8); replace I10 : Hid (Has w8 g10 ⟨o, kd, ka, kb, nn, t⟩) := Lib.hid H8; have Z8 := Lib.hid hn8.size; clear H8 k8 hn8 hn7 hl10 hg10)
          | (refine wpList_ldS rfl (.tmp 4) rfl g4 rfl FD.out.st ?_)
          | (refine wpList_ldI rfl (.tmp 10) rfl g10 rfl I10.out ?_)
          | (go_at_call 35; refine (knowns_any l s1 p q ⟨o, kd, ka, kb, nn, t⟩ HPL.out _ (HL.out.new FD.out.new)).mono ?_; rw [hk]; rintro e w9 ⟨rfl, hn9⟩; replace FD := Lib.hid (FD.out.grow hn9); replace HV := Lib.hid (HV.out.new hn9); replace I10 := Lib.hid (I10.out.new hn9); have Z9 := Lib.hid hn9.size; clear hn9)
          | (go_at_call 36; refine (follow_is hkd hka hkb hp0 hp1 hq0 HO.out HV.out (HA.out.new FD.out.new) hal HR.out).mono ?_; rintro e w10 ⟨s2, ve, rfl, hh2, hev, hn10, hs2, hfe⟩; have HS2 := Lib.hid (fresh_step HFr.out HV.out hh2 hs2 (by have := Z5.out; have := Z6.out; have := Z8.out; have := Z9.out; omega)); have HFE := Lib.hid (hfe.mono (B := w4.heap.size) (by have := Z5.out; have := Z6.out; have := Z8.out; have := Z9.out; omega)); replace FD := Lib.hid (FD.out.grow hn10); replace HV := Lib.hid (HV.out.new hn10); replace I10 := Lib.hid (I10.out.new hn10); have HH := Lib.hid hh2; have HE := Lib.hid hev; clear hh2 hev hfe hs2 hn10)
          | (refine wpList_alX rfl 28 rfl _ zeroS_run _ rfl ?_; intro w11 g11 hg11 hl11 H11 hn11; have B11 : Hid (HasS w11 g11 noWs nilS 0 0) := Lib.hid H11; clear H11)
          | (refine wpList_stS rfl rfl (.tmp 11) (.tmp 40) rfl g11 rfl (l := l2) (s := s2) (p := p2) (q := q2) rfl B11.out ?_; intro w12 H12 k12; have hn12 : New w10 w12 := k12.below w10 hg11 hn11; replace FD := Lib.hid (FD.out.grow hn12); replace HV := Lib.hid (HV.out.new hn12); replace I10 := Lib.hid (I10.out.new hn12); replace HH := Lib.hid (HH.out.new hn12); replace HE := Lib.hid (HE.out.new hn12); replace B11 : Hid (HasS w12 g11 l2 s2 p2 q2) := Lib.hid H12; clear H12 k12 hn12 hn11 hg11 hl11)
          | (refine wpList_ldS rfl (.tmp 11) rfl g11 rfl B11.out ?_))
        have S0 : Hid (HasS w12.drew g4 l s1 p q ∧ Has w12.drew g10 ⟨o, kd, ka, kb, nn, t⟩) := Lib.hid ⟨HasC.new FD.out.st ((New.refl w12).drew), I10.out.new ((New.refl w12).drew)⟩
        refine wp_region_noPanic ?_
        refine wp_region_held_drew (S := fun w' => HasS w' g4 l s1 p q ∧ Has w' g10 ⟨o, kd, ka, kb, nn, t⟩) (by kernel_rfl) S0.out (fun _ => ?_)
        refine wpAnyH_take (i := 0) (v := .agg (cellsS l s1 p q).toArray) rfl (by kernel_rfl) (by kernel_rfl) (by kernel_rfl) (fun _ _ _ h => h) (yieldsIf_load_mid (by rfl) _ _ rfl g4 0 rfl (cellsS l s1 p q) _ (fun w' h => HasC.all h.1) Tryz.underlying28 rfl (by rw [cellsS_len]; exact infoSt)) S0.out ?_
        simp only [List.getElem_toArray, List.getElem_cons_zero, Act.put, List.setIfInBounds_toArray, List.set_cons_zero, List.set_cons_succ]
        refine wpAnyH_take (i := 1) (v := .int .i64 how) rfl (by kernel_rfl) (by kernel_rfl) (by kernel_rfl) (fun _ _ _ h => h) (Or.inl ⟨rfl, fun _ _ => rfl⟩) S0.out ?_
        simp only [List.getElem_toArray, List.getElem_cons_zero, List.getElem_cons_succ, Act.put, List.setIfInBounds_toArray, List.set_cons_zero, List.set_cons_succ]
        refine wpAnyH_take (i := 2) (v := .pointer (some ⟨g10, 2, none⟩)) rfl (by kernel_rfl) (by kernel_rfl) (by kernel_rfl) (fun _ _ _ h => h) (Or.inl ⟨rfl, fun _ _ => by go_simp⟩) S0.out ?_
        simp only [List.getElem_toArray, List.getElem_cons_zero, List.getElem_cons_succ, Act.put, List.setIfInBounds_toArray, List.set_cons_zero, List.set_cons_succ]
        refine wpAnyH_take (i := 3) (v := .int .i64 (ka : Int)) rfl (by kernel_rfl) (by kernel_rfl) (by kernel_rfl) (fun _ _ _ h => h) (ldC_if rfl 3 Tryz.isAgg3 (.tmp 53) rfl ⟨g10, 2, none⟩ rfl (fun w' h => h.2.cell.2.2.1)) S0.out ?_
        simp only [List.getElem_toArray, List.getElem_cons_zero, List.getElem_cons_succ, Act.put, List.setIfInBounds_toArray, List.set_cons_zero, List.set_cons_succ]
        refine wpAnyH_take (i := 4) (v := .pointer (some ⟨g4, 0, none⟩)) rfl (by kernel_rfl) (by kernel_rfl) (by kernel_rfl) (fun _ _ _ h => h) (Or.inl ⟨rfl, fun _ _ => by go_simp⟩) S0.out ?_
        simp only [List.getElem_toArray, List.getElem_cons_zero, List.getElem_cons_succ, Act.put, List.setIfInBounds_toArray, List.set_cons_zero, List.set_cons_succ]
        refine wpAnyH_take (i := 5) (v := .pointer (some ⟨g4, ka * 2, none⟩)) rfl (by kernel_rfl) (by kernel_rfl) (by kernel_rfl) (fun _ _ _ h => h) (ixA_if rfl (.tmp 55) (.tmp 54) rfl g4 ka hka rfl rfl) S0.out ?_
        simp only [List.getElem_toArray, List.getElem_cons_zero, List.getElem_cons_succ, Act.put, List.setIfInBounds_toArray, List.set_cons_zero, List.set_cons_succ]
        refine wpAnyH_take (i := 6) (v := .pointer (some ⟨g4, ka * 2 + 1, none⟩)) rfl (by kernel_rfl) (by kernel_rfl) (by kernel_rfl) (fun _ _ _ h => h) (Or.inl ⟨rfl, fun _ _ => by go_simp⟩) S0.out ?_
        simp only [List.getElem_toArray, List.getElem_cons_zero, List.getElem_cons_succ, Act.put, List.setIfInBounds_toArray, List.set_cons_zero, List.set_cons_succ]
        refine wpAnyH_take (i := 7) (v := .int .i64 (l ka).2) rfl (by kernel_rfl) (by kernel_rfl) (by kernel_rfl) (fun _ _ _ h => h) (ldC_if rfl 2 Tryz.isAgg2 (.tmp 57) rfl ⟨g4, ka * 2 + 1, none⟩ rfl (fun w' h => HasS.num h.1 hka)) S0.out ?_
        simp only [List.getElem_toArray, List.getElem_cons_zero, List.getElem_cons_succ, Act.put, List.setIfInBounds_toArray, List.set_cons_zero, List.set_cons_succ]
        refine wpAnyH_take (i := 8) (v := .pointer (some ⟨g4, 48, none⟩)) rfl (by kernel_rfl) (by kernel_rfl) (by kernel_rfl) (fun _ _ _ h => h) (Or.inl ⟨rfl, fun _ _ => by go_simp⟩) S0.out ?_
        simp only [List.getElem_toArray, List.getElem_cons_zero, List.getElem_cons_succ, Act.put, List.setIfInBounds_toArray, List.set_cons_zero, List.set_cons_succ]
        refine wpAnyH_take (i := 9) (v := .slice s1.ao s1.n s1.c) rfl (by kernel_rfl) (by kernel_rfl) (by kernel_rfl) (fun _ _ _ h => h) (ldC_if rfl 26 Tryz.isAgg26 (.tmp 59) rfl ⟨g4, 48, none⟩ rfl (fun w' h => HasS.hp h.1)) S0.out ?_
        simp only [List.getElem_toArray, List.getElem_cons_zero, List.getElem_cons_succ, Act.put, List.setIfInBounds_toArray, List.set_cons_zero, List.set_cons_succ]
        have b61 : g6 < w12.drew.heap.size := HasC.lt FD.out.res
        have b81 : g8 < w12.drew.heap.size := HasC.lt FD.out.out
        refine wpAnyH_call (i := 10) rfl rfl (by kernel_rfl) 34 #[.slice s1.ao s1.n s1.c] (by go_simp) ?_
        refine (copied_any (s := s1) (HV.out.new ((New.refl w12).drew)) (by have h1 := HV.out.len; have h2 := HP.out.len; omega)).mono ?_
        rintro e w13 ⟨s3, rfl, hv3, hn13, hf3⟩
        have N13 := Lib.hid (((New.refl w12).drew).trans hn13)
        replace S0 : Hid (HasS w13 g4 l s1 p q ∧ Has w13 g10 ⟨o, kd, ka, kb, nn, t⟩) := Lib.hid ⟨HasC.new S0.out.1 hn13, S0.out.2.new hn13⟩
        refine ⟨_, rfl, S0.out, ?_⟩
        simp only [List.getElem_toArray, List.getElem_cons_zero, List.getElem_cons_succ, Act.put, List.setIfInBounds_toArray, List.set_cons_zero, List.set_cons_succ]
        refine wpAnyH_take (i := 11) (v := .agg (outC how (l ka).2 s3).toArray) rfl (by kernel_rfl) (by kernel_rfl) (by kernel_rfl) (fun _ _ _ h => h) (Or.inl ⟨rfl, fun _ _ => by go_simp; rfl⟩) S0.out ?_
        simp only [List.getElem_toArray, List.getElem_cons_zero, List.getElem_cons_succ, Act.put, List.setIfInBounds_toArray, List.set_cons_zero, List.set_cons_succ]
        refine wpAnyH_forced [12, 13, 14, 15] _ _ _ S0.out (by kernel_rfl) (by simp) ?_
        simp only [List.map_cons, List.map_nil, Array.getD_eq_getD_getElem?, List.getElem?_toArray, List.getElem?_cons_succ, List.getElem?_cons_zero, Option.getD_some]
        replace FD := Lib.hid (FD.out.grow N13.out)
        refine wpLS_stX rfl rfl 28 (.tmp 6) (.tmp 51) rfl g6 rfl _ rfl FD.out.res (cellsS l s1 p q) rfl (by rw [cellsS_len, cellsS_len]) (cellsS_one l s1 p q) (by rw [cellsS_len]; exact infoSt) ?_
        intro wz Hz kz
        have dg10 : g10 ≠ g6 := Nat.ne_of_gt d10.1
        have dg8 : g10 ≠ g8 := Nat.ne_of_gt d10.2
        have SZ : HasS wz g4 l s1 p q ∧ Has wz g10 ⟨o, kd, ka, kb, nn, t⟩ := ⟨HasC.kept S0.out.1 kz d46, (kz.other _ dg10).trans S0.out.2⟩
        refine ⟨SZ, ?_⟩
        refine wpLS_value rfl (.slice none 0 0) SZ (by go_simp) ?_
        simp only [Act.put, List.setIfInBounds_toArray, List.set_cons_zero, List.set_cons_succ]
        refine wpLS_stX rfl rfl 33 (.tmp 8) (.tmp 62) rfl g8 rfl _ rfl (HasC.kept FD.out.out kz (Ne.symm d68)) (outC how (l ka).2 s3) rfl (by simp [outC]) (by simp [outC, Value.oneCell']) infoOut ?_
        intro wo Ho ko
        have SO : HasS wo g4 l s1 p q ∧ Has wo g10 ⟨o, kd, ka, kb, nn, t⟩ := ⟨HasC.kept SZ.1 ko d48, (ko.other _ dg8).trans SZ.2⟩
        refine ⟨SO, ?_⟩
        refine wpLS_value rfl (.int .i64 0) SO (by go_simp) ?_
        simp only [Act.put, List.setIfInBounds_toArray, List.set_cons_zero, List.set_cons_succ]
        refine wpLS_nil ?_
        refine NoPanic.normal ?_
        go_wp2
        exact bodyPost_ret (results_ctct (p := 6) (u := 7) (v := 8) (r := 9) rfl _ _ g6 g8 _ (.slice none 0 0) _ (.int .i64 0) rfl (loadVar_C (HasC.kept Hz ko d68) Tryz.underlying28 rfl (by rw [cellsS_len]; exact infoSt)) rfl rfl (loadVar_C Ho Tryz.underlying33 rfl infoOut) rfl) rfl (Dn.of HT.out (Hp.far (Hp.far (HV.out.new N13.out) HFr.out b6 kz.other) HFr.out b8 ko.other) (EvAt.nil _) (Hp.far (Hp.far hv3 hf3 b61 kz.other) hf3 b81 ko.other) (ko.below _ n8 (kz.below _ n6 FD.out.new)) (HFr.out.mono (Nat.le_trans n6 (Nat.le_of_lt b6))) (.inl rfl) (hf3.mono (Nat.le_trans n6 (Nat.le_of_lt b61))))
      · have q1 : (how == 1) = false := bneq_of h1
        have HT : Hid (stp f ⟨l, zs, p, q⟩ az = ⟨⟨l, zs, p, q⟩, [], how, 0, []⟩) := Lib.hid (by unfold stp; simp only [HIX.out]; rw [if_neg (by rw [hk]; decide), HR.out, if_neg h0, if_neg h1])
        clear h0 h1
        go_enter Tryz.func12, Tryz.ntmps12
        go_wp2_with (first
          | (refine wpList_boxX rfl 28 (.tmp 1) rfl (cellsS l s p q) rfl ?_; intro w1 g4 hg4 hl4 H4 hn1; have A4 := Lib.hid H4; clear H4)
          | (clear T6; refine wpList_alX rfl 28 rfl _ zeroS_run _ rfl ?_; intro w2 g6 hg6 hl6 H6 hn2; have A6 : Hid (HasS w2 g6 noWs nilS 0 0) := Lib.hid H6; clear H6)
          | (refine wpList_alX rfl 33 rfl _ zeroO_run _ rfl ?_; intro w3 g8 hg8 hl8 H8 hn3; have FD : Hid (Fd w w3 g4 g6 g8 l s p q) := Lib.hid ⟨HasC.new (HasC.new A4.out hn2) hn3, HasC.new A6.out hn3, H8, (hn1.trans hn2).trans hn3⟩; have d46 : g4 ≠ g6 := (by omega); have d48 : g4 ≠ g8 := (by omega); have d68 : g6 ≠ g8 := (by omega); have n4 : w.heap.size ≤ g4 := hg4; have n6 : w.heap.size ≤ g6 := Nat.le_trans hn1.size hg6; have n8 : w.heap.size ≤ g8 := Nat.le_trans (hn1.trans hn2).size hg8; clear H8 A4 A6 hg4 hg6 hg8 hl4 hl6 hl8 hn1 hn2 hn3)
          | (clear T15; refine wpList_ldS rfl (.tmp 4) rfl g4 rfl FD.out.st ?_)
          | (go_at_call 15; refine (stepRight_any _ f ⟨l, zs, p, q⟩ s _ (HL.out.new FD.out.new) (HF.out.new FD.out.new) (HP.out.new FD.out.new)).mono ?_; rw [hm]; rintro e w4 ⟨rfl, hn4⟩; replace FD := Lib.hid (FD.out.grow hn4); have c48 := HasS.hp FD.out.st; clear hn4)
          | (go_at_call 34; have b4 := HasC.lt FD.out.st; have b6 := HasC.lt FD.out.res; have b8 := HasC.lt FD.out.out; refine (copied_any (s := s) (HP.out.new FD.out.new) h16).mono ?_; rintro e w5 ⟨s1, rfl, hv, hn5, hf⟩; replace FD := Lib.hid (FD.out.grow hn5); have HV := Lib.hid hv; have HFr := Lib.hid hf; have Z5 := Lib.hid hn5.size; clear hv hf hn5)
          | (refine wpList_stHp rfl rfl (.tmp 23) (.tmp 22) rfl g4 rfl s1 rfl FD.out.st ?_; intro w6 H6 k6; replace HV := Lib.hid (Hp.far HV.out HFr.out b4 k6.other); replace FD : Hid (Fd w w6 g4 g6 g8 l s1 p q) := Lib.hid ⟨H6, HasC.kept FD.out.res k6 (Ne.symm d46), HasC.kept FD.out.out k6 (Ne.symm d48), k6.below _ n4 FD.out.new⟩; have c49 := HasS.at FD.out.st; have Z6 := Lib.hid k6.size; clear H6 k6)
          | (refine wpList_ldE rfl (.tmp 27) rfl fb fo rfl (HX.out _ FD.out.new) ?_)
          | (refine wpList_alX rfl 72 rfl _ Tryz.zeroValue72 [.int .i64 0, .int .i64 0, .int .i64 0, .int .i64 0, .int .i64 0, .int .i64 0] rfl ?_; intro w7 g10 hg10 hl10 H10 hn7; have I10 := Lib.hid H10; have d10 : g6 < g10 ∧ g8 < g10 := ⟨Nat.lt_of_lt_of_le (HasC.lt FD.out.res) hg10, Nat.lt_of_lt_of_le (HasC.lt FD.out.out) hg10⟩; clear H10)
          | (refine wpList_stX rfl rfl 72 (.tmp 10) (.tmp 28) rfl g10 0 rfl _ rfl I10.out (cells6 ⟨o, kd, ka, kb, nn, t⟩) rfl (by simp [cells6]) (by simp [cells6, Value.oneCell']) (by rw [cells6_len]; exact infoI) (cs' := cells6 ⟨o, kd, ka, kb, nn, t⟩) (by simp [cells6]) ?_; intro w8 H8 k8; have hn8 : New w6 w8 := k8.below w6 hg10 hn7; replace FD := Lib.hid (FD.out.grow hn8); replace HV := Lib.hid (HV.out.new hn8); replace I10 : Hid (Has w8 g10 ⟨o, kd, ka, kb, nn, t⟩) := Lib.hid H8; have Z8 := Lib.hid hn8.size; clear H8 k8 hn8 hn7 hl10 hg10)
          | (refine wpList_ldS rfl (.tmp 4) rfl g4 rfl FD.out.st ?_)
          | (refine wpList_ldI rfl (.tmp 10) rfl g10 rfl I10.out ?_)
          | (go_at_call 35; refine (knowns_any l s1 p q ⟨o, kd, ka, kb, nn, t⟩ HPL.out _ (HL.out.new FD.out.new)).mono ?_; rw [hk]; rintro e w9 ⟨rfl, hn9⟩; replace FD := Lib.hid (FD.out.grow hn9); replace HV := Lib.hid (HV.out.new hn9); replace I10 := Lib.hid (I10.out.new hn9); have Z9 := Lib.hid hn9.size; clear hn9)
          | (go_at_call 36; refine (follow_is hkd hka hkb hp0 hp1 hq0 HO.out HV.out (HA.out.new FD.out.new) hal HR.out).mono ?_; rintro e w10 ⟨s2, ve, rfl, hh2, hev, hn10, hs2, hfe⟩; have HS2 := Lib.hid (fresh_step HFr.out HV.out hh2 hs2 (by have := Z5.out; have := Z6.out; have := Z8.out; have := Z9.out; omega)); have HFE := Lib.hid (hfe.mono (B := w4.heap.size) (by have := Z5.out; have := Z6.out; have := Z8.out; have := Z9.out; omega)); replace FD := Lib.hid (FD.out.grow hn10); replace HV := Lib.hid (HV.out.new hn10); replace I10 := Lib.hid (I10.out.new hn10); have HH := Lib.hid hh2; have HE := Lib.hid hev; clear hh2 hev hfe hs2 hn10)
          | (refine wpList_alX rfl 28 rfl _ zeroS_run _ rfl ?_; intro w11 g11 hg11 hl11 H11 hn11; have B11 : Hid (HasS w11 g11 noWs nilS 0 0) := Lib.hid H11; clear H11)
          | (refine wpList_stS rfl rfl (.tmp 11) (.tmp 40) rfl g11 rfl (l := l2) (s := s2) (p := p2) (q := q2) rfl B11.out ?_; intro w12 H12 k12; have hn12 : New w10 w12 := k12.below w10 hg11 hn11; replace FD := Lib.hid (FD.out.grow hn12); replace HV := Lib.hid (HV.out.new hn12); replace I10 := Lib.hid (I10.out.new hn12); replace HH := Lib.hid (HH.out.new hn12); replace HE := Lib.hid (HE.out.new hn12); replace B11 : Hid (HasS w12 g11 l2 s2 p2 q2) := Lib.hid H12; clear H12 k12 hn12 hn11 hg11 hl11)
          | (refine wpList_ldS rfl (.tmp 11) rfl g11 rfl B11.out ?_)
          | (refine wpList_stS rfl rfl (.tmp 6) (.tmp 63) rfl g6 rfl rfl FD.out.res ?_; intro wz Hz kz)
          | (refine wpList_stO rfl rfl (.tmp 8) (.tmp 65) rfl g8 rfl (how) (0) nilS rfl (HasC.kept FD.out.out kz (Ne.symm d68)) ?_; intro wo Ho ko))
        exact bodyPost_ret (results_ctct (p := 6) (u := 7) (v := 8) (r := 9) rfl _ _ g6 g8 _ (.slice none 0 0) _ (.int .i64 0) rfl (loadVar_C (HasC.kept Hz ko d68) Tryz.underlying28 rfl (by rw [cellsS_len]; exact infoSt)) rfl rfl (loadVar_C Ho Tryz.underlying33 rfl infoOut) rfl) rfl (Dn.of HT.out (Hp.far (Hp.far HV.out HFr.out b6 kz.other) HFr.out b8 ko.other) (EvAt.nil _) (Hp.nil _) (ko.below _ n8 (kz.below _ n6 FD.out.new)) (HFr.out.mono (Nat.le_trans n6 (Nat.le_of_lt b6))) (.inl rfl) (.inl rfl))
theorem stepDo_good (v : Value) (f : List I) (m : Mc) (s : Sl) (az : List Int) (va : Value) (w : World) (hl : Laid w) (hf : FunAt w v f) (hp : Hp w (.slice s.ao s.n s.c) m.h) (ha : Hp w va az) (hal : az.length ≤ 100000) (hm : mcB f m = true) :
    Calls Tryz.prog 12 #[v, .agg (cellsS m.l s m.p m.q).toArray, va] w fun e w' => Dn w w' e (stp f m az) := by
  obtain ⟨ao, cap, rfl⟩ := hf.form
  obtain ⟨bo, bc, rfl⟩ := ha.form
  obtain ⟨l, zs, p, q⟩ := m
  have hr := ri_at hm
  obtain ⟨⟨o, d, a, b, nn, t⟩, hx⟩ : ∃ x, insA f p = x := ⟨_, rfl⟩
  have hx' : insA f (Mc.p ⟨l, zs, p, q⟩) = ⟨o, d, a, b, nn, t⟩ := hx
  rw [hx'] at hr
  have h1 := hr.o1; have h2 := hr.o2; have h3 := hr.d0; have h4 := hr.d1; have h5 := hr.a0; have h6 := hr.a1; have h7 := hr.b0; have h8 := hr.b1
  simp only at h1 h2 h3 h4 h5 h6 h7 h8
  obtain ⟨kd, rfl⟩ : ∃ k : Nat, d = k := ⟨d.toNat, by omega⟩
  obtain ⟨ka, rfl⟩ : ∃ k : Nat, a = k := ⟨a.toNat, by omega⟩
  obtain ⟨kb, rfl⟩ : ∃ k : Nat, b = k := ⟨b.toNat, by omega⟩
  exact stepDo_in ao _ cap f l zs p q s az bo _ bc w hl hf hp ha hal hm o nn t kd ka kb (by omega) (by omega) (by omega) ⟨h1, h2⟩ hx
end Go.Proofs.YtdghhedenjgjiaaGreatDoor
