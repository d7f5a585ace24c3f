/-
  Cases and traces in memory; the contracts of run.Right and run.counted: for every argument.
-/
import Derived.Test.YtdghhedenjgjiaaGreatDoorRunRow
import Derived.Test.YtdghhedenjgjiaaGreatDoorRunMath
import Derived.Test.YtdghhedenjgjiaaGreatDoorInsMv
namespace Go.Proofs.YtdghhedenjgjiaaGreatDoor
open Go.RowKit

/-- A case's cells, a trace's. -/
def caC (rs : Nat → Int) (h a : Sl) (n : Int) : List Value := [.int .i64 (rs 0), .int .i64 (rs 1), .int .i64 (rs 2), .int .i64 (rs 3), .int .i64 (rs 4), .int .i64 (rs 5), .int .i64 (rs 6), .int .i64 (rs 7), .slice h.ao h.n h.c, .slice a.ao a.n a.c, .int .i64 n]
def trC (e : Sl) (how val : Int) (o : Sl) (st wk : Int) : List Value := [.slice e.ao e.n e.c, .int .i64 how, .int .i64 val, .slice o.ao o.n o.c, .int .i64 st, .int .i64 wk]
abbrev HasK (w : World) (g : Nat) (rs : Nat → Int) (h a : Sl) (n : Int) : Prop := HasC w g 50 (caC rs h a n)
abbrev HasTr (w : World) (g : Nat) (e : Sl) (how val : Int) (o : Sl) (st wk : Int) : Prop := HasC w g 53 (trC e how val o st wk)
theorem infoCa : (Tryz.prog.info? 50).map (·.size) = some 11 := by kernel_rfl
theorem infoTr : (Tryz.prog.info? 53).map (·.size) = some 6 := by kernel_rfl
theorem infoEs : (Tryz.prog.info? 31).map (·.size) = some 1 := by kernel_rfl
theorem infoA8 : (Tryz.prog.info? 48).map (·.size) = some 8 := by kernel_rfl
theorem zeroT_run (w : World) : (zeroValue 53).run Tryz.prog w = .ok (.agg (trC nilS 0 0 nilS 0 0).toArray) w := Tryz.zeroValue53 w
section
variable {w : World} {g : Nat} {rs : Nat → Int} {h a e o : Sl} {n hw' vl' st' wk' : Int}
theorem HasK.hp (k : HasK w g rs h a n) : w.cell? ⟨g, 8, none⟩ = some (.slice h.ao h.n h.c) := k.cell rfl
theorem HasK.an (k : HasK w g rs h a n) : w.cell? ⟨g, 9, none⟩ = some (.slice a.ao a.n a.c) := k.cell rfl
theorem HasK.fuel (k : HasK w g rs h a n) : w.cell? ⟨g, 10, none⟩ = some (.int .i64 n) := k.cell rfl
theorem HasTr.ev (k : HasTr w g e hw' vl' o st' wk') : w.cell? ⟨g, 0, none⟩ = some (.slice e.ao e.n e.c) := k.cell rfl
theorem HasTr.how (k : HasTr w g e hw' vl' o st' wk') : w.cell? ⟨g, 1, none⟩ = some (.int .i64 hw') := k.cell rfl
theorem HasTr.val (k : HasTr w g e hw' vl' o st' wk') : w.cell? ⟨g, 2, none⟩ = some (.int .i64 vl') := k.cell rfl
theorem HasTr.hp (k : HasTr w g e hw' vl' o st' wk') : w.cell? ⟨g, 3, none⟩ = some (.slice o.ao o.n o.c) := k.cell rfl
theorem HasTr.st (k : HasTr w g e hw' vl' o st' wk') : w.cell? ⟨g, 4, none⟩ = some (.int .i64 st') := k.cell rfl
theorem HasTr.wk (k : HasTr w g e hw' vl' o st' wk') : w.cell? ⟨g, 5, none⟩ = some (.int .i64 wk') := k.cell rfl
end
section
variable {ops : Array Oper} {rest : List Oper} {op : Oper} {act : Act} {w : World} {Q : Exit → Act → World → Prop}
theorem wpList_ldK (hw : Region.wanted op (yielded ops act.tmps) = true) (x : Operand) (ho : op.op = .load 50 x) (g : Nat) (hx : act.eval x = .pointer (some ⟨g, 0, none⟩)) {rs : Nat → Int} {h a : Sl} {n : Int} (k : HasK w g rs h a n)
    (hk : wpList Tryz.prog ops Q rest (act.put op.dst (.agg (caC rs h a n).toArray)) w) : wpList Tryz.prog ops Q (op :: rest) act w :=
  wpList_ldM hw _ x ho g 0 hx (caC rs h a n) _ k.all Tryz.underlying50 rfl infoCa hk
theorem wpList_ldT (hw : Region.wanted op (yielded ops act.tmps) = true) (x : Operand) (ho : op.op = .load 53 x) (g : Nat) (hx : act.eval x = .pointer (some ⟨g, 0, none⟩)) {e : Sl} {how val : Int} {o : Sl} {st wk : Int} (k : HasTr w g e how val o st wk)
    (hk : wpList Tryz.prog ops Q rest (act.put op.dst (.agg (trC e how val o st wk).toArray)) w) : wpList Tryz.prog ops Q (op :: rest) act w :=
  wpList_ldM hw _ x ho g 0 hx (trC e how val o st wk) _ k.all Tryz.underlying53 rfl infoTr hk
theorem wpList_ldOm (hw : Region.wanted op (yielded ops act.tmps) = true) (x : Operand) (ho : op.op = .load 33 x) (g : Nat) (hx : act.eval x = .pointer (some ⟨g, 0, none⟩)) {how val : Int} {o : Sl} (k : HasO w g how val o)
    (hk : wpList Tryz.prog ops Q rest (act.put op.dst (.agg (outC how val o).toArray)) w) : wpList Tryz.prog ops Q (op :: rest) act w :=
  wpList_ldM hw _ x ho g 0 hx (outC how val o) _ k.all Tryz.underlying33 rfl infoOut hk
theorem wpList_stT (hgd : op.guard = none) (hdst : op.dst = none) (x y : Operand) (ho : op.op = .store 53 x y) (g : Nat) (hx : act.eval x = .pointer (some ⟨g, 0, none⟩)) (e : Sl) (how val : Int) (o : Sl) (st wk : Int) (hy : act.eval y = .agg (trC e how val o st wk).toArray)
    {e' : Sl} {how' val' : Int} {o' : Sl} {st' wk' : Int} (h : HasTr w g e' how' val' o' st' wk') (hk : ∀ w', HasTr w' g e how val o st wk → Kept g w w' → wpList Tryz.prog ops Q rest act w') : wpList Tryz.prog ops Q (op :: rest) act w :=
  wpList_stX hgd hdst _ x y ho g 0 hx _ hy h (trC e how val o st wk) rfl (by simp [trC]) (by simp [trC, Value.oneCell']) infoTr (by simp [trC]) hk
theorem wpList_stTe (hgd : op.guard = none) (hdst : op.dst = none) (x y : Operand) (ho : op.op = .store 31 x y) (g : Nat) (hx : act.eval x = .pointer (some ⟨g, 0, none⟩)) (e : Sl) (hy : act.eval y = .slice e.ao e.n e.c)
    {e' : Sl} {how val : Int} {o : Sl} {st wk : Int} (h : HasTr w g e' how val o st wk) (hk : ∀ w', HasTr w' g e how val o st wk → Kept g w w' → wpList Tryz.prog ops Q rest act w') : wpList Tryz.prog ops Q (op :: rest) act w :=
  wpList_stX hgd hdst _ x y ho g 0 hx _ hy h [.slice e.ao e.n e.c] rfl (by simp [trC]) (by simp [Value.oneCell']) infoEs (by simp [trC]) hk
theorem wpList_stTo (hgd : op.guard = none) (hdst : op.dst = none) (x y : Operand) (ho : op.op = .store 33 x y) (g : Nat) (hx : act.eval x = .pointer (some ⟨g, 1, none⟩)) (how val : Int) (o : Sl) (hy : act.eval y = .agg (outC how val o).toArray)
    {e : Sl} {how' val' : Int} {o' : Sl} {st wk : Int} (h : HasTr w g e how' val' o' st wk) (hk : ∀ w', HasTr w' g e how val o st wk → Kept g w w' → wpList Tryz.prog ops Q rest act w') : wpList Tryz.prog ops Q (op :: rest) act w :=
  wpList_stX hgd hdst _ x y ho g 1 hx _ hy h (outC how val o) rfl (by simp [trC, outC]) (by simp [outC, Value.oneCell']) infoOut (by simp [trC, outC]) hk
theorem wpList_stTs (hgd : op.guard = none) (hdst : op.dst = none) (x y : Operand) (ho : op.op = .store 3 x y) (g : Nat) (hx : act.eval x = .pointer (some ⟨g, 4, none⟩)) (st : Int) (hy : act.eval y = .int .i64 st)
    {e : Sl} {how val : Int} {o : Sl} {st' wk : Int} (h : HasTr w g e how val o st' wk) (hk : ∀ w', HasTr w' g e how val o st wk → Kept g w w' → wpList Tryz.prog ops Q rest act w') : wpList Tryz.prog ops Q (op :: rest) act w :=
  wpList_stX hgd hdst _ x y ho g 4 hx _ hy h [.int .i64 st] rfl (by simp [trC]) (by simp [Value.oneCell']) infoIn (by simp [trC]) hk
theorem wpList_stTw (hgd : op.guard = none) (hdst : op.dst = none) (x y : Operand) (ho : op.op = .store 3 x y) (g : Nat) (hx : act.eval x = .pointer (some ⟨g, 5, none⟩)) (wk : Int) (hy : act.eval y = .int .i64 wk)
    {e : Sl} {how val : Int} {o : Sl} {st wk' : Int} (h : HasTr w g e how val o st wk') (hk : ∀ w', HasTr w' g e how val o st wk → Kept g w w' → wpList Tryz.prog ops Q rest act w') : wpList Tryz.prog ops Q (op :: rest) act w :=
  wpList_stX hgd hdst _ x y ho g 5 hx _ hy h [.int .i64 wk] rfl (by simp [trC]) (by simp [Value.oneCell']) infoIn (by simp [trC]) hk
theorem wpList_stKf (hgd : op.guard = none) (hdst : op.dst = none) (x y : Operand) (ho : op.op = .store 3 x y) (g : Nat) (hx : act.eval x = .pointer (some ⟨g, 10, none⟩)) (n : Int) (hy : act.eval y = .int .i64 n)
    {rs : Nat → Int} {h a : Sl} {n' : Int} (k : HasK w g rs h a n') (hk : ∀ w', HasK w' g rs h a n → Kept g w w' → wpList Tryz.prog ops Q rest act w') : wpList Tryz.prog ops Q (op :: rest) act w :=
  wpList_stX hgd hdst _ x y ho g 10 hx _ hy k [.int .i64 n] rfl (by simp [caC]) (by simp [Value.oneCell']) infoIn (by simp [caC]) hk
theorem wpList_stKa (hgd : op.guard = none) (hdst : op.dst = none) (x y : Operand) (ho : op.op = .store 26 x y) (g : Nat) (hx : act.eval x = .pointer (some ⟨g, 9, none⟩)) (a : Sl) (hy : act.eval y = .slice a.ao a.n a.c)
    {rs : Nat → Int} {h a' : Sl} {n : Int} (k : HasK w g rs h a' n) (hk : ∀ w', HasK w' g rs h a n → Kept g w w' → wpList Tryz.prog ops Q rest act w') : wpList Tryz.prog ops Q (op :: rest) act w :=
  wpList_stX hgd hdst _ x y ho g 9 hx _ hy k [.slice a.ao a.n a.c] rfl (by simp [caC]) (by simp [Value.oneCell']) infoHp (by simp [caC]) hk
end
def caseN (h a : Nat) (n : Int) : Bool := decide (h ≤ 16 ∧ a ≤ 5000 ∧ 0 ≤ n ∧ n ≤ 5000)
set_option maxHeartbeats 1000000 in
theorem runRight_any (rs : Nat → Int) (h a : Sl) (n : Int) (w : World) :
    Calls Tryz.prog 23 #[.agg (caC rs h a n).toArray] w fun e w' => e = .returned (.bool (caseN h.n a.n n)) ∧ New w w' := by
  obtain ⟨ho, hn, hc⟩ := h
  obtain ⟨ao, an, ac⟩ := a
  have go : ∀ b : Bool, decide (hn ≤ 16) = b → ((an : Int) ≤ 5000 ∨ ¬ (an : Int) ≤ 5000) → (0 ≤ n ∨ ¬ 0 ≤ n) → (n ≤ 5000 ∨ ¬ n ≤ 5000) → Calls Tryz.prog 23 #[.agg (caC rs ⟨ho, hn, hc⟩ ⟨ao, an, ac⟩ n).toArray] w fun e w' => e = .returned (.bool (b && decide ((an : Int) ≤ 5000) && decide (0 ≤ n) && decide (n ≤ 5000))) ∧ New w w' := by
    intro b hb c1 c2 c3
    have HB := Lib.hid hb
    clear hb
    cases b <;> rcases c1 with c1 | c1 <;> rcases c2 with c2 | c2 <;> rcases c3 with c3 | c3
    all_goals try (exfalso; omega)
    all_goals
      go_enter Tryz.func23, Tryz.ntmps23
      go_wp2_with (first
        | (refine wpList_boxX rfl 50 (.tmp 0) rfl (caC rs ⟨ho, hn, hc⟩ ⟨ao, an, ac⟩ n) rfl ?_; intro w1 g1 hg1 hl1 H1 hn1; have k1 := HasK.hp H1; have k2 := HasK.an H1; have k3 := HasK.fuel H1; have HS := Lib.hid H1; clear H1)
        | (go_at_call 38; refine (hpRight_is _ _ _ _ HB.out).mono ?_; rintro e w3 ⟨rfl, rfl⟩))
      go_ret
      refine ⟨ret_bool ?_, hn1⟩
      simp; try omega
  have := go (decide (hn ≤ 16)) rfl (by omega) (by omega) (by omega)
  have e : (decide (hn ≤ 16) && decide ((an : Int) ≤ 5000) && decide (0 ≤ n) && decide (n ≤ 5000)) = caseN hn an n := by
    unfold caseN
    rw [← Bool.decide_and, ← Bool.decide_and, ← Bool.decide_and, decide_eq_decide]
    omega
  rw [e] at this
  exact this
set_option maxHeartbeats 1000000 in
theorem counted_is {e o : Sl} {how val st wk k st2 wk2 : Int} {x : I} (h1 : st + k = st2) (h2 : wk + k * wk1 x = wk2) (b1 : 0 ≤ st ∧ st ≤ 10000) (b2 : 0 ≤ wk ∧ wk ≤ 10000) (b3 : 0 ≤ k ∧ k ≤ 10000) (w : World) :
    Calls Tryz.prog 45 #[.agg (trC e how val o st wk).toArray, .agg #[.int .i64 (x).op, .int .i64 (x).d, .int .i64 (x).a, .int .i64 (x).b, .int .i64 (x).n, .int .i64 (x).t], .int .i64 k] w fun r w' => r = .returned (.agg (trC e how val o st2 wk2).toArray) ∧ New w w' := by
  subst h1
  obtain ⟨o', d, a, b, n, t⟩ := x
  cases hm : movesB o' with
  | true =>
    have hw : wk = wk2 := by rw [← h2]; simp [wk1, hm]
    subst hw
    have HM := Lib.hid hm
    clear hm h2
    go_enter Tryz.func45, Tryz.ntmps45
    go_wp2_with (first
      | (go_at_call 58; refine (moves_any o' d a b n t _).mono ?_; rw [HM.out]; rintro r wm ⟨rfl, hnm⟩; replace A3 : Hid (HasTr wm g3 e how val o (st + k) wk) := Lib.hid (HasC.new A3.out hnm); replace A6 : Hid (HasTr wm g6 nilS 0 0 nilS 0 0) := Lib.hid (HasC.new A6.out hnm); replace HN := Lib.hid (HN.out.trans hnm); clear hnm)
      | (refine wpList_boxX rfl 53 (.tmp 0) rfl (trC e how val o st wk) rfl ?_; intro w1 g3 hg3 hl3 H3 hn1; have A3 : Hid (HasTr w1 g3 e how val o st wk) := Lib.hid H3; clear H3)
      | (refine wpList_boxX rfl 72 (.tmp 1) rfl [.int .i64 o', .int .i64 d, .int .i64 a, .int .i64 b, .int .i64 n, .int .i64 t] rfl ?_; intro w2 g4 hg4 hl4 H4 hn2; have A4 : Hid (Has w2 g4 ⟨o', d, a, b, n, t⟩) := Lib.hid H4; clear H4)
      | (refine wpList_alX rfl 53 rfl _ zeroT_run _ rfl ?_; intro w3 g6 hg6 hl6 H6 hn3; have A6 : Hid (HasTr w3 g6 nilS 0 0 nilS 0 0) := Lib.hid H6; replace A4 := Lib.hid (A4.out.new hn3); replace A3 : Hid (HasTr w3 g3 e how val o st wk) := Lib.hid (HasC.new (HasC.new A3.out hn2) hn3); have HN := Lib.hid ((hn1.trans hn2).trans hn3); have c4 := HasTr.st A3.out; have c5 := HasTr.wk A3.out; have d6 : g3 < g6 := Nat.lt_of_lt_of_le hl3 (Nat.le_trans hn2.size hg6); have d4 : g3 < g4 := Nat.lt_of_lt_of_le hl3 hg4; have n6 : w.heap.size ≤ g6 := Nat.le_trans (hn1.trans hn2).size hg6; clear H6 hn1 hn2 hn3)
      | (refine wpList_stTs rfl rfl (.tmp 11) (.tmp 10) rfl g3 rfl (st + k) rfl A3.out ?_; intro w5 H5 k5; replace A3 : Hid (HasTr w5 g3 e how val o (st + k) wk) := Lib.hid H5; replace A6 : Hid (HasTr w5 g6 nilS 0 0 nilS 0 0) := Lib.hid (HasC.kept A6.out k5 (Nat.ne_of_gt d6)); replace A4 : Hid (Has w5 g4 ⟨o', d, a, b, n, t⟩) := Lib.hid ((k5.other _ (Nat.ne_of_gt d4)).trans A4.out); replace HN := Lib.hid (k5.below _ hg3 HN.out); have c5 := HasTr.wk A3.out; clear H5 k5)
      | (refine wpList_ldI rfl (.tmp 4) rfl g4 rfl A4.out ?_)
      | (refine wpList_ldT rfl (.tmp 3) rfl g3 rfl A3.out ?_)
      | (refine wpList_stT rfl rfl (.tmp 6) (.tmp 20) rfl g6 rfl e how val o (st + k) wk rfl A6.out ?_; intro wz Hz kz))
    exact bodyPost_ret (results_cell_row rfl _ _ g6 _ _ _ _ rfl Hz Tryz.underlying53 rfl infoTr) rfl ⟨rfl, kz.below _ n6 HN.out⟩
  | false =>
    have hw : wk + k = wk2 := by rw [← h2]; simp [wk1, hm]
    subst hw
    have HM := Lib.hid hm
    clear hm h2
    go_enter Tryz.func45, Tryz.ntmps45
    go_wp2_with (first
      | (go_at_call 58; refine (moves_any o' d a b n t _).mono ?_; rw [HM.out]; rintro r wm ⟨rfl, hnm⟩; replace A3 : Hid (HasTr wm g3 e how val o (st + k) wk) := Lib.hid (HasC.new A3.out hnm); replace A6 : Hid (HasTr wm g6 nilS 0 0 nilS 0 0) := Lib.hid (HasC.new A6.out hnm); replace HN := Lib.hid (HN.out.trans hnm); have c5 := HasTr.wk A3.out; clear hnm)
      | (refine wpList_boxX rfl 53 (.tmp 0) rfl (trC e how val o st wk) rfl ?_; intro w1 g3 hg3 hl3 H3 hn1; have A3 : Hid (HasTr w1 g3 e how val o st wk) := Lib.hid H3; clear H3)
      | (refine wpList_boxX rfl 72 (.tmp 1) rfl [.int .i64 o', .int .i64 d, .int .i64 a, .int .i64 b, .int .i64 n, .int .i64 t] rfl ?_; intro w2 g4 hg4 hl4 H4 hn2; have A4 : Hid (Has w2 g4 ⟨o', d, a, b, n, t⟩) := Lib.hid H4; clear H4)
      | (refine wpList_alX rfl 53 rfl _ zeroT_run _ rfl ?_; intro w3 g6 hg6 hl6 H6 hn3; have A6 : Hid (HasTr w3 g6 nilS 0 0 nilS 0 0) := Lib.hid H6; replace A4 := Lib.hid (A4.out.new hn3); replace A3 : Hid (HasTr w3 g3 e how val o st wk) := Lib.hid (HasC.new (HasC.new A3.out hn2) hn3); have HN := Lib.hid ((hn1.trans hn2).trans hn3); have c4 := HasTr.st A3.out; have c5 := HasTr.wk A3.out; have d6 : g3 < g6 := Nat.lt_of_lt_of_le hl3 (Nat.le_trans hn2.size hg6); have d4 : g3 < g4 := Nat.lt_of_lt_of_le hl3 hg4; have n6 : w.heap.size ≤ g6 := Nat.le_trans (hn1.trans hn2).size hg6; clear H6 hn1 hn2 hn3)
      | (refine wpList_stTs rfl rfl (.tmp 11) (.tmp 10) rfl g3 rfl (st + k) rfl A3.out ?_; intro w5 H5 k5; replace A3 : Hid (HasTr w5 g3 e how val o (st + k) wk) := Lib.hid H5; replace A6 : Hid (HasTr w5 g6 nilS 0 0 nilS 0 0) := Lib.hid (HasC.kept A6.out k5 (Nat.ne_of_gt d6)); replace A4 : Hid (Has w5 g4 ⟨o', d, a, b, n, t⟩) := Lib.hid ((k5.other _ (Nat.ne_of_gt d4)).trans A4.out); replace HN := Lib.hid (k5.below _ hg3 HN.out); have c5 := HasTr.wk A3.out; clear H5 k5)
      | (refine wpList_stTw rfl rfl (.tmp 19) (.tmp 18) rfl g3 rfl (wk + k) rfl A3.out ?_; intro w5 H5 k5; replace A3 : Hid (HasTr w5 g3 e how val o (st + k) (wk + k)) := Lib.hid H5; replace A6 : Hid (HasTr w5 g6 nilS 0 0 nilS 0 0) := Lib.hid (HasC.kept A6.out k5 (Nat.ne_of_gt d6)); replace HN := Lib.hid (k5.below _ hg3 HN.out); clear H5 k5)
      | (refine wpList_ldI rfl (.tmp 4) rfl g4 rfl A4.out ?_)
      | (refine wpList_ldT rfl (.tmp 3) rfl g3 rfl A3.out ?_)
      | (refine wpList_stT rfl rfl (.tmp 6) (.tmp 20) rfl g6 rfl e how val o (st + k) (wk + k) rfl A6.out ?_; intro wz Hz kz))
    exact bodyPost_ret (results_cell_row rfl _ _ g6 _ _ _ _ rfl Hz Tryz.underlying53 rfl infoTr) rfl ⟨rfl, kz.below _ n6 HN.out⟩
end Go.Proofs.YtdghhedenjgjiaaGreatDoor
