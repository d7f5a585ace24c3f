/-
  What layer 7's laws use: step.Do with its answers as parameters; loads of states at operations whose guard is met; the law's great.
-/
import Derived.Test.YtdghhedenjgjiaaGreatDoorStepD
import Derived.Test.YtdghhedenjgjiaaGreatDoorStepF
import Derived.Test.YtdghhedenjgjiaaGreatDoorStepFacts
namespace Go.Proofs.YtdghhedenjgjiaaGreatDoor
open Go.RowKit

/-- The state's value of a machine. -/
def agS (m : Mc) (s : Sl) : Value := .agg (cellsS m.l s m.p m.q).toArray
theorem stepDo_is {w0 : World} {v : Value} {f : List I} {l : Ws} {zs : List Int} {p q : Int} {s : Sl} {az : List Int} {va : Value} {w : World} (hl : Laid w0) (h0 : New w0 w) (hf : FunAt w v f) (hp : Hp w (.slice s.ao s.n s.c) zs) (ha : Hp w va az) (hal : az.length ≤ 100000) (hm : mcB f ⟨l, zs, p, q⟩ = true)
    {l2 : Ws} {z2 oh : List Int} {p2 q2 how val : Int} {es : List Ev} (hr : stp f ⟨l, zs, p, q⟩ az = ⟨⟨l2, z2, p2, q2⟩, es, how, val, oh⟩) :
    Calls Tryz.prog 12 #[v, .agg (cellsS l s p q).toArray, va] w fun e w' => ∃ (s' : Sl) (ve : Value) (so : Sl), e = .returned (.tuple #[.agg (cellsS l2 s' p2 q2).toArray, ve, .agg (outC how val so).toArray, .int .i64 0]) ∧ Hp w' (.slice s'.ao s'.n s'.c) z2 ∧ EvAt w' ve es ∧ Hp w' (.slice so.ao so.n so.c) oh ∧ New w w' := by
  refine (stepDo_good v f ⟨l, zs, p, q⟩ s az va w (hl.new h0) hf hp ha hal hm).mono ?_
  rw [hr]
  exact fun e w' ⟨s', v', so, h1, h2, h3, h4, h5, _⟩ => ⟨s', v', so, h1, h2, h3, h4, h5⟩
theorem stepDo_fr {w0 : World} {v : Value} {f : List I} {l : Ws} {zs : List Int} {p q : Int} {s : Sl} {az : List Int} {va : Value} {w : World} (hl : Laid w0) (h0 : New w0 w) (hf : FunAt w v f) (hp : Hp w (.slice s.ao s.n s.c) zs) (ha : Hp w va az) (hal : az.length ≤ 100000) (hm : mcB f ⟨l, zs, p, q⟩ = true)
    {l2 : Ws} {z2 oh : List Int} {p2 q2 how val : Int} {es : List Ev} (hr : stp f ⟨l, zs, p, q⟩ az = ⟨⟨l2, z2, p2, q2⟩, es, how, val, oh⟩) :
    Calls Tryz.prog 12 #[v, .agg (cellsS l s p q).toArray, va] w fun e w' => ∃ (s' : Sl) (ve : Value) (so : Sl), e = .returned (.tuple #[.agg (cellsS l2 s' p2 q2).toArray, ve, .agg (outC how val so).toArray, .int .i64 0]) ∧ Hp w' (.slice s'.ao s'.n s'.c) z2 ∧ EvAt w' ve es ∧ Hp w' (.slice so.ao so.n so.c) oh ∧ New w w' ∧ Fresh w.heap.size (.slice s'.ao s'.n s'.c) z2 ∧ Fresh w.heap.size ve es ∧ Fresh w.heap.size (.slice so.ao so.n so.c) oh := by
  refine (stepDo_good v f ⟨l, zs, p, q⟩ s az va w (hl.new h0) hf hp ha hal hm).mono ?_
  rw [hr]
  exact fun e w' h => h
theorem EvAt.form {w : World} {v : Value} {es : List Ev} (h : EvAt w v es) : ∃ ao cap, v = .slice ao es.length cap := by
  obtain ⟨ao, cap, e, _⟩ := h
  exact ⟨ao, cap, e⟩
section
variable {ops : Array Oper} {rest : List Oper} {op : Oper} {act : Act} {w : World} {Q : Exit → Act → World → Prop}
theorem wpList_ldM (hw : Region.wanted op (yielded ops act.tmps) = true) (ty : TypeId) (x : Operand) (ho : op.op = .load ty x) (b o : Nat) (hx : act.eval x = .pointer (some ⟨b, o, none⟩)) (cs : List Value) (d : TypeDesc) (hc : w.rangeAt b o cs)
    (hu : Tryz.prog.underlying ty = some d) (hd : d.isRow = true) (hi : (Tryz.prog.info? ty).map (·.size) = some cs.length) (h : wpList Tryz.prog ops Q rest (act.put op.dst (.agg cs.toArray)) w) : wpList Tryz.prog ops Q (op :: rest) act w := by
  unfold wpList
  rw [if_pos hw]
  exact .inl (wp_load_mid ty x ho b o hx cs d hc hu hd hi h)
theorem wpList_ldSG (hw : Region.wanted op (yielded ops act.tmps) = true) (a : Operand) (ho : op.op = .load 28 a) (g : Nat) (hx : act.eval a = .pointer (some ⟨g, 0, none⟩)) {l : Ws} {s : Sl} {p q : Int} (h : HasS w g l s p q)
    (hk : wpList Tryz.prog ops Q rest (act.put op.dst (.agg (cellsS l s p q).toArray)) w) : wpList Tryz.prog ops Q (op :: rest) act w :=
  wpList_ldM hw _ a ho g 0 hx (cellsS l s p q) _ h.all Tryz.underlying28 rfl (by rw [cellsS_len]; exact infoSt) hk
end
theorem infoEv : (Tryz.prog.info? 67).map (·.size) = some 3 := by kernel_rfl
theorem HasO.how {w : World} {g : Nat} {how val : Int} {s : Sl} (h : HasO w g how val s) : w.cell? ⟨g, 0, none⟩ = some (.int .i64 how) := h.cell rfl
theorem HasO.val {w : World} {g : Nat} {how val : Int} {s : Sl} (h : HasO w g how val s) : w.cell? ⟨g, 1, none⟩ = some (.int .i64 val) := h.cell rfl
theorem HasO.hp {w : World} {g : Nat} {how val : Int} {s : Sl} (h : HasO w g how val s) : w.cell? ⟨g, 2, none⟩ = some (.slice s.ao s.n s.c) := h.cell rfl
/-- The law's bound. -/
def greatB (n k a : Nat) : Bool := decide (300 < n ∨ 100 < k ∨ 1000 < a)
set_option maxHeartbeats 1000000 in
theorem great_any (ao : Option Addr) (n cap : Nat) (l : Ws) (s : Sl) (p q : Int) (bo : Option Addr) (bn bc : Nat) (w : World) :
    Calls Tryz.prog 10 #[.slice ao n cap, .agg (cellsS l s p q).toArray, .slice bo bn bc] w fun e w' => e = .returned (.bool (greatB n s.n bn)) ∧ New w w' := by
  obtain ⟨so, sn, sc⟩ := s
  unfold greatB
  by_cases c1 : (300 : Int) < (n : Int)
  · rw [decide_eq_true (by omega)]
    go_enter Tryz.func10, Tryz.ntmps10
    go_wp2_with (first
      | (refine wpList_boxX rfl 28 (.tmp 1) rfl (cellsS l ⟨so, sn, sc⟩ p q) rfl ?_; intro w1 g1 hg1 hl1 H1 hn1; have k1 := HasS.hp H1; have HS := Lib.hid H1; clear H1))
    go_ret
    exact ⟨rfl, hn1⟩
  · by_cases c2 : (100 : Int) < (sn : Int)
    · rw [decide_eq_true (by right; left; show 100 < sn; omega)]
      go_enter Tryz.func10, Tryz.ntmps10
      go_wp2_with (first
        | (refine wpList_boxX rfl 28 (.tmp 1) rfl (cellsS l ⟨so, sn, sc⟩ p q) rfl ?_; intro w1 g1 hg1 hl1 H1 hn1; have k1 := HasS.hp H1; have HS := Lib.hid H1; clear H1))
      go_ret
      exact ⟨rfl, hn1⟩
    · by_cases c3 : (1000 : Int) < (bn : Int)
      · rw [decide_eq_true (by omega)]
        go_enter Tryz.func10, Tryz.ntmps10
        go_wp2_with (first
          | (refine wpList_boxX rfl 28 (.tmp 1) rfl (cellsS l ⟨so, sn, sc⟩ p q) rfl ?_; intro w1 g1 hg1 hl1 H1 hn1; have k1 := HasS.hp H1; have HS := Lib.hid H1; clear H1))
        go_ret
        exact ⟨rfl, hn1⟩
      · rw [decide_eq_false (by rintro (h | h | h) <;> (try simp only at h) <;> omega)]
        go_enter Tryz.func10, Tryz.ntmps10
        go_wp2_with (first
          | (refine wpList_boxX rfl 28 (.tmp 1) rfl (cellsS l ⟨so, sn, sc⟩ p q) rfl ?_; intro w1 g1 hg1 hl1 H1 hn1; have k1 := HasS.hp H1; have HS := Lib.hid H1; clear H1))
        go_ret
        exact ⟨rfl, hn1⟩
theorem great_is {w0 : World} {v va : Value} {f : List I} {l : Ws} {s : Sl} {p q : Int} {zs az : List Int} {w : World} (_h : New w0 w) (hf : FunAt w v f) (hp : Hp w (.slice s.ao s.n s.c) zs) (ha : Hp w va az) {b : Bool} (hb : greatB f.length zs.length az.length = b) :
    Calls Tryz.prog 10 #[v, .agg (cellsS l s p q).toArray, va] w fun e w' => e = .returned (.bool b) ∧ New w w' := by
  obtain ⟨ao, cap, rfl⟩ := hf.form
  obtain ⟨bo, bc, rfl⟩ := ha.form
  have := great_any ao f.length cap l s p q bo az.length bc w
  rw [hp.len, hb] at this
  exact this
theorem not_great {n k a : Nat} (h : greatB n k a = false) : n ≤ 300 ∧ k ≤ 100 ∧ a ≤ 1000 := by
  have := of_decide_eq_false h
  omega
end Go.Proofs.YtdghhedenjgjiaaGreatDoor
