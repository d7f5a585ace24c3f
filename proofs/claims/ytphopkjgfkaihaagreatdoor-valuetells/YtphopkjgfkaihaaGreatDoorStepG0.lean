/-
  step.Do's answers as parameters; guarded loads of rows and states; an outcome's cells.
-/
import Derived.Test.YtphopkjgfkaihaaGreatDoorStepDo
import Derived.Test.YtphopkjgfkaihaaGreatDoorPlain
namespace Go.Proofs.YtphopkjgfkaihaaGreatDoor
open Go.RowKit

/-- The state's value of a machine. -/
def agS (m : Mc) (s : Sl) : Value := .agg (cellsS m.l s m.p m.q).toArray
theorem stepDo_is {w0 : World} {v : Value} {f : List I} {l : Ws} {zs : List Int} {p q : Int} {s : Sl} {az : List Int} {va : Value} {w : World} (hl : Laid w0) (h0 : New w0 w) (hf : FunAt w v f) (hp : Hp w (.slice s.ao s.n s.c) zs) (ha : Hp w va az) (hal : az.length ≤ 100000) (hm : mcB f ⟨l, zs, p, q⟩ = true)
    {l2 : Ws} {z2 oh : List Int} {p2 q2 how val : Int} {es : List Ev} (hr : stp f ⟨l, zs, p, q⟩ az = ⟨⟨l2, z2, p2, q2⟩, es, how, val, oh⟩) :
    Calls Tryz.prog 27 #[v, .agg (cellsS l s p q).toArray, va] w fun e w' => ∃ (s' : Sl) (ve : Value) (so : Sl), e = .returned (.tuple #[.agg (cellsS l2 s' p2 q2).toArray, ve, .agg (outC how val so).toArray, .int .i64 0]) ∧ Hp w' (.slice s'.ao s'.n s'.c) z2 ∧ EvAt w' ve es ∧ Hp w' (.slice so.ao so.n so.c) oh ∧ New w w' := by
  refine (stepDo_good v f ⟨l, zs, p, q⟩ s az va w (hl.new h0) hf hp ha hal hm).mono ?_
  rw [hr]
  exact fun e w' ⟨s', v', so, h1, h2, h3, h4, h5, _⟩ => ⟨s', v', so, h1, h2, h3, h4, h5⟩
theorem stepDo_fr {w0 : World} {v : Value} {f : List I} {l : Ws} {zs : List Int} {p q : Int} {s : Sl} {az : List Int} {va : Value} {w : World} (hl : Laid w0) (h0 : New w0 w) (hf : FunAt w v f) (hp : Hp w (.slice s.ao s.n s.c) zs) (ha : Hp w va az) (hal : az.length ≤ 100000) (hm : mcB f ⟨l, zs, p, q⟩ = true)
    {l2 : Ws} {z2 oh : List Int} {p2 q2 how val : Int} {es : List Ev} (hr : stp f ⟨l, zs, p, q⟩ az = ⟨⟨l2, z2, p2, q2⟩, es, how, val, oh⟩) :
    Calls Tryz.prog 27 #[v, .agg (cellsS l s p q).toArray, va] w fun e w' => ∃ (s' : Sl) (ve : Value) (so : Sl), e = .returned (.tuple #[.agg (cellsS l2 s' p2 q2).toArray, ve, .agg (outC how val so).toArray, .int .i64 0]) ∧ Hp w' (.slice s'.ao s'.n s'.c) z2 ∧ EvAt w' ve es ∧ Hp w' (.slice so.ao so.n so.c) oh ∧ New w w' ∧ Fresh w.heap.size (.slice s'.ao s'.n s'.c) z2 ∧ Fresh w.heap.size ve es ∧ Fresh w.heap.size (.slice so.ao so.n so.c) oh := by
  refine (stepDo_good v f ⟨l, zs, p, q⟩ s az va w (hl.new h0) hf hp ha hal hm).mono ?_
  rw [hr]
  exact fun e w' h => h
theorem EvAt.form {w : World} {v : Value} {es : List Ev} (h : EvAt w v es) : ∃ ao cap, v = .slice ao es.length cap := by
  obtain ⟨ao, cap, e, _⟩ := h
  exact ⟨ao, cap, e⟩
section
variable {ops : Array Oper} {rest : List Oper} {op : Oper} {act : Act} {w : World} {Q : Exit → Act → World → Prop}
theorem wpList_ldM (hw : Region.wanted op (yielded ops act.tmps) = true) (ty : TypeId) (x : Operand) (ho : op.op = .load ty x) (b o : Nat) (hx : act.eval x = .pointer (some ⟨b, o, none⟩)) (cs : List Value) (d : TypeDesc) (hc : w.rangeAt b o cs)
    (hu : Tryz.prog.underlying ty = some d) (hd : d.isRow = true) (hi : (Tryz.prog.info? ty).map (·.size) = some cs.length) (h : wpList Tryz.prog ops Q rest (act.put op.dst (.agg cs.toArray)) w) : wpList Tryz.prog ops Q (op :: rest) act w := by
  unfold wpList
  rw [if_pos hw]
  exact .inl (wp_load_mid ty x ho b o hx cs d hc hu hd hi h)
theorem wpList_ldSG (hw : Region.wanted op (yielded ops act.tmps) = true) (a : Operand) (ho : op.op = .load 75 a) (g : Nat) (hx : act.eval a = .pointer (some ⟨g, 0, none⟩)) {l : Ws} {s : Sl} {p q : Int} (h : HasS w g l s p q)
    (hk : wpList Tryz.prog ops Q rest (act.put op.dst (.agg (cellsS l s p q).toArray)) w) : wpList Tryz.prog ops Q (op :: rest) act w :=
  wpList_ldM hw _ a ho g 0 hx (cellsS l s p q) _ h.all Tryz.underlying75 rfl (by rw [cellsS_len]; exact infoSt) hk
end
theorem infoEv : (Tryz.prog.info? 164).map (·.size) = some 3 := by kernel_rfl
theorem HasO.how {w : World} {g : Nat} {how val : Int} {s : Sl} (h : HasO w g how val s) : w.cell? ⟨g, 0, none⟩ = some (.int .i64 how) := h.cell rfl
theorem HasO.val {w : World} {g : Nat} {how val : Int} {s : Sl} (h : HasO w g how val s) : w.cell? ⟨g, 1, none⟩ = some (.int .i64 val) := h.cell rfl
theorem HasO.hp {w : World} {g : Nat} {how val : Int} {s : Sl} (h : HasO w g how val s) : w.cell? ⟨g, 2, none⟩ = some (.slice s.ao s.n s.c) := h.cell rfl
end Go.Proofs.YtphopkjgfkaihaaGreatDoor
