/-
  What the longer laws of layers 7 and 8 use: rows of numbers that grow; outcomes loaded; events and outcomes that are alike, from an older world; how long a step's rows are.
-/
import Derived.Test.YtlmnodbhfpgplaaGreatDoorStepL
import Derived.Test.YtlmnodbhfpgplaaGreatDoorStepM
import Derived.Test.YtlmnodbhfpgplaaGreatDoorTameOpen
import Derived.Laws.AppendOwnNone
namespace Go.Proofs.YtlmnodbhfpgplaaGreatDoor
open Go.RowKit

theorem wpList_is {P : Program} {ops : Array Oper} {Q : Exit → Act → World → Prop} {op : Oper} {rest : List Oper} {act : Act} {w : World} (h : wpList P ops Q (op :: rest) act w) : wpList P ops Q (op :: rest) act w := h
theorem own_empty64 (w : World) (B : Nat) (hB : B ≤ w.heap.size) : (w.alloc (.cells #[] 2)).ownsRow B 2 1 (.slice (some ⟨w.heap.size, 0, none⟩) 0 0) 0 [] :=
  ⟨rfl, .inr ⟨w.heap.size, 0, #[], rfl, hB, heap_alloc_new _ _, Nat.le_refl _, by simp, by simp, by simp⟩⟩
/-- A row of numbers more. -/
theorem wpList_appRow {ops : Array Oper} {rest : List Oper} {op : Oper} {act : Act} {w : World} {Q : Exit → Act → World → Prop} (hgd : op.guard = none) (s x : Operand) (ho : op.op = .call { callee := .builtin .append, args := #[s, x], argTypes := #[24, 24] })
    (B n : Nat) (v : Value) (xs : List Int) (hs : act.eval s = v) (hown : w.ownsRow B 2 1 v n (xs.map (Value.int .i64))) (u : Value) (hx : act.eval x = u) (ys : List Int) (hu : Hp w u ys) (ht : Tame u) (hl : n + ys.length ≤ 100000) (hB : B ≤ w.heap.size)
    (hk : ∀ v' w', w'.ownsRow B 2 1 v' (n + ys.length) ((xs ++ ys).map (Value.int .i64)) → (∀ w0 : World, w0.heap.size ≤ B → New w0 w → New w0 w') → wpList Tryz.prog ops Q rest (act.put op.dst v') w') : wpList Tryz.prog ops Q (op :: rest) act w := by
  obtain ⟨i0, hi0, hz0, hz1, hz2⟩ := info_parts info64
  rcases ht with rfl | ⟨a, m, c, rfl⟩
  · have h0 : ys = [] := by
      have := hu.len
      exact List.length_eq_zero_iff.mp this.symm
    subst h0
    refine wpList_append_own_none hgd s x 24 ho B 2 i0 1 Tryz.underlying24 hi0 v n _ hs hown hx ?_
    refine hk v w ?_ (fun w0 _ h => h)
    simpa using hown
  · have hm := hu.len
    subst hm
    refine wpList_append_own _ hgd s x 24 ho B 2 i0 (.int .i64 0) 1 8 Tryz.underlying24 hi0 hz0 hz1 hz2 rfl (by decide) v n _ hs hown a ys.length c (ys.map (Value.int .i64)) hx (by simp) ?_ (ints_oneCell _ _) (by unfold maxLen; omega) (by omega) hB ?_
    · intro j y hj
      have hp : 0 < (ys.map (Value.int .i64)).length := Nat.lt_of_le_of_lt (Nat.zero_le _) (List.getElem?_eq_some_iff.1 hj).1
      obtain ⟨ad, e1, e2⟩ := hu.src hp
      simp only [Option.some.injEq] at e1
      subst e1
      exact e2 j y hj w (New.refl w)
    · intro v' w' h1 h2 _
      refine hk v' w' (by rw [List.map_append]; exact h1) (fun w0 hw0 hN => ?_)
      have hr := owns_row hown
      exact Below.grown hN h2 hN.size (fun k hk => Nat.le_trans hw0 (hr k hk))
theorem wpQuiet_ldOm {ops : Array Oper} {C : World → Prop} {Q : Act → Prop} {op : Oper} {rest : List Oper} {act : Act} (hw : Region.wanted op (yielded ops act.tmps) = true) (p : Operand) (ho : op.op = .load 31 p)
    (g : Nat) (hx : act.eval p = .pointer (some ⟨g, 0, none⟩)) {how val : Int} {s : Sl} (h : ∀ w, C w → HasO w g how val s)
    (hk : wpQuiet Tryz.prog ops C Q rest (act.put op.dst (.agg (outC how val s).toArray))) : wpQuiet Tryz.prog ops C Q (op :: rest) act :=
  wpQuiet_valG hw _ (fun w hw => by
    unfold execOp
    have := run_loadAt_mid (P := Tryz.prog) w g 0 31 (outC how val s) _ (HasC.all (h w hw)) Tryz.underlying31 rfl infoOut
    simp only [ho, hx, this, Sem.run_bind, Sem.run_pure, Result.andThen_ok]) hk
theorem refEvents_from {w0 : World} {es : List Ev} {v u : Value} {w : World} (h : New w0 w) (h1 : EvAt w0 v es) (h2 : EvAt w0 u es) (hb : es.length ≤ 100000) :
    Calls Tryz.prog 29 #[v, u] w fun e w' => e = .returned (.bool true) ∧ New w0 w' :=
  (refEvents_any es v u w (h1.new h) (h2.new h) hb).mono fun _ _ ⟨he, hw⟩ => ⟨he, h.trans hw⟩
theorem refOutcome_from {w0 : World} {how val : Int} {zs : List Int} {s r : Sl} {w : World} (h : New w0 w) (h1 : Hp w0 (.slice s.ao s.n s.c) zs) (h2 : Hp w0 (.slice r.ao r.n r.c) zs) (hz : zs.length ≤ 1000) :
    Calls Tryz.prog 30 #[.agg (outC how val s).toArray, .agg (outC how val r).toArray] w fun e w' => e = .returned (.bool true) ∧ New w0 w' :=
  (refOutcome_any how val zs s r w (h1.new h) (h2.new h) hz).mono fun _ _ ⟨he, hw⟩ => ⟨he, h.trans hw⟩
theorem stp_oh {f : List I} {s : Mc} {az : List Int} (h : mcB f s = true) : (stp f s az).hp.length ≤ 16 ∧ (stp f s az).s.h.length ≤ 16 := by
  have h16 := (mc_iff.mp h).2.2.2.1
  constructor
  · unfold stp
    repeat' split
    all_goals simp
    exact h16
  · rcases stp_heap (az := az) h with e | ⟨_, k, v, e⟩ <;> rw [e]
    · exact h16
    · rw [List.length_set]; exact h16
theorem wpList_ldOq {ops : Array Oper} {rest : List Oper} {op : Oper} {act : Act} {w : World} {Q : Exit → Act → World → Prop} (hw : Region.wanted op (yielded ops act.tmps) = true) (x : Operand) (ho : op.op = .load 31 x) (g : Nat) (hx : act.eval x = .pointer (some ⟨g, 0, none⟩)) {how val : Int} {o : Sl} (k : HasO w g how val o)
    (hk : wpList Tryz.prog ops Q rest (act.put op.dst (.agg (outC how val o).toArray)) w) : wpList Tryz.prog ops Q (op :: rest) act w :=
  wpList_ldM hw _ x ho g 0 hx (outC how val o) _ k.all Tryz.underlying31 rfl infoOut hk
end Go.Proofs.YtlmnodbhfpgplaaGreatDoor
