/-
  The law's As (a state as the reference's), and the reference's Right and Same of states: for every state.
-/
import Derived.Test.YtlmnodbhfpgplaaGreatDoorStepDo
import Derived.Test.YtlmnodbhfpgplaaGreatDoorOwn2
import Derived.Test.YtlmnodbhfpgplaaGreatDoorHeapAll
import Derived.Test.YtlmnodbhfpgplaaGreatDoorRefAsmA
namespace Go.Proofs.YtlmnodbhfpgplaaGreatDoor
open Go.RowKit

/-- The reference's state: its row of words, its heap, At, Asked. -/
def refC (a s : Sl) (p q : Int) : List Value := [.slice a.ao a.n a.c, .slice s.ao s.n s.c, .int .i64 p, .int .i64 q]
abbrev HasRf (w : World) (g : Nat) (a s : Sl) (p q : Int) : Prop := HasC w g 44 (refC a s p q)
theorem infoRf : (Tryz.prog.info? 44).map (·.size) = some 4 := by kernel_rfl
theorem infoWsl : (Tryz.prog.info? 42).map (·.size) = some 1 := by kernel_rfl
theorem infoW2 : (Tryz.prog.info? 35).map (fun i => (i.zero, i.size, i.bytes)) = some (some (.agg #[.bool false, .int .i64 0]), 2, 16) := by kernel_rfl
theorem zeroR_run (w : World) : (zeroValue 44).run Tryz.prog w = .ok (.agg (refC nilS nilS 0 0).toArray) w := Tryz.zeroValue44 w
/-- A slice's value holds a row of 24 words. -/
def WsAt (w : World) (a : Sl) (l : Ws) : Prop := ElAt w (.slice a.ao a.n a.c) 24 (fun i => wcells (l i))
theorem WsAt.new {w w' : World} {a : Sl} {l : Ws} (h : WsAt w a l) (n : New w w') : WsAt w' a l := ElAt.new h n
theorem WsAt.n {w : World} {a : Sl} {l : Ws} (h : WsAt w a l) : a.n = 24 := by
  obtain ⟨ao, cap, e⟩ := h.form
  simp only [Value.slice.injEq] at e
  exact e.2.1
section
variable {w : World} {g : Nat} {a s : Sl} {p q : Int}
theorem HasRf.l (h : HasRf w g a s p q) : w.cell? ⟨g, 0, none⟩ = some (.slice a.ao a.n a.c) := h.cell rfl
theorem HasRf.hp (h : HasRf w g a s p q) : w.cell? ⟨g, 1, none⟩ = some (.slice s.ao s.n s.c) := h.cell rfl
theorem HasRf.at (h : HasRf w g a s p q) : w.cell? ⟨g, 2, none⟩ = some (.int .i64 p) := h.cell rfl
theorem HasRf.ask (h : HasRf w g a s p q) : w.cell? ⟨g, 3, none⟩ = some (.int .i64 q) := h.cell rfl
end
section
variable {ops : Array Oper} {rest : List Oper} {op : Oper} {act : Act} {w : World} {Q : Exit → Act → World → Prop}
theorem wpList_ldRf (hgd : op.guard = none) (x : Operand) (ho : op.op = .load 44 x) (g : Nat) (hx : act.eval x = .pointer (some ⟨g, 0, none⟩)) {a s : Sl} {p q : Int} (h : HasRf w g a s p q)
    (hk : wpList Tryz.prog ops Q rest (act.put op.dst (.agg (refC a s p q).toArray)) w) : wpList Tryz.prog ops Q (op :: rest) act w :=
  wpList_load_mid hgd _ x ho g 0 hx (refC a s p q) _ h.all Tryz.underlying44 rfl infoRf hk
theorem wpList_stRf (hgd : op.guard = none) (hdst : op.dst = none) (x y : Operand) (ho : op.op = .store 44 x y) (g : Nat) (hx : act.eval x = .pointer (some ⟨g, 0, none⟩)) (a s : Sl) (p q : Int) (hy : act.eval y = .agg (refC a s p q).toArray)
    {a' s' : Sl} {p' q' : Int} (h : HasRf w g a' s' p' q') (hk : ∀ w', HasRf w' g a s p q → Kept g w w' → wpList Tryz.prog ops Q rest act w') : wpList Tryz.prog ops Q (op :: rest) act w :=
  wpList_stX hgd hdst _ x y ho g 0 hx _ hy h (refC a s p q) rfl (by simp [refC]) (by simp [refC, Value.oneCell']) infoRf (by simp [refC]) hk
end
section
variable {P : Program} {ops : Array Oper} {md : Region.Mode} {S : World → Prop} {Q : Exit → Act → World → Prop}
/-- A load and a new block, in whichever order. -/
theorem wpAnyH_two {i j : Nat} {oi oj : Oper} {di dj : Tmp} {vi vj : Value} {m : Nat} {l : Array Bool} {a : Act} {w w' : World} (hi : ops[i]? = some oi) (hj : ops[j]? = some oj) (ei : oi.dst = some di) (ej : oj.dst = some dj) (gi : oi.guard = none) (gj : oj.guard = none)
    (b0 : Region.ready md ops l = [i, j]) (b1 : Region.ready md ops (l.setIfInBounds i true) = [j]) (b2 : Region.ready md ops (l.setIfInBounds j true) = [i]) (hij : i ≠ j) (dij : di ≠ dj)
    (r1 : (execOp a.eval oi).run P w = .ok (.value vi) w) (r2 : (execOp (a.put (some di) vi).eval oj).run P w = .ok (.value vj) w') (r3 : (execOp a.eval oj).run P w = .ok (.value vj) w') (r4 : (execOp (a.put (some dj) vj).eval oi).run P w' = .ok (.value vi) w')
    (s0 : S w) (s1 : S w') (h : wpAnyH P md ops Q S m ((l.setIfInBounds i true).setIfInBounds j true) ((a.put (some di) vi).put (some dj) vj) w') : wpAnyH P md ops Q S (m + 2) l a w := by
  refine wpAnyH_all b0 (by simp) ?_
  simp only [List.mem_cons, List.not_mem_nil, or_false]
  rintro t (rfl | rfl)
  · refine wpOp_value hi gi r1 ⟨s0, ?_⟩
    refine wpAnyH_all b1 (by simp) ?_
    simp only [List.mem_cons, List.not_mem_nil, or_false]
    rintro t rfl
    rw [ei]
    refine wpOp_value hj gj r2 ⟨s1, ?_⟩
    rw [ej]
    exact h
  · refine wpOp_value hj gj r3 ⟨s1, ?_⟩
    refine wpAnyH_all b2 (by simp) ?_
    simp only [List.mem_cons, List.not_mem_nil, or_false]
    rintro t rfl
    rw [ej]
    refine wpOp_value hi gi r4 ⟨s1, ?_⟩
    rw [ei, Array.setIfInBounds_comm _ _ (Ne.symm hij), put_comm a (Ne.symm dij)]
    exact h
end
/-- One word more, among operations that stand in one order. -/
theorem wpLS_app2 {ops : Array Oper} {S : World → Prop} {rest : List Oper} {op : Oper} {act : Act} {wr : World} {Q : Exit → Act → World → Prop} (hgd : op.guard = none) (s x : Operand) (T e : TypeId) (ho : op.op = .call { callee := .builtin .append, args := #[s, x], argTypes := #[T, T] })
    {z : Value} {bytes : Nat} (ht : Tryz.prog.underlying T = some (.slice e)) (hi : (Tryz.prog.info? e).map (fun i => (i.zero, i.size, i.bytes)) = some (some z, 2, bytes)) (hz : z.cells.size = 2) (hb : bytes ≤ 1000)
    (B n : Nat) (hB : B ≤ wr.heap.size) (hn : n ≤ 10000) (v : Value) (g : Nat → List Value) (hs : act.eval s = v) (c0 c1 : Value) (hx : act.eval x = .slice (some ⟨wr.heap.size, 0, none⟩) 1 1) (hg : g n = [c0, c1]) (h0 : c0.oneCell' = true) (h1 : c1.oneCell' = true)
    (h : OwnG wr B e v n g)
    (hk : ∀ v' w', OwnG w' B e v' (n + 1) g → (∀ w0 : World, w0.heap.size ≤ B → New w0 wr → New w0 w') → (∀ k ob, k < B → wr.heap[k]? = some ob → w'.heap[k]? = some ob) → S w' ∧ wpLS Tryz.prog ops Q S rest (act.put op.dst v') w') :
    wpLS Tryz.prog ops Q S (op :: rest) act (wr.alloc (.cells #[c0, c1] e)) := by
  obtain ⟨i0, k1, k2, k3, k4⟩ := info_parts hi
  have hal := World.ownsRow.alloc h (.cells #[c0, c1] e)
  unfold wpLS
  rw [if_pos (by simp [Region.wanted, hgd])]
  refine wp_append_own _ s x T ho B e i0 z 2 bytes ht k1 k2 k3 k4 hz (by decide) v n (flatG g n) hs hal ⟨wr.heap.size, 0, none⟩ 1 1 [c0, c1] hx rfl (two_new _ _ _ _) ?_ (by unfold maxLen; omega) ?_ (by rw [alloc_size]; omega) ?_
  · intro u hu
    simp only [List.mem_cons, List.not_mem_nil, or_false] at hu
    rcases hu with rfl | rfl <;> assumption
  · have : (n + 1) * bytes ≤ 10001 * 1000 := Nat.mul_le_mul (by omega) hb
    omega
  · intro v' w' hown hgr _
    have hr := owns_row h
    refine hk v' w' ?_ (fun w0 hw0 hN => ?_) (fun k ob hkB hob => ?_)
    · unfold OwnG
      rw [flatG_succ, hg]
      exact hown
    · exact Below.grown (hN.alloc _) hgr (hN.alloc (.cells #[c0, c1] e)).size (fun k hk => by have := hr k hk; omega)
    · exact grown_heap hgr ((alloc_new _ _).heap hob) (fun j hj => by have := hr j hj; omega)
theorem wpLS_stR0 {ops : Array Oper} {S : World → Prop} {Q : Exit → Act → World → Prop} {op : Oper} {rest : List Oper} {act : Act} {w : World} (hgd : op.guard = none) (hdst : op.dst = none) (x y : Operand) (ho : op.op = .store 42 x y) (g : Nat) (hx : act.eval x = .pointer (some ⟨g, 0, none⟩)) (a : Sl) (hy : act.eval y = .slice a.ao a.n a.c)
    {a' s : Sl} {p q : Int} (h : HasRf w g a' s p q) (hk : ∀ w', HasRf w' g a s p q → Kept g w w' → S w' ∧ wpLS Tryz.prog ops Q S rest act w') : wpLS Tryz.prog ops Q S (op :: rest) act w := by
  have hs := h.store 0 [.slice a.ao a.n a.c] 42 (.slice a.ao a.n a.c) rfl (by simp [refC]) (by simp [Value.oneCell']) infoWsl
  have hc : (refC a' s p q).take 0 ++ [Value.slice a.ao a.n a.c] ++ (refC a' s p q).drop (0 + [Value.slice a.ao a.n a.c].length) = refC a s p q := by simp [refC]
  rw [hc] at hs
  have hr : (execOp act.eval op).run Tryz.prog w = .ok .skip (putO w g (.cells (refC a s p q).toArray 44 (0, 0))) := by
    unfold execOp
    simp only [ho, hx, hy, hs, Sem.run_bind, Sem.run_pure, Result.andThen_ok]
  obtain ⟨h1, h2⟩ := hk _ (putO_same h) (Kept.put _ _ _)
  exact wpLS_skip hgd hr hdst h1 h2
theorem own_form2 {w : World} {B n : Nat} {e : TypeId} {v : Value} {g : Nat → List Value} (h : OwnG w B e v n g) : ∃ a : Sl, v = .slice a.ao a.n a.c ∧ a.n = n := by
  rcases h.2 with ⟨rfl, rfl⟩ | ⟨k, cap, cur, rfl, _⟩
  · exact ⟨nilS, rfl, rfl⟩
  · exact ⟨⟨_, n, cap⟩, rfl, rfl⟩
theorem OwnG.kept {w w' : World} {B n g : Nat} {e : TypeId} {v : Value} {f : Nat → List Value} (h : OwnG w B e v n f) (k : Kept g w w') (hg : g < B) : OwnG w' B e v n f :=
  ⟨h.1, h.2.elim .inl fun ⟨b, cap, cur, h1, h2, h3, h4⟩ => .inr ⟨b, cap, cur, h1, h2, (k.other b (by omega)).trans h3, h4⟩⟩
theorem wds_len (l : Ws) (i : Nat) : ((fun i => wcells (l i)) i).length = 2 := rfl
set_option maxHeartbeats 8000000 in
set_option maxRecDepth 100000 in
theorem as_any (l : Ws) (s : Sl) (p q : Int) (w : World) :
    Calls Tryz.prog 10 #[.agg (cellsS l s p q).toArray] w fun e w' => ∃ a : Sl, e = .returned (.agg (refC a s p q).toArray) ∧ WsAt w' a l ∧ New w w' := by
  have T2 : Hid True := Lib.hid trivial
  go_enter Tryz.func10, Tryz.ntmps10
  go_wp2_with (first
    | (refine wpList_boxX rfl 38 (.tmp 0) rfl (cellsS l s p q) rfl ?_; intro w1 g1 hg1 hl1 H1 hn1; have A1 : Hid (HasS w1 g1 l s p q) := Lib.hid H1; clear H1)
    | (clear T2; refine wpList_alX rfl 44 rfl _ zeroR_run _ rfl ?_; intro w2 g2 hg2 hl2 H2 hn2; have A2 : Hid (HasRf w2 g2 nilS nilS 0 0) := Lib.hid H2; replace A1 : Hid (HasS w2 g1 l s p q) := Lib.hid (HasC.new A1.out hn2); have k1 := HasS.hp A1.out; have k2 := HasS.at A1.out; have k3 := HasS.ask A1.out; clear H2)
    | (refine wpList_alX rfl 44 rfl _ zeroR_run _ rfl ?_; intro w3 g3 hg3 hl3 H3 hn3; have A3 : Hid (HasRf w3 g3 nilS nilS 0 0) := Lib.hid H3; replace A1 : Hid (HasS w3 g1 l s p q) := Lib.hid (HasC.new A1.out hn3); replace A2 : Hid (HasRf w3 g2 nilS nilS 0 0) := Lib.hid (HasC.new A2.out hn3); clear H3)
    | (refine wpList_stRf rfl rfl (.tmp 3) (.tmp 11) rfl g3 rfl nilS s p q rfl A3.out ?_; intro w4 H4 h4))
  have d13 : g1 ≠ g3 := by omega
  have d23 : g2 ≠ g3 := by omega
  have d12 : g1 ≠ g2 := by omega
  have n2 : w.heap.size ≤ g2 := Nat.le_trans hn1.size hg2
  have n3 : w.heap.size ≤ g3 := Nat.le_trans (hn1.trans hn2).size hg3
  have b1 : g1 < g3 + 1 := by omega
  have b2 : g2 < g3 + 1 := by omega
  have hs4 : w4.heap.size = w3.heap.size := h4.size
  go_loopw [4] (fun kv wr => ∃ (k : Nat) (a : Sl), kv = .int .i64 k ∧ k ≤ 24 ∧ Hid (HasS wr g1 l s p q) ∧ Hid (HasRf wr g2 nilS nilS 0 0) ∧ Hid (HasRf wr g3 a s p q) ∧ Hid (OwnG wr (g3 + 1) 35 (.slice a.ao a.n a.c) k (fun i => wcells (l i))) ∧ Hid (New w wr) ∧ Hid (g3 + 1 ≤ wr.heap.size)) (fun kv _ => 24 - (intOf kv).toNat)
  case atStart => exact ⟨0, nilS, rfl, by omega, Lib.hid (HasC.kept A1.out h4 d13), Lib.hid (HasC.kept A2.out h4 d23), Lib.hid H4, Lib.hid (OwnG.nil _ _ _ _), Lib.hid (h4.below _ n3 ((hn1.trans hn2).trans hn3)), Lib.hid (by omega)⟩
  case round =>
    obtain ⟨k, a, rfl, hk, HS, HR, HX, HO, HN, HB⟩ := hrel
    clear A1 A2 A3 H4 h4 hs4 hn1 hn2 hn3 hg1 hg2 hg3 hl1 hl2 hl3 k1 k2 k3
    by_cases hk24 : k < 24
    · have hk24' : (k : Int) < 24 := by omega
      go_wp2_with fail
      have S0 : Hid (HasS wr.drew g1 l s p q) := Lib.hid (HasC.new HS.out ((New.refl wr).drew))
      have X0 : Hid (HasRf wr.drew g3 a s p q) := Lib.hid (HasC.new HX.out ((New.refl wr).drew))
      have R0 : Hid (HasRf wr.drew g2 nilS nilS 0 0) := Lib.hid (HasC.new HR.out ((New.refl wr).drew))
      have O0 : Hid (OwnG wr.drew (g3 + 1) 35 (.slice a.ao a.n a.c) k (fun i => wcells (l i))) := Lib.hid HO.out
      have N0 : Hid (New w wr.drew) := Lib.hid HN.out.drew
      have B0 : Hid (g3 + 1 ≤ wr.drew.heap.size) := Lib.hid HB.out
      refine wp_region_noPanic ?_
      refine wp_region_held_drew (S := fun w' => HasS w' g1 l s p q) (by kernel_rfl) S0.out (fun _ => ?_)
      generalize wr.drew = wq at S0 X0 R0 O0 N0 B0 ⊢
      refine wpAnyH_take (i := 0) (v := .pointer (some ⟨g3, 0, none⟩)) rfl (by kernel_rfl) (by kernel_rfl) (by kernel_rfl) (fun _ _ _ h => h) (Or.inl ⟨rfl, fun _ _ => by go_simp⟩) S0.out ?_
      simp only [List.getElem_toArray, List.getElem_cons_zero, Act.put, List.setIfInBounds_toArray, List.set_cons_zero, List.set_cons_succ]
      refine wpAnyH_take (i := 2) (v := .int .i64 (k : Int)) rfl (by kernel_rfl) (by kernel_rfl) (by kernel_rfl) (fun _ _ _ h => h) (Or.inl ⟨rfl, fun _ _ => rfl⟩) S0.out ?_
      simp only [List.getElem_toArray, List.getElem_cons_zero, List.getElem_cons_succ, Act.put, List.setIfInBounds_toArray, List.set_cons_zero, List.set_cons_succ]
      refine wpAnyH_take (i := 3) (v := .pointer (some ⟨g1, 0, none⟩)) rfl (by kernel_rfl) (by kernel_rfl) (by kernel_rfl) (fun _ _ _ h => h) (Or.inl ⟨rfl, fun _ _ => by go_simp⟩) S0.out ?_
      simp only [List.getElem_toArray, List.getElem_cons_zero, List.getElem_cons_succ, Act.put, List.setIfInBounds_toArray, List.set_cons_zero, List.set_cons_succ]
      refine wpAnyH_take (i := 4) (v := .pointer (some ⟨g1, k * 2, none⟩)) rfl (by kernel_rfl) (by kernel_rfl) (by kernel_rfl) (fun _ _ _ h => h) (ixA_if rfl (.tmp 19) (.tmp 18) rfl g1 k hk24 rfl rfl) S0.out ?_
      simp only [List.getElem_toArray, List.getElem_cons_zero, List.getElem_cons_succ, Act.put, List.setIfInBounds_toArray, List.set_cons_zero, List.set_cons_succ]
      refine wpAnyH_take (i := 5) (v := .agg #[.bool (l k).1, .int .i64 (l k).2]) rfl (by kernel_rfl) (by kernel_rfl) (by kernel_rfl) (fun _ _ _ h => h) (yieldsIf_load_mid (by rfl) _ _ rfl g1 (k * 2) rfl (wcells (l k)) _ (fun w' h => by rw [Nat.mul_comm]; exact HasS.word h hk24) Tryz.underlying35 rfl infoWd) S0.out ?_
      simp only [List.getElem_toArray, List.getElem_cons_zero, List.getElem_cons_succ, Act.put, List.setIfInBounds_toArray, List.set_cons_zero, List.set_cons_succ]
      have cx := HasRf.l X0.out
      have cy : (wq.alloc (.cells #[.bool (l k).1, .int .i64 (l k).2] 35)).cell? ⟨g3, 0, none⟩ = some (.slice a.ao a.n a.c) := HasRf.l (HasC.new X0.out (alloc_new _ _))
      refine wpAnyH_two (i := 1) (j := 6) (di := 17) (dj := 22) (vi := .slice a.ao a.n a.c) (vj := .slice (some ⟨wq.heap.size, 0, none⟩) 1 1) (w' := wq.alloc (.cells #[.bool (l k).1, .int .i64 (l k).2] 35)) rfl rfl rfl rfl rfl rfl (by kernel_rfl) (by kernel_rfl) (by kernel_rfl) (by decide) (by decide) (by go_simp) (by go_simp) (by go_simp) (by go_simp) S0.out (HasC.new S0.out (alloc_new _ _)) ?_
      simp only [Act.put, List.setIfInBounds_toArray, List.set_cons_zero, List.set_cons_succ]
      refine wpAnyH_forced [7, 8, 9] _ _ _ (HasC.new S0.out (alloc_new _ _)) (by kernel_rfl) (by simp) ?_
      simp only [List.map_cons, List.map_nil, Array.getD_eq_getD_getElem?, List.getElem?_toArray, List.getElem?_cons_succ, List.getElem?_cons_zero, Option.getD_some]
      refine wpLS_app2 rfl (.tmp 17) (.tmp 22) 42 35 rfl Tryz.underlying42 infoW2 rfl (by decide) (g3 + 1) k B0.out (by omega) _ (fun i => wcells (l i)) rfl (.bool (l k).1) (.int .i64 (l k).2) rfl rfl rfl rfl O0.out ?_
      intro v' w5 ho hnew hold
      obtain ⟨a', rfl, ha'⟩ := own_form2 ho
      have S5 : HasS w5 g1 l s p q := hold g1 _ b1 S0.out
      refine ⟨S5, ?_⟩
      simp only [Act.put, List.setIfInBounds_toArray, List.set_cons_zero, List.set_cons_succ]
      refine wpLS_value rfl (.pointer (some ⟨g3, 0, none⟩)) S5 (by go_simp) ?_
      simp only [Act.put, List.setIfInBounds_toArray, List.set_cons_zero, List.set_cons_succ]
      refine wpLS_stR0 rfl rfl (.tmp 24) (.tmp 23) rfl g3 rfl a' rfl (hold g3 _ (Nat.lt_succ_self _) X0.out) ?_
      intro w6 H6 k6
      refine ⟨HasC.kept S5 k6 d13, ?_⟩
      refine wpLS_nil ?_
      refine NoPanic.normal ?_
      have N6 : New w w6 := k6.below _ n3 (hnew w (by omega) N0.out)
      have Q1 := Lib.hid (HasC.kept S5 k6 d13)
      have Q2 := Lib.hid (HasC.kept (show HasRf w5 g2 nilS nilS 0 0 from hold g2 _ b2 R0.out) k6 d23)
      have Q3 := Lib.hid H6
      have Q4 := Lib.hid (OwnG.kept ho k6 (Nat.lt_succ_self _))
      have Q5 := Lib.hid N6
      have Q6 : Hid (g3 + 1 ≤ w6.heap.size) := Lib.hid (HasC.lt H6)
      clear S0 X0 R0 O0 N0 B0 cx cy ho hnew hold S5 H6 k6 N6 HS HR HX HO HN HB
      go_wp2
      go_roundw
      case rel => exact ⟨k + 1, a', by go_num, hk24, Q1, Q2, Q3, Q4, Q5, Q6⟩
      case measure => simp [intOf]; omega
    · obtain rfl : k = 24 := by omega
      go_wp2_with (first
        | (refine wpList_ldRf rfl (.tmp 3) rfl g3 rfl HX.out ?_)
        | (refine wpList_stRf rfl rfl (.tmp 2) (.tmp 25) rfl g2 rfl a s p q rfl HR.out ?_; intro w7 H7 k7))
      have hel := OwnG.el (wds_len l) (OwnG.kept HO.out k7 b2)
      exact bodyPost_ret (results_cell_row rfl _ _ g2 _ _ _ _ rfl H7 Tryz.underlying44 rfl infoRf) rfl ⟨a, rfl, hel, k7.below _ n2 HN.out⟩
end Go.Proofs.YtlmnodbhfpgplaaGreatDoor
