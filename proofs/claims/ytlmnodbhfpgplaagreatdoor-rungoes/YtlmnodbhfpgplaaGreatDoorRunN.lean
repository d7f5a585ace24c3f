/-
  The law's As, where its row lies; operations that may come up in whichever order.
-/
import Derived.Test.YtlmnodbhfpgplaaGreatDoorRunL
namespace Go.Proofs.YtlmnodbhfpgplaaGreatDoor
open Go.RowKit

theorem wpOp_call {P : Program} {ops : Array Oper} {Q : Exit → Act → World → Prop} {i : Nat} {o : Oper} {a : Act} {w : World} {K : Act → World → Prop} (hi : ops[i]? = some o) (hg : o.guard = none) (f : FuncId) (args : Array Value) (hrun : (execOp a.eval o).run P w = .ok (.enter f args) w)
    (h : Calls P f args w fun e w' => ∃ v, e = .returned v ∧ K (a.put o.dst v) w') : wpOp P ops Q i K a w := by
  unfold wpOp
  simp only [hi, Region.wanted, hg, if_true]
  refine .inl ?_
  unfold Oper.wp
  rw [hrun]
  refine h.mono fun e w' ⟨v, he, hh⟩ => ?_
  subst he
  exact hh
theorem wpOp_alX {ops : Array Oper} {Q : Exit → Act → World → Prop} {i : Nat} {o : Oper} {a : Act} {w : World} {K : Act → World → Prop} (hi : ops[i]? = some o) (hg : o.guard = none) (t : TypeId) (ho : o.op = .alloc t) (z : Value) (hz : ∀ w, (zeroValue t).run Tryz.prog w = .ok z w) (cs : List Value) (hc : z.cells = cs.toArray)
    (hk : ∀ w' g, w.heap.size ≤ g → g < w'.heap.size → HasC w' g t cs → New w w' → K (a.put o.dst (.pointer (some ⟨g, 0, none⟩))) w') : wpOp Tryz.prog ops Q i K a w := by
  have hr : (execOp a.eval o).run Tryz.prog w = .ok (.value (.pointer (some ⟨w.heap.size, 0, none⟩))) (w.alloc (.cells cs.toArray t)) := by
    unfold execOp
    simp only [ho, Instr.alloc, Sem.run_bind, hz w, Result.andThen_ok, newVar, newRow, hc, run_newObj_alloc, Sem.run_pure]
  exact wpOp_value hi hg hr (hk _ _ (Nat.le_refl _) (by rw [alloc_size]; omega) (HasC.box w t cs) (alloc_new _ _))
theorem rasm_true {w0 : World} {v : Value} {f : List I} {w : World} (h : New w0 w) (hf : FunAt w0 v f) (q : ((chkF f).2 == 0) = true) :
    Calls Tryz.prog 13 #[v] w fun e w' => e = .returned (.bool true) ∧ New w0 w' := by
  have := rasmRight_from v f w h (hf.new h)
  rwa [q] at this
theorem Rz.own {w : World} {G H : Nat → Prop} {e a s o : Sl} {es : List Ev} {l : Ws} {zs oh : List Int} (R : Rz w G e es a l s zs o oh) (hs : ∀ k, H k → G k ∨ w.heap.size ≤ k) : Rz w H e es a l s zs o oh := ⟨R.ev, R.ev.ap2 R.ae hs, R.ws, R.ws.aps2 R.aa hs, R.hp, R.hp.ap2 R.ap hs, R.ho, R.ho.ap2 R.ao hs⟩
theorem Rz.mono {w : World} {G H : Nat → Prop} {e a s o : Sl} {es : List Ev} {l : Ws} {zs oh : List Int} (R : Rz w G e es a l s zs o oh) (hs : ∀ k, H k → G k) : Rz w H e es a l s zs o oh := ⟨R.ev, R.ae.mono hs, R.ws, R.aa.mono hs, R.hp, R.ap.mono hs, R.ho, R.ao.mono hs⟩
set_option maxHeartbeats 8000000 in
set_option maxRecDepth 100000 in
theorem as_far (l : Ws) (s : Sl) (p q : Int) (w : World) :
    Calls Tryz.prog 10 #[.agg (cellsS l s p q).toArray] w fun e w' => ∃ a : Sl, e = .returned (.agg (refC a s p q).toArray) ∧ WsAt w' a l ∧ New w w' ∧ FarS w.heap.size a := by
  have T2 : Hid True := Lib.hid trivial
  go_enter Tryz.func10, Tryz.ntmps10
  go_wp2_with (first
    | (refine wpList_boxX rfl 38 (.tmp 0) rfl (cellsS l s p q) rfl ?_; intro w1 g1 hg1 hl1 H1 hn1; have A1 : Hid (HasS w1 g1 l s p q) := Lib.hid H1; clear H1)
    | (clear T2; refine wpList_alX rfl 44 rfl _ zeroR_run _ rfl ?_; intro w2 g2 hg2 hl2 H2 hn2; have A2 : Hid (HasRf w2 g2 nilS nilS 0 0) := Lib.hid H2; replace A1 : Hid (HasS w2 g1 l s p q) := Lib.hid (HasC.new A1.out hn2); have k1 := HasS.hp A1.out; have k2 := HasS.at A1.out; have k3 := HasS.ask A1.out; clear H2)
    | (refine wpList_alX rfl 44 rfl _ zeroR_run _ rfl ?_; intro w3 g3 hg3 hl3 H3 hn3; have A3 : Hid (HasRf w3 g3 nilS nilS 0 0) := Lib.hid H3; replace A1 : Hid (HasS w3 g1 l s p q) := Lib.hid (HasC.new A1.out hn3); replace A2 : Hid (HasRf w3 g2 nilS nilS 0 0) := Lib.hid (HasC.new A2.out hn3); clear H3)
    | (refine wpList_stRf rfl rfl (.tmp 3) (.tmp 11) rfl g3 rfl nilS s p q rfl A3.out ?_; intro w4 H4 h4))
  have d13 : g1 ≠ g3 := by omega
  have d23 : g2 ≠ g3 := by omega
  have d12 : g1 ≠ g2 := by omega
  have n2 : w.heap.size ≤ g2 := Nat.le_trans hn1.size hg2
  have n3 : w.heap.size ≤ g3 := Nat.le_trans (hn1.trans hn2).size hg3
  have b1 : g1 < g3 + 1 := by omega
  have b2 : g2 < g3 + 1 := by omega
  have hs4 : w4.heap.size = w3.heap.size := h4.size
  go_loopw [4] (fun kv wr => ∃ (k : Nat) (a : Sl), kv = .int .i64 k ∧ k ≤ 24 ∧ Hid (HasS wr g1 l s p q) ∧ Hid (HasRf wr g2 nilS nilS 0 0) ∧ Hid (HasRf wr g3 a s p q) ∧ Hid (OwnG wr (g3 + 1) 35 (.slice a.ao a.n a.c) k (fun i => wcells (l i))) ∧ Hid (New w wr) ∧ Hid (g3 + 1 ≤ wr.heap.size)) (fun kv _ => 24 - (intOf kv).toNat)
  case atStart => exact ⟨0, nilS, rfl, by omega, Lib.hid (HasC.kept A1.out h4 d13), Lib.hid (HasC.kept A2.out h4 d23), Lib.hid H4, Lib.hid (OwnG.nil _ _ _ _), Lib.hid (h4.below _ n3 ((hn1.trans hn2).trans hn3)), Lib.hid (by omega)⟩
  case round =>
    obtain ⟨k, a, rfl, hk, HS, HR, HX, HO, HN, HB⟩ := hrel
    clear A1 A2 A3 H4 h4 hs4 hn1 hn2 hn3 hg1 hg2 hg3 hl1 hl2 hl3 k1 k2 k3
    by_cases hk24 : k < 24
    · have hk24' : (k : Int) < 24 := by omega
      go_wp2_with fail
      have S0 : Hid (HasS wr.drew g1 l s p q) := Lib.hid (HasC.new HS.out ((New.refl wr).drew))
      have X0 : Hid (HasRf wr.drew g3 a s p q) := Lib.hid (HasC.new HX.out ((New.refl wr).drew))
      have R0 : Hid (HasRf wr.drew g2 nilS nilS 0 0) := Lib.hid (HasC.new HR.out ((New.refl wr).drew))
      have O0 : Hid (OwnG wr.drew (g3 + 1) 35 (.slice a.ao a.n a.c) k (fun i => wcells (l i))) := Lib.hid HO.out
      have N0 : Hid (New w wr.drew) := Lib.hid HN.out.drew
      have B0 : Hid (g3 + 1 ≤ wr.drew.heap.size) := Lib.hid HB.out
      refine wp_region_noPanic ?_
      refine wp_region_held_drew (S := fun w' => HasS w' g1 l s p q) (by kernel_rfl) S0.out (fun _ => ?_)
      generalize wr.drew = wq at S0 X0 R0 O0 N0 B0 ⊢
      refine wpAnyH_take (i := 0) (v := .pointer (some ⟨g3, 0, none⟩)) rfl (by kernel_rfl) (by kernel_rfl) (by kernel_rfl) (fun _ _ _ h => h) (Or.inl ⟨rfl, fun _ _ => by go_simp⟩) S0.out ?_
      simp only [List.getElem_toArray, List.getElem_cons_zero, Act.put, List.setIfInBounds_toArray, List.set_cons_zero, List.set_cons_succ]
      refine wpAnyH_take (i := 2) (v := .int .i64 (k : Int)) rfl (by kernel_rfl) (by kernel_rfl) (by kernel_rfl) (fun _ _ _ h => h) (Or.inl ⟨rfl, fun _ _ => rfl⟩) S0.out ?_
      simp only [List.getElem_toArray, List.getElem_cons_zero, List.getElem_cons_succ, Act.put, List.setIfInBounds_toArray, List.set_cons_zero, List.set_cons_succ]
      refine wpAnyH_take (i := 3) (v := .pointer (some ⟨g1, 0, none⟩)) rfl (by kernel_rfl) (by kernel_rfl) (by kernel_rfl) (fun _ _ _ h => h) (Or.inl ⟨rfl, fun _ _ => by go_simp⟩) S0.out ?_
      simp only [List.getElem_toArray, List.getElem_cons_zero, List.getElem_cons_succ, Act.put, List.setIfInBounds_toArray, List.set_cons_zero, List.set_cons_succ]
      refine wpAnyH_take (i := 4) (v := .pointer (some ⟨g1, k * 2, none⟩)) rfl (by kernel_rfl) (by kernel_rfl) (by kernel_rfl) (fun _ _ _ h => h) (ixA_if rfl (.tmp 19) (.tmp 18) rfl g1 k hk24 rfl rfl) S0.out ?_
      simp only [List.getElem_toArray, List.getElem_cons_zero, List.getElem_cons_succ, Act.put, List.setIfInBounds_toArray, List.set_cons_zero, List.set_cons_succ]
      refine wpAnyH_take (i := 5) (v := .agg #[.bool (l k).1, .int .i64 (l k).2]) rfl (by kernel_rfl) (by kernel_rfl) (by kernel_rfl) (fun _ _ _ h => h) (yieldsIf_load_mid (by rfl) _ _ rfl g1 (k * 2) rfl (wcells (l k)) _ (fun w' h => by rw [Nat.mul_comm]; exact HasS.word h hk24) Tryz.underlying35 rfl infoWd) S0.out ?_
      simp only [List.getElem_toArray, List.getElem_cons_zero, List.getElem_cons_succ, Act.put, List.setIfInBounds_toArray, List.set_cons_zero, List.set_cons_succ]
      have cx := HasRf.l X0.out
      have cy : (wq.alloc (.cells #[.bool (l k).1, .int .i64 (l k).2] 35)).cell? ⟨g3, 0, none⟩ = some (.slice a.ao a.n a.c) := HasRf.l (HasC.new X0.out (alloc_new _ _))
      refine wpAnyH_two (i := 1) (j := 6) (di := 17) (dj := 22) (vi := .slice a.ao a.n a.c) (vj := .slice (some ⟨wq.heap.size, 0, none⟩) 1 1) (w' := wq.alloc (.cells #[.bool (l k).1, .int .i64 (l k).2] 35)) rfl rfl rfl rfl rfl rfl (by kernel_rfl) (by kernel_rfl) (by kernel_rfl) (by decide) (by decide) (by go_simp) (by go_simp) (by go_simp) (by go_simp) S0.out (HasC.new S0.out (alloc_new _ _)) ?_
      simp only [Act.put, List.setIfInBounds_toArray, List.set_cons_zero, List.set_cons_succ]
      refine wpAnyH_forced [7, 8, 9] _ _ _ (HasC.new S0.out (alloc_new _ _)) (by kernel_rfl) (by simp) ?_
      simp only [List.map_cons, List.map_nil, Array.getD_eq_getD_getElem?, List.getElem?_toArray, List.getElem?_cons_succ, List.getElem?_cons_zero, Option.getD_some]
      refine wpLS_app2 rfl (.tmp 17) (.tmp 22) 42 35 rfl Tryz.underlying42 infoW2 rfl (by decide) (g3 + 1) k B0.out (by omega) _ (fun i => wcells (l i)) rfl (.bool (l k).1) (.int .i64 (l k).2) rfl rfl rfl rfl O0.out ?_
      intro v' w5 ho hnew hold
      obtain ⟨a', rfl, ha'⟩ := own_form2 ho
      have S5 : HasS w5 g1 l s p q := hold g1 _ b1 S0.out
      refine ⟨S5, ?_⟩
      simp only [Act.put, List.setIfInBounds_toArray, List.set_cons_zero, List.set_cons_succ]
      refine wpLS_value rfl (.pointer (some ⟨g3, 0, none⟩)) S5 (by go_simp) ?_
      simp only [Act.put, List.setIfInBounds_toArray, List.set_cons_zero, List.set_cons_succ]
      refine wpLS_stR0 rfl rfl (.tmp 24) (.tmp 23) rfl g3 rfl a' rfl (hold g3 _ (Nat.lt_succ_self _) X0.out) ?_
      intro w6 H6 k6
      refine ⟨HasC.kept S5 k6 d13, ?_⟩
      refine wpLS_nil ?_
      refine NoPanic.normal ?_
      have N6 : New w w6 := k6.below _ n3 (hnew w (by omega) N0.out)
      have Q1 := Lib.hid (HasC.kept S5 k6 d13)
      have Q2 := Lib.hid (HasC.kept (show HasRf w5 g2 nilS nilS 0 0 from hold g2 _ b2 R0.out) k6 d23)
      have Q3 := Lib.hid H6
      have Q4 := Lib.hid (OwnG.kept ho k6 (Nat.lt_succ_self _))
      have Q5 := Lib.hid N6
      have Q6 : Hid (g3 + 1 ≤ w6.heap.size) := Lib.hid (HasC.lt H6)
      clear S0 X0 R0 O0 N0 B0 cx cy ho hnew hold S5 H6 k6 N6 HS HR HX HO HN HB
      go_wp2
      go_roundw
      case rel => exact ⟨k + 1, a', by go_num, hk24, Q1, Q2, Q3, Q4, Q5, Q6⟩
      case measure => simp [intOf]; omega
    · obtain rfl : k = 24 := by omega
      go_wp2_with (first
        | (refine wpList_ldRf rfl (.tmp 3) rfl g3 rfl HX.out ?_)
        | (refine wpList_stRf rfl rfl (.tmp 2) (.tmp 25) rfl g2 rfl a s p q rfl HR.out ?_; intro w7 H7 k7))
      have hel := OwnG.el (wds_len l) (OwnG.kept HO.out k7 b2)
      exact bodyPost_ret (results_cell_row rfl _ _ g2 _ _ _ _ rfl H7 Tryz.underlying44 rfl infoRf) rfl ⟨a, rfl, hel, k7.below _ n2 HN.out, own_far HO.out (by omega) (by omega)⟩
end Go.Proofs.YtlmnodbhfpgplaaGreatDoor
