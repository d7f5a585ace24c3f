/-
  The reference's Begin: for every case.
-/
import Derived.Test.YtfllkagbphgjlaaGreatDoorRunF
import Derived.Test.YtfllkagbphgjlaaGreatDoorStepRef
namespace Go.Proofs.YtfllkagbphgjlaaGreatDoor
open Go.RowKit

/-- A call whose guard is met, that alone may come up. -/
theorem wpAnyH_callG {P : Program} {ops : Array Oper} {md : Region.Mode} {S : World → Prop} {Q : Exit → Act → World → Prop} {i : Nat} {o : Oper} {fuel : Nat} {l : Array Bool} {a : Act} {w : World} (hi : ops[i]? = some o) (hw : Region.wanted o (yielded ops a.tmps) = true) (hr : Region.ready md ops l = [i]) (f : FuncId) (args : Array Value) (hrun : (execOp a.eval o).run P w = .ok (.enter f args) w)
    (h : Calls P f args w fun e w' => ∃ v, e = .returned v ∧ S w' ∧ wpAnyH P md ops Q S fuel (l.setIfInBounds i true) (a.put o.dst v) w') : wpAnyH P md ops Q S (fuel + 1) l a w := by
  refine wpAnyH_all hr (by simp) ?_
  simp only [List.mem_cons, List.not_mem_nil, or_false]
  rintro t rfl
  unfold wpOp
  simp only [hi, hw, if_true]
  refine .inl ?_
  unfold Oper.wp
  rw [hrun]
  refine h.mono fun e w' ⟨v, he, hh⟩ => ?_
  subst he
  exact hh
theorem ldK_if {ops : Array Oper} {S : World → Prop} {op : Oper} {act : Act} (hw : Region.wanted op (yielded ops act.tmps) = true) (x : Operand) (ho : op.op = .load 51 x) (g : Nat) (hx : act.eval x = .pointer (some ⟨g, 0, none⟩)) {rs : Nat → Int} {h a : Sl} {n : Int} (k : ∀ w, S w → HasK w g rs h a n) :
    YieldsIf Tryz.prog ops S op (.agg (caC rs h a n).toArray) act := yieldsIf_load_mid hw _ _ ho g 0 hx (caC rs h a n) _ (fun w hS => (k w hS).all) Tryz.underlying51 rfl infoCa
theorem HasK.reg {w : World} {g : Nat} {rs : Nat → Int} {h a : Sl} {n : Int} (k : HasK w g rs h a n) {i : Nat} (hi : i < 8) : w.cell? ⟨g, i, none⟩ = some (.int .i64 (rs i)) := by
  have : i = 0 ∨ i = 1 ∨ i = 2 ∨ i = 3 ∨ i = 4 ∨ i = 5 ∨ i = 6 ∨ i = 7 := by omega
  rcases this with rfl | rfl | rfl | rfl | rfl | rfl | rfl | rfl <;> exact k.cell rfl
theorem begL_lo {rs : Nat → Int} {k : Nat} (h : k < 8) : wcells (begL rs k) = [.bool true, .int .i64 (rs k)] := by
  unfold begL
  rw [if_pos h]
  rfl
theorem begL_hi {rs : Nat → Int} {k : Nat} (h : ¬ k < 8) : wcells (begL rs k) = [.bool false, .int .i64 0] := by
  unfold begL
  rw [if_neg h]
  rfl
theorem own_far {w : World} {B C n : Nat} {e : TypeId} {a : Sl} {g : Nat → List Value} (h : OwnG w B e (.slice a.ao a.n a.c) n g) (hn : 0 < n) (hc : C ≤ B) : FarS C a := by
  rcases h.2 with ⟨_, h0⟩ | ⟨k, cap, cur, hv, hb, _⟩
  · omega
  · simp only [Value.slice.injEq] at hv
    exact ⟨k, 0, hv.1, Nat.le_trans hc hb⟩
theorem ix8_run (g k : Nat) (hk : k < 8) (w : World) : (Instr.indexAt 49 (.pointer (some ⟨g, 0, none⟩)) (.int .i64 (k : Int))).run Tryz.prog w = .ok (.pointer (some ⟨g, k, none⟩)) w := by
  have hk' : (k : Int) < 8 := by omega
  simp [Instr.indexAt, Instr.sureAddr, run_underlying Tryz.underlying49, asIntOf, Addr.add_mid]
  intro; omega
set_option maxHeartbeats 8000000 in
set_option maxRecDepth 100000 in
theorem rBegin_far (rs : Nat → Int) (s ca : Sl) (n : Int) (w : World) :
    Calls Tryz.prog 27 #[.agg (caC rs s ca n).toArray] w fun e w' => ∃ a : Sl, e = .returned (.agg (refC a s 0 0).toArray) ∧ WsAt w' a (begL rs) ∧ New w w' ∧ FarS w.heap.size a := by
  obtain ⟨l, HLL⟩ : ∃ l : Ws, Hid (begL rs = l) := ⟨_, Lib.hid rfl⟩
  rw [HLL.out]
  have T2 : Hid True := Lib.hid trivial
  go_enter Tryz.func27, Tryz.ntmps27
  go_wp2_with (first
    | (refine wpList_boxX rfl 51 (.tmp 0) rfl (caC rs s ca n) rfl ?_; intro w1 g1 hg1 hl1 H1 hn1; have A1 : Hid (HasK w1 g1 rs s ca n) := Lib.hid H1; clear H1)
    | (clear T2; refine wpList_alX rfl 40 rfl _ zeroR_run _ rfl ?_; intro w2 g2 hg2 hl2 H2 hn2; have A2 : Hid (HasRf w2 g2 nilS nilS 0 0) := Lib.hid H2; replace A1 : Hid (HasK w2 g1 rs s ca n) := Lib.hid (HasC.new A1.out hn2); have k1 := HasK.hp A1.out; clear H2)
    | (refine wpList_alX rfl 40 rfl _ zeroR_run _ rfl ?_; intro w3 g3 hg3 hl3 H3 hn3; have A3 : Hid (HasRf w3 g3 nilS nilS 0 0) := Lib.hid H3; replace A1 : Hid (HasK w3 g1 rs s ca n) := Lib.hid (HasC.new A1.out hn3); replace A2 : Hid (HasRf w3 g2 nilS nilS 0 0) := Lib.hid (HasC.new A2.out hn3); clear H3)
    | (refine wpList_stRf rfl rfl (.tmp 3) (.tmp 7) rfl g3 rfl nilS s 0 0 rfl A3.out ?_; intro w4 H4 h4))
  have d13 : g1 ≠ g3 := by omega
  have d23 : g2 ≠ g3 := by omega
  have d12 : g1 ≠ g2 := by omega
  have n2 : w.heap.size ≤ g2 := Nat.le_trans hn1.size hg2
  have n3 : w.heap.size ≤ g3 := Nat.le_trans (hn1.trans hn2).size hg3
  have b1 : g1 < g3 + 1 := by omega
  have b2 : g2 < g3 + 1 := by omega
  have hs4 : w4.heap.size = w3.heap.size := h4.size
  go_loopw [4] (fun kv wr => ∃ (k : Nat) (a : Sl), kv = .int .i64 k ∧ k ≤ 24 ∧ Hid (HasK wr g1 rs s ca n) ∧ Hid (HasRf wr g2 nilS nilS 0 0) ∧ Hid (HasRf wr g3 a s 0 0) ∧ Hid (OwnG wr (g3 + 1) 24 (.slice a.ao a.n a.c) k (fun i => wcells (l i))) ∧ Hid (New w wr) ∧ Hid (g3 + 1 ≤ wr.heap.size)) (fun kv _ => 24 - (intOf kv).toNat)
  case atStart => exact ⟨0, nilS, rfl, by omega, Lib.hid (HasC.kept A1.out h4 d13), Lib.hid (HasC.kept A2.out h4 d23), Lib.hid H4, Lib.hid (OwnG.nil _ _ _ _), Lib.hid (h4.below _ n3 ((hn1.trans hn2).trans hn3)), Lib.hid (by omega)⟩
  case round =>
    obtain ⟨k, a, rfl, hk, HS, HR, HX, HO, HN, HB⟩ := hrel
    clear A1 A2 A3 H4 h4 hs4 hn1 hn2 hn3 hg1 hg2 hg3 hl1 hl2 hl3 k1
    by_cases hk24 : k < 24
    · have hk24' : (k : Int) < 24 := by omega
      have k0 := HasRf.l HX.out
      by_cases hk8 : k < 8
      · have hk8' : (k : Int) < 8 := by omega
        go_wp2_with fail
        have S0 : Hid (HasK wr.drew g1 rs s ca n) := Lib.hid (HasC.new HS.out ((New.refl wr).drew))
        have X0 : Hid (HasRf wr.drew g3 a s 0 0) := Lib.hid (HasC.new HX.out ((New.refl wr).drew))
        have R0 : Hid (HasRf wr.drew g2 nilS nilS 0 0) := Lib.hid (HasC.new HR.out ((New.refl wr).drew))
        have O0 : Hid (OwnG wr.drew (g3 + 1) 24 (.slice a.ao a.n a.c) k (fun i => wcells (l i))) := Lib.hid HO.out
        have N0 : Hid (New w wr.drew) := Lib.hid HN.out.drew
        have B0 : Hid (g3 + 1 ≤ wr.drew.heap.size) := Lib.hid HB.out
        refine wp_region_noPanic ?_
        refine wp_region_held_drew (S := fun w' => HasK w' g1 rs s ca n) (by kernel_rfl) S0.out (fun _ => ?_)
        generalize wr.drew = wq at S0 X0 R0 O0 N0 B0 ⊢
        refine wpAnyH_take (i := 0) (v := .pointer (some ⟨g3, 0, none⟩)) rfl (by kernel_rfl) (by kernel_rfl) (by kernel_rfl) (fun _ _ _ h => h) (Or.inl ⟨rfl, fun _ _ => by go_simp⟩) S0.out ?_
        simp only [List.getElem_toArray, List.getElem_cons_zero, Act.put, List.setIfInBounds_toArray, List.set_cons_zero, List.set_cons_succ]
        refine wpAnyH_take (i := 2) (v := .int .i64 (k : Int)) rfl (by kernel_rfl) (by kernel_rfl) (by kernel_rfl) (fun _ _ _ h => h) (Or.inl ⟨rfl, fun _ _ => rfl⟩) S0.out ?_
        simp only [List.getElem_toArray, List.getElem_cons_zero, List.getElem_cons_succ, Act.put, List.setIfInBounds_toArray, List.set_cons_zero, List.set_cons_succ]
        refine wpAnyH_take (i := 3) (v := .pointer (some ⟨g1, 0, none⟩)) rfl (by kernel_rfl) (by kernel_rfl) (by kernel_rfl) (fun _ _ _ h => h) (Or.inl ⟨rfl, fun _ _ => by go_simp⟩) S0.out ?_
        simp only [List.getElem_toArray, List.getElem_cons_zero, List.getElem_cons_succ, Act.put, List.setIfInBounds_toArray, List.set_cons_zero, List.set_cons_succ]
        refine wpAnyH_take (i := 4) (v := .pointer (some ⟨g1, k, none⟩)) rfl (by kernel_rfl) (by kernel_rfl) (by kernel_rfl) (fun _ _ _ h => h) (ixR_if rfl 49 (.tmp 17) (.tmp 16) rfl _ _ _ rfl rfl (ix8_run g1 k hk8)) S0.out ?_
        simp only [List.getElem_toArray, List.getElem_cons_zero, List.getElem_cons_succ, Act.put, List.setIfInBounds_toArray, List.set_cons_zero, List.set_cons_succ]
        refine wpAnyH_take (i := 5) (v := .int .i64 (rs k)) rfl (by kernel_rfl) (by kernel_rfl) (by kernel_rfl) (fun _ _ _ h => h) (ldC_if rfl 2 Tryz.isAgg2 (.tmp 18) rfl ⟨g1, k, none⟩ rfl (fun w' h => HasK.reg h hk8)) S0.out ?_
        simp only [List.getElem_toArray, List.getElem_cons_zero, List.getElem_cons_succ, Act.put, List.setIfInBounds_toArray, List.set_cons_zero, List.set_cons_succ]
        refine wpAnyH_take (i := 6) (v := .agg #[.bool true, .int .i64 (rs k)]) rfl (by kernel_rfl) (by kernel_rfl) (by kernel_rfl) (fun _ _ _ h => h) (Or.inl ⟨rfl, fun _ _ => by go_simp⟩) S0.out ?_
        simp only [List.getElem_toArray, List.getElem_cons_zero, List.getElem_cons_succ, Act.put, List.setIfInBounds_toArray, List.set_cons_zero, List.set_cons_succ]
        have cx := HasRf.l X0.out
        have cy : (wq.alloc (.cells #[.bool true, .int .i64 (rs k)] 24)).cell? ⟨g3, 0, none⟩ = some (.slice a.ao a.n a.c) := HasRf.l (HasC.new X0.out (alloc_new _ _))
        refine wpAnyH_two (i := 1) (j := 7) (di := 15) (dj := 21) (vi := .slice a.ao a.n a.c) (vj := .slice (some ⟨wq.heap.size, 0, none⟩) 1 1) (w' := wq.alloc (.cells #[.bool true, .int .i64 (rs k)] 24)) rfl rfl rfl rfl rfl rfl (by kernel_rfl) (by kernel_rfl) (by kernel_rfl) (by decide) (by decide) (by go_simp) (by go_simp) (by go_simp) (by go_simp) S0.out (HasC.new S0.out (alloc_new _ _)) ?_
        simp only [Act.put, List.setIfInBounds_toArray, List.set_cons_zero, List.set_cons_succ]
        refine wpAnyH_forced [8, 9, 10] _ _ _ (HasC.new S0.out (alloc_new _ _)) (by kernel_rfl) (by simp) ?_
        simp only [List.map_cons, List.map_nil, Array.getD_eq_getD_getElem?, List.getElem?_toArray, List.getElem?_cons_succ, List.getElem?_cons_zero, Option.getD_some]
        refine wpLS_app2 rfl (.tmp 15) (.tmp 21) 38 24 rfl Tryz.underlying38 infoW2 rfl (by decide) (g3 + 1) k B0.out (by omega) _ (fun i => wcells (l i)) rfl (.bool true) (.int .i64 (rs k)) rfl (by rw [← HLL.out]; exact begL_lo hk8) rfl rfl O0.out ?_
        intro v' w5 ho hnew hold
        obtain ⟨a', rfl, _⟩ := own_form2 ho
        have S5 : HasK w5 g1 rs s ca n := hold g1 _ b1 S0.out
        refine ⟨S5, ?_⟩
        simp only [Act.put, List.setIfInBounds_toArray, List.set_cons_zero, List.set_cons_succ]
        refine wpLS_value rfl (.pointer (some ⟨g3, 0, none⟩)) S5 (by go_simp) ?_
        simp only [Act.put, List.setIfInBounds_toArray, List.set_cons_zero, List.set_cons_succ]
        refine wpLS_stR0 rfl rfl (.tmp 23) (.tmp 22) rfl g3 rfl a' rfl (hold g3 _ (Nat.lt_succ_self _) X0.out) ?_
        intro w6 H6 k6
        refine ⟨HasC.kept S5 k6 d13, ?_⟩
        refine wpLS_nil ?_
        refine NoPanic.normal ?_
        have N6 : New w w6 := k6.below _ n3 (hnew w (by omega) N0.out)
        have Q1 := Lib.hid (HasC.kept S5 k6 d13)
        have Q2 := Lib.hid (HasC.kept (show HasRf w5 g2 nilS nilS 0 0 from hold g2 _ b2 R0.out) k6 d23)
        have Q3 := Lib.hid H6
        have Q4 := Lib.hid (OwnG.kept ho k6 (Nat.lt_succ_self _))
        have Q5 := Lib.hid N6
        have Q6 : Hid (g3 + 1 ≤ w6.heap.size) := Lib.hid (HasC.lt H6)
        clear S0 X0 R0 O0 N0 B0 cx cy ho hnew hold S5 H6 k6 N6 HS HR HX HO HN HB
        go_wp2
        go_roundw
        case rel => exact ⟨k + 1, a', by go_num, hk24, Q1, Q2, Q3, Q4, Q5, Q6⟩
        case measure => simp [intOf]; omega
      · have hk8' : ¬ (k : Int) < 8 := by omega
        have Ta : Hid True := Lib.hid trivial
        have Tb : Hid True := Lib.hid trivial
        go_wp2_with (first
          | (clear Ta; at_builtin; refine wpList_app2 rfl (.tmp 25) (.tmp 27) 38 24 rfl Tryz.underlying38 infoW2 rfl (by decide) (g3 + 1) k HB.out (by omega) _ (fun i => wcells (l i)) rfl (.bool false) (.int .i64 0) rfl (by rw [← HLL.out]; exact begL_hi hk8) rfl rfl HO.out ?_; intro v' w5 ho hnew hold; obtain ⟨a', rfl, ha'⟩ := own_form2 ho; clear ha'; have S5 : HasK w5 g1 rs s ca n := hold g1 _ b1 HS.out; have X5 : HasRf w5 g3 a s 0 0 := hold g3 _ (Nat.lt_succ_self _) HX.out)
          | (clear Tb; refine wpList_stR0 rfl rfl (.tmp 29) (.tmp 28) rfl g3 rfl a' rfl X5 ?_; intro w6 H6 k6; have N6 : New w w6 := k6.below _ n3 (hnew w (by omega) HN.out); have Q1 := Lib.hid (HasC.kept S5 k6 d13); have Q2 := Lib.hid (HasC.kept (show HasRf w5 g2 nilS nilS 0 0 from hold g2 _ b2 HR.out) k6 d23); have Q3 := Lib.hid H6; have Q4 := Lib.hid (OwnG.kept ho k6 (Nat.lt_succ_self _)); have Q5 := Lib.hid N6; have Q6 : Hid (g3 + 1 ≤ w6.heap.size) := Lib.hid (HasC.lt H6); clear ho hnew hold S5 X5 H6 k6 N6))
        go_roundw
        case rel => exact ⟨k + 1, a', by go_num, hk24, Q1, Q2, Q3, Q4, Q5, Q6⟩
        case measure => simp [intOf]; omega
    · obtain rfl : k = 24 := by omega
      go_wp2_with (first
        | (refine wpList_ldRf rfl (.tmp 3) rfl g3 rfl HX.out ?_)
        | (refine wpList_stRf rfl rfl (.tmp 2) (.tmp 30) rfl g2 rfl a s 0 0 rfl HR.out ?_; intro w7 H7 k7))
      have hel := OwnG.el (wds_len l) (OwnG.kept HO.out k7 b2)
      exact bodyPost_ret (results_cell_row rfl _ _ g2 _ _ _ _ rfl H7 Tryz.underlying40 rfl infoRf) rfl ⟨a, rfl, hel, k7.below _ n2 HN.out, own_far HO.out (by omega) (by omega)⟩
theorem rBegin_any (rs : Nat → Int) (s ca : Sl) (n : Int) (w : World) :
    Calls Tryz.prog 27 #[.agg (caC rs s ca n).toArray] w fun e w' => ∃ a : Sl, e = .returned (.agg (refC a s 0 0).toArray) ∧ WsAt w' a (begL rs) ∧ New w w' :=
  (rBegin_far rs s ca n w).mono fun _ _ ⟨a, h1, h2, h3, _⟩ => ⟨a, h1, h2, h3⟩
end Go.Proofs.YtfllkagbphgjlaaGreatDoor
