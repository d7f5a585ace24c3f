/-
  The reference's After (joineryref05), for every table and instruction.
  The reference's From (joineryref09) and Same of tables (joineryref05): for every function and place.
-/
import Derived.Test.YtphopkjgfkaihaaGreatDoorEnvRefA
import Derived.Test.YtphopkjgfkaihaaGreatDoorHeld
import Derived.Test.YtphopkjgfkaihaaGreatDoorHasHI
import Derived.Test.YtphopkjgfkaihaaGreatDoorRefMoves
namespace Go.Proofs.YtphopkjgfkaihaaGreatDoor
open Go.RowKit

theorem placeR_any (l : Int) (w : World) :
    Calls Tryz.prog 115 #[.int .i64 l] w fun e w' => e = .returned (.bool (rightB l)) ∧ w = w' := by
  cases h : rightB l with
  | true =>
    have h1 : decide (0 ≤ l) = true := decide_eq_true (right_lt h).2.1
    have h2 : decide (l < 24) = true := decide_eq_true (right_lt h).2.2
    clear h
    go_enter Tryz.func115, Tryz.ntmps115
    go_wp2
    go_ret
    exact ⟨rfl, rfl⟩
  | false =>
    by_cases h0 : 0 ≤ l
    · have h1 : decide (0 ≤ l) = true := decide_eq_true h0
      have h2 : decide (l < 24) = false := decide_eq_false (fun h3 => by
        have := of_decide_eq_false h
        omega)
      clear h h0
      go_enter Tryz.func115, Tryz.ntmps115
      go_wp2
      go_ret
      exact ⟨rfl, rfl⟩
    · have h1 : decide (0 ≤ l) = false := decide_eq_false h0
      clear h h0
      go_enter Tryz.func115, Tryz.ntmps115
      go_wp2
      go_ret
      exact ⟨rfl, rfl⟩
theorem rcells_len (s : Sr) : (rcells s).length = 2 := rfl
theorem rcells_one (s : Sr) : ∀ c ∈ rcells s, c.oneCell' = true := by
  intro c hc
  simp only [rcells, List.mem_cons, List.not_mem_nil, or_false] at hc
  rcases hc with rfl | rfl <;> rfl
theorem rcells_upd (t : Tb) (k : Nat) (s : Sr) : updG (fun i => rcells (t i)) k (rcells s) = fun i => rcells (upd t k s i) := by
  funext i
  unfold updG upd
  split <;> rfl
theorem sizeR2 : (Tryz.prog.info? 113).map (·.size) = some 2 := by kernel_rfl
theorem zeroRs_run (w : World) : (zeroValue 113).run Tryz.prog w = .ok (.agg #[.int .i64 0, .int .i64 0]) w := Tryz.zeroValue113 w
abbrev HasRs (w : World) (g : Nat) (s : Sr) : Prop := HasC w g 113 (rcells s)
/-- A place's source is stored into the row. -/
theorem wpList_stRs {ops : Array Oper} {rest : List Oper} {op : Oper} {act : Act} {w : World} {Q : Exit → Act → World → Prop} (hgd : op.guard = none) (hdst : op.dst = none) (a b : Operand) (ho : op.op = .store 113 a b) (k i : Nat) (hi : i < 24) (hx : act.eval a = .pointer (some ⟨k, i * 2, none⟩)) (s : Sr) (hy : act.eval b = .agg #[.int .i64 (refS s).1, .int .i64 (refS s).2])
    {t : Tb} (h : RwE w 113 k 24 (fun i => rcells (t i))) (hk : ∀ w', RwE w' 113 k 24 (fun j => rcells (upd t i s j)) → Kept k w w' → wpList Tryz.prog ops Q rest act w') : wpList Tryz.prog ops Q (op :: rest) act w :=
  wpList_stE2 hgd hdst _ a b ho k i 24 hi hx _ _ hy rfl rfl sizeR2 (fun _ => rfl) h fun w' h1 h2 => hk w' (by rw [← rcells_upd]; exact h1) h2
theorem ix_Rs (k i cap : Nat) (hi : i < 24) (w : World) : (Instr.indexAt 43 (.slice (some ⟨k, 0, none⟩) 24 cap) (.int .i64 (i : Int))).run Tryz.prog w = .ok (.pointer (some ⟨k, i * 2, none⟩)) w := ix_E2 Tryz.underlying43 sizeR k i 24 cap hi w
set_option maxHeartbeats 4000000 in
set_option maxRecDepth 100000 in
theorem refAfterK_out1 (v : Value) (t : Tb) (x : I) (hd : rightB x.d = false) (w : World) (h : ElAt w v 24 (fun i => rcells (t i))) :
    Calls Tryz.prog 103 #[v, .agg #[.int .i64 (x).op, .int .i64 (x).d, .int .i64 (x).a, .int .i64 (x).b, .int .i64 (x).n, .int .i64 (x).t]] w fun e w' => ∃ k cap, e = .returned (.slice (some ⟨k, 0, none⟩) 24 cap) ∧ RwE w' 113 k 24 (fun i => rcells (orN t i)) ∧ New w w' ∧ w.heap.size ≤ k := by
  have HV := Lib.hid h
  clear h
  have T1 : Hid True := Lib.hid trivial
  have T2 : Hid True := Lib.hid trivial
  have T3 : Hid True := Lib.hid trivial
  have T4 : Hid True := Lib.hid trivial
  go_enter Tryz.func103, Tryz.ntmps103
  go_wp2_with (first
    | (clear T1; refine wpList_boxX rfl 79 (.tmp 1) rfl (cells6 x) rfl ?_; intro w1 g3 hg3 hl3 H3 hn; have A3 : Hid (HasC w1 g3 79 (cells6 x)) := Lib.hid H3; have N1 := Lib.hid hn; clear H3 hn)
    | (go_at_call 114; refine (refgood_any v t _ (HV.out.new (N1.out.trans (alloc_new _ _)))).mono ?_; rintro e w2 ⟨vg, rfl, hg, hn⟩; have HG := Lib.hid hg; have M2 := Lib.hid ((alloc_new _ _).trans hn); have HO := Lib.hid (owns_new (own_emptyE (w := w1) 113 2 w1.heap.size (Nat.le_refl _)) hn); clear hg hn)
    | (at_builtin; clear T2; refine wpList_appE2 rfl (.tmp 8) (.tmp 10) 43 113 rfl Tryz.underlying43 infoR2 rfl (by decide) w1.heap.size _ rfl HO.out vg rfl 24 (by decide) (by decide) (fun i => rcells (orN t i)) (fun _ => rfl) (fun i => rcells_one _) HG.out M2.out.size ?_; intro v5 w3 hw3 hn3; obtain ⟨k5, cap5, e5, hk5, hr5⟩ := OwnG.block hw3 (by decide); subst e5; have R3 := Lib.hid hr5; have M3 : Hid (New w1 w3) := Lib.hid (hn3 w1 (Nat.le_refl _) M2.out); have N3 : Hid (New w w3) := Lib.hid (N1.out.trans M3.out); have A5 : Hid (HasC w3 g3 79 (cells6 x)) := Lib.hid (HasC.new A3.out M3.out); have dk : g3 ≠ k5 := (by omega); have nk : w.heap.size ≤ k5 := Nat.le_trans N1.out.size hk5; have c1 := HasC.cell A5.out (k := 1) rfl; have c2 := HasC.cell A5.out (k := 2) rfl; clear hw3 hn3 hr5 hk5 A3 HG HO M2 M3)
    | (clear T3; go_at_call 115; refine (placeR_any x.d _).mono ?_; rw [hd]; rintro e wq ⟨rfl, rfl⟩))
  go_ret
  first | exact ⟨_, _, rfl, R3.out, N3.out, nk⟩ | exact ⟨_, ⟨_, rfl⟩, R3.out, N3.out, nk⟩
set_option maxHeartbeats 4000000 in
set_option maxRecDepth 100000 in
theorem refAfterK_out2 (v : Value) (t : Tb) (x : I) (hd : rightB x.d = true) (ha : rightB x.a = false) (w : World) (h : ElAt w v 24 (fun i => rcells (t i))) :
    Calls Tryz.prog 103 #[v, .agg #[.int .i64 (x).op, .int .i64 (x).d, .int .i64 (x).a, .int .i64 (x).b, .int .i64 (x).n, .int .i64 (x).t]] w fun e w' => ∃ k cap, e = .returned (.slice (some ⟨k, 0, none⟩) 24 cap) ∧ RwE w' 113 k 24 (fun i => rcells (orN t i)) ∧ New w w' ∧ w.heap.size ≤ k := by
  have HV := Lib.hid h
  clear h
  have T1 : Hid True := Lib.hid trivial
  have T2 : Hid True := Lib.hid trivial
  have T3 : Hid True := Lib.hid trivial
  have T4 : Hid True := Lib.hid trivial
  go_enter Tryz.func103, Tryz.ntmps103
  go_wp2_with (first
    | (clear T1; refine wpList_boxX rfl 79 (.tmp 1) rfl (cells6 x) rfl ?_; intro w1 g3 hg3 hl3 H3 hn; have A3 : Hid (HasC w1 g3 79 (cells6 x)) := Lib.hid H3; have N1 := Lib.hid hn; clear H3 hn)
    | (go_at_call 114; refine (refgood_any v t _ (HV.out.new (N1.out.trans (alloc_new _ _)))).mono ?_; rintro e w2 ⟨vg, rfl, hg, hn⟩; have HG := Lib.hid hg; have M2 := Lib.hid ((alloc_new _ _).trans hn); have HO := Lib.hid (owns_new (own_emptyE (w := w1) 113 2 w1.heap.size (Nat.le_refl _)) hn); clear hg hn)
    | (at_builtin; clear T2; refine wpList_appE2 rfl (.tmp 8) (.tmp 10) 43 113 rfl Tryz.underlying43 infoR2 rfl (by decide) w1.heap.size _ rfl HO.out vg rfl 24 (by decide) (by decide) (fun i => rcells (orN t i)) (fun _ => rfl) (fun i => rcells_one _) HG.out M2.out.size ?_; intro v5 w3 hw3 hn3; obtain ⟨k5, cap5, e5, hk5, hr5⟩ := OwnG.block hw3 (by decide); subst e5; have R3 := Lib.hid hr5; have M3 : Hid (New w1 w3) := Lib.hid (hn3 w1 (Nat.le_refl _) M2.out); have N3 : Hid (New w w3) := Lib.hid (N1.out.trans M3.out); have A5 : Hid (HasC w3 g3 79 (cells6 x)) := Lib.hid (HasC.new A3.out M3.out); have dk : g3 ≠ k5 := (by omega); have nk : w.heap.size ≤ k5 := Nat.le_trans N1.out.size hk5; have c1 := HasC.cell A5.out (k := 1) rfl; have c2 := HasC.cell A5.out (k := 2) rfl; clear hw3 hn3 hr5 hk5 A3 HG HO M2 M3)
    | (clear T3; go_at_call 115; refine (placeR_any x.d _).mono ?_; rw [hd]; rintro e wq ⟨rfl, rfl⟩)
    | (clear T4; go_at_call 115; refine (placeR_any x.a _).mono ?_; rw [ha]; rintro e wq ⟨rfl, rfl⟩))
  go_ret
  first | exact ⟨_, _, rfl, R3.out, N3.out, nk⟩ | exact ⟨_, ⟨_, rfl⟩, R3.out, N3.out, nk⟩
set_option maxHeartbeats 8000000 in
set_option maxRecDepth 100000 in
theorem refAfterK_const (v : Value) (t : Tb) (o b n u : Int) (kd ka : Nat) (hkd : kd < 24) (hka : ka < 24) (h1 : (o == 1) = true) (h2 : (o == 2) = false) (h3 : (o == 3) = false) (hd : rightB (kd : Int) = true) (ha : rightB (ka : Int) = true) (w : World) (h : ElAt w v 24 (fun i => rcells (t i))) :
    Calls Tryz.prog 103 #[v, .agg #[.int .i64 o, .int .i64 (kd : Int), .int .i64 (ka : Int), .int .i64 b, .int .i64 n, .int .i64 u]] w fun e w' => ∃ k cap, e = .returned (.slice (some ⟨k, 0, none⟩) 24 cap) ∧ RwE w' 113 k 24 (fun i => rcells (aft t ⟨o, (kd : Int), (ka : Int), b, n, u⟩ i)) ∧ New w w' ∧ w.heap.size ≤ k := by
  have HV := Lib.hid h
  have HE : Hid (aft t ⟨o, (kd : Int), (ka : Int), b, n, u⟩ = upd (orN t) kd (1, n)) := Lib.hid (by
    unfold aft
    rw [if_pos ⟨hd, ha⟩]
    rw [if_pos (by simpa using h1)]
    simp)
  rw [HE.out]
  clear h
  have T1 : Hid True := Lib.hid trivial
  have T2 : Hid True := Lib.hid trivial
  have T3 : Hid True := Lib.hid trivial
  have T4 : Hid True := Lib.hid trivial
  have T5 : Hid True := Lib.hid trivial
  go_enter Tryz.func103, Tryz.ntmps103
  go_wp2_with (first
    | (clear T1; refine wpList_boxX rfl 79 (.tmp 1) rfl (cells6 ⟨o, (kd : Int), (ka : Int), b, n, u⟩) rfl ?_; intro w1 g3 hg3 hl3 H3 hn; have A3 : Hid (HasC w1 g3 79 (cells6 ⟨o, (kd : Int), (ka : Int), b, n, u⟩)) := Lib.hid H3; have N1 := Lib.hid hn; clear H3 hn)
    | (go_at_call 114; refine (refgood_any v t _ (HV.out.new (N1.out.trans (alloc_new _ _)))).mono ?_; rintro e w2 ⟨vg, rfl, hg, hn⟩; have HG := Lib.hid hg; have M2 := Lib.hid ((alloc_new _ _).trans hn); have HO := Lib.hid (owns_new (own_emptyE (w := w1) 113 2 w1.heap.size (Nat.le_refl _)) hn); clear hg hn)
    | (at_builtin; clear T2; refine wpList_appE2 rfl (.tmp 8) (.tmp 10) 43 113 rfl Tryz.underlying43 infoR2 rfl (by decide) w1.heap.size _ rfl HO.out vg rfl 24 (by decide) (by decide) (fun i => rcells (orN t i)) (fun _ => rfl) (fun i => rcells_one _) HG.out M2.out.size ?_; intro v5 w3 hw3 hn3; obtain ⟨k5, cap5, e5, hk5, hr5⟩ := OwnG.block hw3 (by decide); subst e5; have R3 := Lib.hid hr5; have M3 : Hid (New w1 w3) := Lib.hid (hn3 w1 (Nat.le_refl _) M2.out); have N3 : Hid (New w w3) := Lib.hid (N1.out.trans M3.out); have A5 : Hid (HasC w3 g3 79 (cells6 ⟨o, (kd : Int), (ka : Int), b, n, u⟩)) := Lib.hid (HasC.new A3.out M3.out); have dk : g3 ≠ k5 := (by omega); have nk : w.heap.size ≤ k5 := Nat.le_trans N1.out.size hk5; have c1 := HasC.cell A5.out (k := 1) rfl; have c2 := HasC.cell A5.out (k := 2) rfl; clear hw3 hn3 hr5 hk5 A3 HG HO M2 M3)
    | (clear T3; go_at_call 115; refine (placeR_any (kd : Int) _).mono ?_; rw [hd]; rintro e wq ⟨rfl, rfl⟩)
    | (clear T4; go_at_call 115; refine (placeR_any (ka : Int) _).mono ?_; rw [ha]; rintro e wq ⟨rfl, rfl⟩))
  have S0 : Hid (New w3 w3.drew) := Lib.hid ((New.refl w3).drew)
  refine wp_region_noPanic ?_
  refine wp_region_held_drew (S := fun w' => New w3 w') (by kernel_rfl) S0.out (fun _ => ?_)
  refine wpAnyH_take (i := 0) (v := .slice (some ⟨k5, 0, none⟩) 24 cap5) rfl (by kernel_rfl) (by kernel_rfl) (by kernel_rfl) (fun _ _ _ h => h) (Or.inl ⟨rfl, fun _ _ => by go_simp⟩) S0.out ?_
  simp only [List.getElem_toArray, List.getElem_cons_zero, Act.put, List.setIfInBounds_toArray, List.set_cons_zero, List.set_cons_succ]
  refine wpAnyH_take (i := 1) (v := .pointer (some ⟨g3, 1, none⟩)) rfl (by kernel_rfl) (by kernel_rfl) (by kernel_rfl) (fun _ _ _ h => h) (Or.inl ⟨rfl, fun _ _ => by go_simp⟩) S0.out ?_
  simp only [List.getElem_toArray, List.getElem_cons_zero, List.getElem_cons_succ, Act.put, List.setIfInBounds_toArray, List.set_cons_zero, List.set_cons_succ]
  refine wpAnyH_take (i := 2) (v := .int .i64 (kd : Int)) rfl (by kernel_rfl) (by kernel_rfl) (by kernel_rfl) (fun _ _ _ h => h) (ldV_if rfl 3 Tryz.isAgg3 (.tmp 24) rfl ⟨g3, 1, none⟩ rfl (fun w' h => HasC.cell (HasC.new A5.out h) rfl)) S0.out ?_
  simp only [List.getElem_toArray, List.getElem_cons_zero, List.getElem_cons_succ, Act.put, List.setIfInBounds_toArray, List.set_cons_zero, List.set_cons_succ]
  refine wpAnyH_take (i := 3) (v := .pointer (some ⟨k5, kd * 2, none⟩)) rfl (by kernel_rfl) (by kernel_rfl) (by kernel_rfl) (fun _ _ _ h => h) (ixV_if rfl _ (.tmp 23) (.tmp 25) rfl _ _ _ rfl rfl (ix_Rs k5 kd cap5 hkd)) S0.out ?_
  simp only [List.getElem_toArray, List.getElem_cons_zero, List.getElem_cons_succ, Act.put, List.setIfInBounds_toArray, List.set_cons_zero, List.set_cons_succ]
  refine wpAnyH_take (i := 4) (v := .agg #[.int .i64 (refS (orN t kd)).1, .int .i64 (refS (orN t kd)).2]) rfl (by kernel_rfl) (by kernel_rfl) (by kernel_rfl) (fun _ _ _ h => h) (yieldsIf_load_mid (by rfl) _ _ rfl k5 (kd * 2) rfl (rcells (orN t kd)) _ (fun w' h => (R3.out.new h).range (fun _ => rfl) hkd) Tryz.underlying113 rfl sizeR2) S0.out ?_
  simp only [List.getElem_toArray, List.getElem_cons_zero, List.getElem_cons_succ, Act.put, List.setIfInBounds_toArray, List.set_cons_zero, List.set_cons_succ]
  refine wpAnyH_take (i := 5) (v := .slice (some ⟨k5, 0, none⟩) 24 cap5) rfl (by kernel_rfl) (by kernel_rfl) (by kernel_rfl) (fun _ _ _ h => h) (Or.inl ⟨rfl, fun _ _ => by go_simp⟩) S0.out ?_
  simp only [List.getElem_toArray, List.getElem_cons_zero, List.getElem_cons_succ, Act.put, List.setIfInBounds_toArray, List.set_cons_zero, List.set_cons_succ]
  refine wpAnyH_take (i := 6) (v := .pointer (some ⟨g3, 2, none⟩)) rfl (by kernel_rfl) (by kernel_rfl) (by kernel_rfl) (fun _ _ _ h => h) (Or.inl ⟨rfl, fun _ _ => by go_simp⟩) S0.out ?_
  simp only [List.getElem_toArray, List.getElem_cons_zero, List.getElem_cons_succ, Act.put, List.setIfInBounds_toArray, List.set_cons_zero, List.set_cons_succ]
  refine wpAnyH_take (i := 7) (v := .int .i64 (ka : Int)) rfl (by kernel_rfl) (by kernel_rfl) (by kernel_rfl) (fun _ _ _ h => h) (ldV_if rfl 3 Tryz.isAgg3 (.tmp 29) rfl ⟨g3, 2, none⟩ rfl (fun w' h => HasC.cell (HasC.new A5.out h) rfl)) S0.out ?_
  simp only [List.getElem_toArray, List.getElem_cons_zero, List.getElem_cons_succ, Act.put, List.setIfInBounds_toArray, List.set_cons_zero, List.set_cons_succ]
  refine wpAnyH_take (i := 8) (v := .pointer (some ⟨k5, ka * 2, none⟩)) rfl (by kernel_rfl) (by kernel_rfl) (by kernel_rfl) (fun _ _ _ h => h) (ixV_if rfl _ (.tmp 28) (.tmp 30) rfl _ _ _ rfl rfl (ix_Rs k5 ka cap5 hka)) S0.out ?_
  simp only [List.getElem_toArray, List.getElem_cons_zero, List.getElem_cons_succ, Act.put, List.setIfInBounds_toArray, List.set_cons_zero, List.set_cons_succ]
  refine wpAnyH_take (i := 9) (v := .agg #[.int .i64 (refS (orN t ka)).1, .int .i64 (refS (orN t ka)).2]) rfl (by kernel_rfl) (by kernel_rfl) (by kernel_rfl) (fun _ _ _ h => h) (yieldsIf_load_mid (by rfl) _ _ rfl k5 (ka * 2) rfl (rcells (orN t ka)) _ (fun w' h => (R3.out.new h).range (fun _ => rfl) hka) Tryz.underlying113 rfl sizeR2) S0.out ?_
  simp only [List.getElem_toArray, List.getElem_cons_zero, List.getElem_cons_succ, Act.put, List.setIfInBounds_toArray, List.set_cons_zero, List.set_cons_succ]
  refine wpAnyH_new2 (i := 10) (j := 11) (o := .cells #[.int .i64 0, .int .i64 0] 113 (0, 0)) (di := 6) (dj := 7) (m := 2) rfl rfl rfl rfl rfl rfl (run_alO _ rfl _ zeroRs_run) (run_alO _ rfl _ zeroRs_run) (by kernel_rfl) (by decide) (by decide) (fun _ h => h.alloc _) S0.out ?_
  intro g6 g7 q1 q2 q3 q4 q5 hS
  simp only [Act.put, List.setIfInBounds_toArray, List.set_cons_zero, List.set_cons_succ]
  simp only [ptr]
  have d6 : HasRs ((w3.drew.alloc (.cells #[.int .i64 0, .int .i64 0] 113 (0, 0))).alloc (.cells #[.int .i64 0, .int .i64 0] 113 (0, 0))) g6 (0, 0) := two_al q1 q3
  have d7 : HasRs ((w3.drew.alloc (.cells #[.int .i64 0, .int .i64 0] 113 (0, 0))).alloc (.cells #[.int .i64 0, .int .i64 0] 113 (0, 0))) g7 (0, 0) := two_al q2 q4
  have hz : w3.drew.heap.size = w3.heap.size := rfl
  rw [hz] at q1 q2
  generalize (w3.drew.alloc (.cells #[.int .i64 0, .int .i64 0] 113 (0, 0))).alloc (.cells #[.int .i64 0, .int .i64 0] 113 (0, 0)) = wa at d6 d7 hS ⊢
  clear q3 q4 hz
  refine wpAnyH_forced [12, 13] _ _ _ hS (by kernel_rfl) (by simp) ?_
  simp only [List.map_cons, List.map_nil, Array.getD_eq_getD_getElem?, List.getElem?_toArray, List.getElem?_cons_succ, List.getElem?_cons_zero, Option.getD_some]
  refine wpLS_stC rfl rfl 113 (.tmp 6) (.tmp 27) rfl g6 rfl _ rfl d6 (rcells (orN t kd)) rfl rfl (rcells_one _) sizeR2 ?_
  intro wb b6 k6
  have nb := k6.below w3 q1 hS
  refine ⟨nb, ?_⟩
  refine wpLS_stC rfl rfl 113 (.tmp 7) (.tmp 32) rfl g7 rfl _ rfl (HasC.kept d7 k6 (Ne.symm q5)) (rcells (orN t ka)) rfl rfl (rcells_one _) sizeR2 ?_
  intro wc b7 k7
  have nc := k7.below w3 q2 nb
  refine ⟨nc, ?_⟩
  refine wpLS_nil ?_
  refine NoPanic.normal ?_
  have D6 : Hid (HasRs wc g6 (orN t kd)) := Lib.hid (HasC.kept b6 k7 q5)
  have D7 : Hid (HasRs wc g7 (orN t ka)) := Lib.hid b7
  have RC : Hid (RwE wc 113 k5 24 (fun i => rcells (orN t i))) := Lib.hid (R3.out.new nc)
  have AC : Hid (HasC wc g3 79 (cells6 ⟨o, (kd : Int), (ka : Int), b, n, u⟩)) := Lib.hid (HasC.new A5.out nc)
  have NC : Hid (New w wc) := Lib.hid (N3.out.trans nc)
  have d56 : k5 ≠ g6 := Nat.ne_of_lt (Nat.lt_of_lt_of_le R3.out.lt q1)
  have d57 : k5 ≠ g7 := Nat.ne_of_lt (Nat.lt_of_lt_of_le R3.out.lt q2)
  have ixd := ix_Rs k5 kd cap5 hkd
  have ixa := ix_Rs k5 ka cap5 hka
  have c0 := HasC.cell AC.out (k := 0) rfl
  have c1 := HasC.cell AC.out (k := 1) rfl
  have c2 := HasC.cell AC.out (k := 2) rfl
  have c4 := HasC.cell AC.out (k := 4) rfl
  clear d6 d7 hS b6 k6 b7 k7 nb nc S0 R3 A5 N3 q1 q2 q5
  go_wp2_with (first
    | (clear T5; refine wpList_stRs rfl rfl (.tmp 42) (.tmp 41) rfl k5 kd hkd rfl (1, n) rfl RC.out ?_; intro w8 r8 k8; have Rw8 := Lib.hid r8; have Nw8 := Lib.hid (k8.below w nk NC.out); have Aw8 : Hid (HasC w8 g3 79 (cells6 ⟨o, (kd : Int), (ka : Int), b, n, u⟩)) := Lib.hid (HasC.kept AC.out k8 dk); have E6w8 : Hid (HasRs w8 g6 (orN t kd)) := Lib.hid (HasC.kept D6.out k8 (Ne.symm d56)); have c0 := HasC.cell Aw8.out (k := 0) rfl; have c1 := HasC.cell Aw8.out (k := 1) rfl; have c2 := HasC.cell Aw8.out (k := 2) rfl; clear r8 k8))
  go_ret
  first | exact ⟨_, _, rfl, Rw8.out, Nw8.out, nk⟩ | exact ⟨_, ⟨_, rfl⟩, Rw8.out, Nw8.out, nk⟩
set_option maxHeartbeats 8000000 in
set_option maxRecDepth 100000 in
theorem refAfterK_mov (v : Value) (t : Tb) (o b n u : Int) (kd ka : Nat) (hkd : kd < 24) (hka : ka < 24) (h1 : (o == 1) = false) (h2 : (o == 2) = true) (h3 : (o == 3) = false) (hd : rightB (kd : Int) = true) (ha : rightB (ka : Int) = true) (w : World) (h : ElAt w v 24 (fun i => rcells (t i))) :
    Calls Tryz.prog 103 #[v, .agg #[.int .i64 o, .int .i64 (kd : Int), .int .i64 (ka : Int), .int .i64 b, .int .i64 n, .int .i64 u]] w fun e w' => ∃ k cap, e = .returned (.slice (some ⟨k, 0, none⟩) 24 cap) ∧ RwE w' 113 k 24 (fun i => rcells (aft t ⟨o, (kd : Int), (ka : Int), b, n, u⟩ i)) ∧ New w w' ∧ w.heap.size ≤ k := by
  have HV := Lib.hid h
  have HE : Hid (aft t ⟨o, (kd : Int), (ka : Int), b, n, u⟩ = upd (orN t) kd (orN t ka)) := Lib.hid (by
    unfold aft
    rw [if_pos ⟨hd, ha⟩]
    rw [if_neg (by simpa using h1), if_pos (by simpa using h2)]
    simp)
  rw [HE.out]
  clear h
  have T1 : Hid True := Lib.hid trivial
  have T2 : Hid True := Lib.hid trivial
  have T3 : Hid True := Lib.hid trivial
  have T4 : Hid True := Lib.hid trivial
  have T5 : Hid True := Lib.hid trivial
  have T6 : Hid True := Lib.hid trivial
  go_enter Tryz.func103, Tryz.ntmps103
  go_wp2_with (first
    | (clear T1; refine wpList_boxX rfl 79 (.tmp 1) rfl (cells6 ⟨o, (kd : Int), (ka : Int), b, n, u⟩) rfl ?_; intro w1 g3 hg3 hl3 H3 hn; have A3 : Hid (HasC w1 g3 79 (cells6 ⟨o, (kd : Int), (ka : Int), b, n, u⟩)) := Lib.hid H3; have N1 := Lib.hid hn; clear H3 hn)
    | (go_at_call 114; refine (refgood_any v t _ (HV.out.new (N1.out.trans (alloc_new _ _)))).mono ?_; rintro e w2 ⟨vg, rfl, hg, hn⟩; have HG := Lib.hid hg; have M2 := Lib.hid ((alloc_new _ _).trans hn); have HO := Lib.hid (owns_new (own_emptyE (w := w1) 113 2 w1.heap.size (Nat.le_refl _)) hn); clear hg hn)
    | (at_builtin; clear T2; refine wpList_appE2 rfl (.tmp 8) (.tmp 10) 43 113 rfl Tryz.underlying43 infoR2 rfl (by decide) w1.heap.size _ rfl HO.out vg rfl 24 (by decide) (by decide) (fun i => rcells (orN t i)) (fun _ => rfl) (fun i => rcells_one _) HG.out M2.out.size ?_; intro v5 w3 hw3 hn3; obtain ⟨k5, cap5, e5, hk5, hr5⟩ := OwnG.block hw3 (by decide); subst e5; have R3 := Lib.hid hr5; have M3 : Hid (New w1 w3) := Lib.hid (hn3 w1 (Nat.le_refl _) M2.out); have N3 : Hid (New w w3) := Lib.hid (N1.out.trans M3.out); have A5 : Hid (HasC w3 g3 79 (cells6 ⟨o, (kd : Int), (ka : Int), b, n, u⟩)) := Lib.hid (HasC.new A3.out M3.out); have dk : g3 ≠ k5 := (by omega); have nk : w.heap.size ≤ k5 := Nat.le_trans N1.out.size hk5; have c1 := HasC.cell A5.out (k := 1) rfl; have c2 := HasC.cell A5.out (k := 2) rfl; clear hw3 hn3 hr5 hk5 A3 HG HO M2 M3)
    | (clear T3; go_at_call 115; refine (placeR_any (kd : Int) _).mono ?_; rw [hd]; rintro e wq ⟨rfl, rfl⟩)
    | (clear T4; go_at_call 115; refine (placeR_any (ka : Int) _).mono ?_; rw [ha]; rintro e wq ⟨rfl, rfl⟩))
  have S0 : Hid (New w3 w3.drew) := Lib.hid ((New.refl w3).drew)
  refine wp_region_noPanic ?_
  refine wp_region_held_drew (S := fun w' => New w3 w') (by kernel_rfl) S0.out (fun _ => ?_)
  refine wpAnyH_take (i := 0) (v := .slice (some ⟨k5, 0, none⟩) 24 cap5) rfl (by kernel_rfl) (by kernel_rfl) (by kernel_rfl) (fun _ _ _ h => h) (Or.inl ⟨rfl, fun _ _ => by go_simp⟩) S0.out ?_
  simp only [List.getElem_toArray, List.getElem_cons_zero, Act.put, List.setIfInBounds_toArray, List.set_cons_zero, List.set_cons_succ]
  refine wpAnyH_take (i := 1) (v := .pointer (some ⟨g3, 1, none⟩)) rfl (by kernel_rfl) (by kernel_rfl) (by kernel_rfl) (fun _ _ _ h => h) (Or.inl ⟨rfl, fun _ _ => by go_simp⟩) S0.out ?_
  simp only [List.getElem_toArray, List.getElem_cons_zero, List.getElem_cons_succ, Act.put, List.setIfInBounds_toArray, List.set_cons_zero, List.set_cons_succ]
  refine wpAnyH_take (i := 2) (v := .int .i64 (kd : Int)) rfl (by kernel_rfl) (by kernel_rfl) (by kernel_rfl) (fun _ _ _ h => h) (ldV_if rfl 3 Tryz.isAgg3 (.tmp 24) rfl ⟨g3, 1, none⟩ rfl (fun w' h => HasC.cell (HasC.new A5.out h) rfl)) S0.out ?_
  simp only [List.getElem_toArray, List.getElem_cons_zero, List.getElem_cons_succ, Act.put, List.setIfInBounds_toArray, List.set_cons_zero, List.set_cons_succ]
  refine wpAnyH_take (i := 3) (v := .pointer (some ⟨k5, kd * 2, none⟩)) rfl (by kernel_rfl) (by kernel_rfl) (by kernel_rfl) (fun _ _ _ h => h) (ixV_if rfl _ (.tmp 23) (.tmp 25) rfl _ _ _ rfl rfl (ix_Rs k5 kd cap5 hkd)) S0.out ?_
  simp only [List.getElem_toArray, List.getElem_cons_zero, List.getElem_cons_succ, Act.put, List.setIfInBounds_toArray, List.set_cons_zero, List.set_cons_succ]
  refine wpAnyH_take (i := 4) (v := .agg #[.int .i64 (refS (orN t kd)).1, .int .i64 (refS (orN t kd)).2]) rfl (by kernel_rfl) (by kernel_rfl) (by kernel_rfl) (fun _ _ _ h => h) (yieldsIf_load_mid (by rfl) _ _ rfl k5 (kd * 2) rfl (rcells (orN t kd)) _ (fun w' h => (R3.out.new h).range (fun _ => rfl) hkd) Tryz.underlying113 rfl sizeR2) S0.out ?_
  simp only [List.getElem_toArray, List.getElem_cons_zero, List.getElem_cons_succ, Act.put, List.setIfInBounds_toArray, List.set_cons_zero, List.set_cons_succ]
  refine wpAnyH_take (i := 5) (v := .slice (some ⟨k5, 0, none⟩) 24 cap5) rfl (by kernel_rfl) (by kernel_rfl) (by kernel_rfl) (fun _ _ _ h => h) (Or.inl ⟨rfl, fun _ _ => by go_simp⟩) S0.out ?_
  simp only [List.getElem_toArray, List.getElem_cons_zero, List.getElem_cons_succ, Act.put, List.setIfInBounds_toArray, List.set_cons_zero, List.set_cons_succ]
  refine wpAnyH_take (i := 6) (v := .pointer (some ⟨g3, 2, none⟩)) rfl (by kernel_rfl) (by kernel_rfl) (by kernel_rfl) (fun _ _ _ h => h) (Or.inl ⟨rfl, fun _ _ => by go_simp⟩) S0.out ?_
  simp only [List.getElem_toArray, List.getElem_cons_zero, List.getElem_cons_succ, Act.put, List.setIfInBounds_toArray, List.set_cons_zero, List.set_cons_succ]
  refine wpAnyH_take (i := 7) (v := .int .i64 (ka : Int)) rfl (by kernel_rfl) (by kernel_rfl) (by kernel_rfl) (fun _ _ _ h => h) (ldV_if rfl 3 Tryz.isAgg3 (.tmp 29) rfl ⟨g3, 2, none⟩ rfl (fun w' h => HasC.cell (HasC.new A5.out h) rfl)) S0.out ?_
  simp only [List.getElem_toArray, List.getElem_cons_zero, List.getElem_cons_succ, Act.put, List.setIfInBounds_toArray, List.set_cons_zero, List.set_cons_succ]
  refine wpAnyH_take (i := 8) (v := .pointer (some ⟨k5, ka * 2, none⟩)) rfl (by kernel_rfl) (by kernel_rfl) (by kernel_rfl) (fun _ _ _ h => h) (ixV_if rfl _ (.tmp 28) (.tmp 30) rfl _ _ _ rfl rfl (ix_Rs k5 ka cap5 hka)) S0.out ?_
  simp only [List.getElem_toArray, List.getElem_cons_zero, List.getElem_cons_succ, Act.put, List.setIfInBounds_toArray, List.set_cons_zero, List.set_cons_succ]
  refine wpAnyH_take (i := 9) (v := .agg #[.int .i64 (refS (orN t ka)).1, .int .i64 (refS (orN t ka)).2]) rfl (by kernel_rfl) (by kernel_rfl) (by kernel_rfl) (fun _ _ _ h => h) (yieldsIf_load_mid (by rfl) _ _ rfl k5 (ka * 2) rfl (rcells (orN t ka)) _ (fun w' h => (R3.out.new h).range (fun _ => rfl) hka) Tryz.underlying113 rfl sizeR2) S0.out ?_
  simp only [List.getElem_toArray, List.getElem_cons_zero, List.getElem_cons_succ, Act.put, List.setIfInBounds_toArray, List.set_cons_zero, List.set_cons_succ]
  refine wpAnyH_new2 (i := 10) (j := 11) (o := .cells #[.int .i64 0, .int .i64 0] 113 (0, 0)) (di := 6) (dj := 7) (m := 2) rfl rfl rfl rfl rfl rfl (run_alO _ rfl _ zeroRs_run) (run_alO _ rfl _ zeroRs_run) (by kernel_rfl) (by decide) (by decide) (fun _ h => h.alloc _) S0.out ?_
  intro g6 g7 q1 q2 q3 q4 q5 hS
  simp only [Act.put, List.setIfInBounds_toArray, List.set_cons_zero, List.set_cons_succ]
  simp only [ptr]
  have d6 : HasRs ((w3.drew.alloc (.cells #[.int .i64 0, .int .i64 0] 113 (0, 0))).alloc (.cells #[.int .i64 0, .int .i64 0] 113 (0, 0))) g6 (0, 0) := two_al q1 q3
  have d7 : HasRs ((w3.drew.alloc (.cells #[.int .i64 0, .int .i64 0] 113 (0, 0))).alloc (.cells #[.int .i64 0, .int .i64 0] 113 (0, 0))) g7 (0, 0) := two_al q2 q4
  have hz : w3.drew.heap.size = w3.heap.size := rfl
  rw [hz] at q1 q2
  generalize (w3.drew.alloc (.cells #[.int .i64 0, .int .i64 0] 113 (0, 0))).alloc (.cells #[.int .i64 0, .int .i64 0] 113 (0, 0)) = wa at d6 d7 hS ⊢
  clear q3 q4 hz
  refine wpAnyH_forced [12, 13] _ _ _ hS (by kernel_rfl) (by simp) ?_
  simp only [List.map_cons, List.map_nil, Array.getD_eq_getD_getElem?, List.getElem?_toArray, List.getElem?_cons_succ, List.getElem?_cons_zero, Option.getD_some]
  refine wpLS_stC rfl rfl 113 (.tmp 6) (.tmp 27) rfl g6 rfl _ rfl d6 (rcells (orN t kd)) rfl rfl (rcells_one _) sizeR2 ?_
  intro wb b6 k6
  have nb := k6.below w3 q1 hS
  refine ⟨nb, ?_⟩
  refine wpLS_stC rfl rfl 113 (.tmp 7) (.tmp 32) rfl g7 rfl _ rfl (HasC.kept d7 k6 (Ne.symm q5)) (rcells (orN t ka)) rfl rfl (rcells_one _) sizeR2 ?_
  intro wc b7 k7
  have nc := k7.below w3 q2 nb
  refine ⟨nc, ?_⟩
  refine wpLS_nil ?_
  refine NoPanic.normal ?_
  have D6 : Hid (HasRs wc g6 (orN t kd)) := Lib.hid (HasC.kept b6 k7 q5)
  have D7 : Hid (HasRs wc g7 (orN t ka)) := Lib.hid b7
  have RC : Hid (RwE wc 113 k5 24 (fun i => rcells (orN t i))) := Lib.hid (R3.out.new nc)
  have AC : Hid (HasC wc g3 79 (cells6 ⟨o, (kd : Int), (ka : Int), b, n, u⟩)) := Lib.hid (HasC.new A5.out nc)
  have NC : Hid (New w wc) := Lib.hid (N3.out.trans nc)
  have d56 : k5 ≠ g6 := Nat.ne_of_lt (Nat.lt_of_lt_of_le R3.out.lt q1)
  have d57 : k5 ≠ g7 := Nat.ne_of_lt (Nat.lt_of_lt_of_le R3.out.lt q2)
  have ixd := ix_Rs k5 kd cap5 hkd
  have ixa := ix_Rs k5 ka cap5 hka
  have c0 := HasC.cell AC.out (k := 0) rfl
  have c1 := HasC.cell AC.out (k := 1) rfl
  have c2 := HasC.cell AC.out (k := 2) rfl
  have c4 := HasC.cell AC.out (k := 4) rfl
  clear d6 d7 hS b6 k6 b7 k7 nb nc S0 R3 A5 N3 q1 q2 q5
  go_wp2_with (first
    | (clear T5; refine wpList_load_mid rfl 113 (.tmp 7) rfl g7 0 rfl (rcells (orN t ka)) _ (HasC.all D7.out) Tryz.underlying113 rfl sizeR2 ?_)
    | (clear T6; refine wpList_stRs rfl rfl (.tmp 55) (.tmp 54) rfl k5 kd hkd rfl (orN t ka) rfl RC.out ?_; intro w8 r8 k8; have Rw8 := Lib.hid r8; have Nw8 := Lib.hid (k8.below w nk NC.out); have Aw8 : Hid (HasC w8 g3 79 (cells6 ⟨o, (kd : Int), (ka : Int), b, n, u⟩)) := Lib.hid (HasC.kept AC.out k8 dk); have E6w8 : Hid (HasRs w8 g6 (orN t kd)) := Lib.hid (HasC.kept D6.out k8 (Ne.symm d56)); have c0 := HasC.cell Aw8.out (k := 0) rfl; have c1 := HasC.cell Aw8.out (k := 1) rfl; have c2 := HasC.cell Aw8.out (k := 2) rfl; clear r8 k8))
  go_ret
  first | exact ⟨_, _, rfl, Rw8.out, Nw8.out, nk⟩ | exact ⟨_, ⟨_, rfl⟩, Rw8.out, Nw8.out, nk⟩
set_option maxHeartbeats 8000000 in
set_option maxRecDepth 100000 in
theorem refAfterK_swap (v : Value) (t : Tb) (o b n u : Int) (kd ka : Nat) (hkd : kd < 24) (hka : ka < 24) (h1 : (o == 1) = false) (h2 : (o == 2) = false) (h3 : (o == 3) = true) (hd : rightB (kd : Int) = true) (ha : rightB (ka : Int) = true) (w : World) (h : ElAt w v 24 (fun i => rcells (t i))) :
    Calls Tryz.prog 103 #[v, .agg #[.int .i64 o, .int .i64 (kd : Int), .int .i64 (ka : Int), .int .i64 b, .int .i64 n, .int .i64 u]] w fun e w' => ∃ k cap, e = .returned (.slice (some ⟨k, 0, none⟩) 24 cap) ∧ RwE w' 113 k 24 (fun i => rcells (aft t ⟨o, (kd : Int), (ka : Int), b, n, u⟩ i)) ∧ New w w' ∧ w.heap.size ≤ k := by
  have HV := Lib.hid h
  have HE : Hid (aft t ⟨o, (kd : Int), (ka : Int), b, n, u⟩ = upd (upd (orN t) kd (orN t ka)) ka (orN t kd)) := Lib.hid (by
    unfold aft
    rw [if_pos ⟨hd, ha⟩]
    rw [if_neg (by simpa using h1), if_neg (by simpa using h2), if_pos (by simpa using h3)]
    simp)
  rw [HE.out]
  clear h
  have T1 : Hid True := Lib.hid trivial
  have T2 : Hid True := Lib.hid trivial
  have T3 : Hid True := Lib.hid trivial
  have T4 : Hid True := Lib.hid trivial
  have T5 : Hid True := Lib.hid trivial
  have T6 : Hid True := Lib.hid trivial
  have T7 : Hid True := Lib.hid trivial
  have T8 : Hid True := Lib.hid trivial
  go_enter Tryz.func103, Tryz.ntmps103
  go_wp2_with (first
    | (clear T1; refine wpList_boxX rfl 79 (.tmp 1) rfl (cells6 ⟨o, (kd : Int), (ka : Int), b, n, u⟩) rfl ?_; intro w1 g3 hg3 hl3 H3 hn; have A3 : Hid (HasC w1 g3 79 (cells6 ⟨o, (kd : Int), (ka : Int), b, n, u⟩)) := Lib.hid H3; have N1 := Lib.hid hn; clear H3 hn)
    | (go_at_call 114; refine (refgood_any v t _ (HV.out.new (N1.out.trans (alloc_new _ _)))).mono ?_; rintro e w2 ⟨vg, rfl, hg, hn⟩; have HG := Lib.hid hg; have M2 := Lib.hid ((alloc_new _ _).trans hn); have HO := Lib.hid (owns_new (own_emptyE (w := w1) 113 2 w1.heap.size (Nat.le_refl _)) hn); clear hg hn)
    | (at_builtin; clear T2; refine wpList_appE2 rfl (.tmp 8) (.tmp 10) 43 113 rfl Tryz.underlying43 infoR2 rfl (by decide) w1.heap.size _ rfl HO.out vg rfl 24 (by decide) (by decide) (fun i => rcells (orN t i)) (fun _ => rfl) (fun i => rcells_one _) HG.out M2.out.size ?_; intro v5 w3 hw3 hn3; obtain ⟨k5, cap5, e5, hk5, hr5⟩ := OwnG.block hw3 (by decide); subst e5; have R3 := Lib.hid hr5; have M3 : Hid (New w1 w3) := Lib.hid (hn3 w1 (Nat.le_refl _) M2.out); have N3 : Hid (New w w3) := Lib.hid (N1.out.trans M3.out); have A5 : Hid (HasC w3 g3 79 (cells6 ⟨o, (kd : Int), (ka : Int), b, n, u⟩)) := Lib.hid (HasC.new A3.out M3.out); have dk : g3 ≠ k5 := (by omega); have nk : w.heap.size ≤ k5 := Nat.le_trans N1.out.size hk5; have c1 := HasC.cell A5.out (k := 1) rfl; have c2 := HasC.cell A5.out (k := 2) rfl; clear hw3 hn3 hr5 hk5 A3 HG HO M2 M3)
    | (clear T3; go_at_call 115; refine (placeR_any (kd : Int) _).mono ?_; rw [hd]; rintro e wq ⟨rfl, rfl⟩)
    | (clear T4; go_at_call 115; refine (placeR_any (ka : Int) _).mono ?_; rw [ha]; rintro e wq ⟨rfl, rfl⟩))
  have S0 : Hid (New w3 w3.drew) := Lib.hid ((New.refl w3).drew)
  refine wp_region_noPanic ?_
  refine wp_region_held_drew (S := fun w' => New w3 w') (by kernel_rfl) S0.out (fun _ => ?_)
  refine wpAnyH_take (i := 0) (v := .slice (some ⟨k5, 0, none⟩) 24 cap5) rfl (by kernel_rfl) (by kernel_rfl) (by kernel_rfl) (fun _ _ _ h => h) (Or.inl ⟨rfl, fun _ _ => by go_simp⟩) S0.out ?_
  simp only [List.getElem_toArray, List.getElem_cons_zero, Act.put, List.setIfInBounds_toArray, List.set_cons_zero, List.set_cons_succ]
  refine wpAnyH_take (i := 1) (v := .pointer (some ⟨g3, 1, none⟩)) rfl (by kernel_rfl) (by kernel_rfl) (by kernel_rfl) (fun _ _ _ h => h) (Or.inl ⟨rfl, fun _ _ => by go_simp⟩) S0.out ?_
  simp only [List.getElem_toArray, List.getElem_cons_zero, List.getElem_cons_succ, Act.put, List.setIfInBounds_toArray, List.set_cons_zero, List.set_cons_succ]
  refine wpAnyH_take (i := 2) (v := .int .i64 (kd : Int)) rfl (by kernel_rfl) (by kernel_rfl) (by kernel_rfl) (fun _ _ _ h => h) (ldV_if rfl 3 Tryz.isAgg3 (.tmp 24) rfl ⟨g3, 1, none⟩ rfl (fun w' h => HasC.cell (HasC.new A5.out h) rfl)) S0.out ?_
  simp only [List.getElem_toArray, List.getElem_cons_zero, List.getElem_cons_succ, Act.put, List.setIfInBounds_toArray, List.set_cons_zero, List.set_cons_succ]
  refine wpAnyH_take (i := 3) (v := .pointer (some ⟨k5, kd * 2, none⟩)) rfl (by kernel_rfl) (by kernel_rfl) (by kernel_rfl) (fun _ _ _ h => h) (ixV_if rfl _ (.tmp 23) (.tmp 25) rfl _ _ _ rfl rfl (ix_Rs k5 kd cap5 hkd)) S0.out ?_
  simp only [List.getElem_toArray, List.getElem_cons_zero, List.getElem_cons_succ, Act.put, List.setIfInBounds_toArray, List.set_cons_zero, List.set_cons_succ]
  refine wpAnyH_take (i := 4) (v := .agg #[.int .i64 (refS (orN t kd)).1, .int .i64 (refS (orN t kd)).2]) rfl (by kernel_rfl) (by kernel_rfl) (by kernel_rfl) (fun _ _ _ h => h) (yieldsIf_load_mid (by rfl) _ _ rfl k5 (kd * 2) rfl (rcells (orN t kd)) _ (fun w' h => (R3.out.new h).range (fun _ => rfl) hkd) Tryz.underlying113 rfl sizeR2) S0.out ?_
  simp only [List.getElem_toArray, List.getElem_cons_zero, List.getElem_cons_succ, Act.put, List.setIfInBounds_toArray, List.set_cons_zero, List.set_cons_succ]
  refine wpAnyH_take (i := 5) (v := .slice (some ⟨k5, 0, none⟩) 24 cap5) rfl (by kernel_rfl) (by kernel_rfl) (by kernel_rfl) (fun _ _ _ h => h) (Or.inl ⟨rfl, fun _ _ => by go_simp⟩) S0.out ?_
  simp only [List.getElem_toArray, List.getElem_cons_zero, List.getElem_cons_succ, Act.put, List.setIfInBounds_toArray, List.set_cons_zero, List.set_cons_succ]
  refine wpAnyH_take (i := 6) (v := .pointer (some ⟨g3, 2, none⟩)) rfl (by kernel_rfl) (by kernel_rfl) (by kernel_rfl) (fun _ _ _ h => h) (Or.inl ⟨rfl, fun _ _ => by go_simp⟩) S0.out ?_
  simp only [List.getElem_toArray, List.getElem_cons_zero, List.getElem_cons_succ, Act.put, List.setIfInBounds_toArray, List.set_cons_zero, List.set_cons_succ]
  refine wpAnyH_take (i := 7) (v := .int .i64 (ka : Int)) rfl (by kernel_rfl) (by kernel_rfl) (by kernel_rfl) (fun _ _ _ h => h) (ldV_if rfl 3 Tryz.isAgg3 (.tmp 29) rfl ⟨g3, 2, none⟩ rfl (fun w' h => HasC.cell (HasC.new A5.out h) rfl)) S0.out ?_
  simp only [List.getElem_toArray, List.getElem_cons_zero, List.getElem_cons_succ, Act.put, List.setIfInBounds_toArray, List.set_cons_zero, List.set_cons_succ]
  refine wpAnyH_take (i := 8) (v := .pointer (some ⟨k5, ka * 2, none⟩)) rfl (by kernel_rfl) (by kernel_rfl) (by kernel_rfl) (fun _ _ _ h => h) (ixV_if rfl _ (.tmp 28) (.tmp 30) rfl _ _ _ rfl rfl (ix_Rs k5 ka cap5 hka)) S0.out ?_
  simp only [List.getElem_toArray, List.getElem_cons_zero, List.getElem_cons_succ, Act.put, List.setIfInBounds_toArray, List.set_cons_zero, List.set_cons_succ]
  refine wpAnyH_take (i := 9) (v := .agg #[.int .i64 (refS (orN t ka)).1, .int .i64 (refS (orN t ka)).2]) rfl (by kernel_rfl) (by kernel_rfl) (by kernel_rfl) (fun _ _ _ h => h) (yieldsIf_load_mid (by rfl) _ _ rfl k5 (ka * 2) rfl (rcells (orN t ka)) _ (fun w' h => (R3.out.new h).range (fun _ => rfl) hka) Tryz.underlying113 rfl sizeR2) S0.out ?_
  simp only [List.getElem_toArray, List.getElem_cons_zero, List.getElem_cons_succ, Act.put, List.setIfInBounds_toArray, List.set_cons_zero, List.set_cons_succ]
  refine wpAnyH_new2 (i := 10) (j := 11) (o := .cells #[.int .i64 0, .int .i64 0] 113 (0, 0)) (di := 6) (dj := 7) (m := 2) rfl rfl rfl rfl rfl rfl (run_alO _ rfl _ zeroRs_run) (run_alO _ rfl _ zeroRs_run) (by kernel_rfl) (by decide) (by decide) (fun _ h => h.alloc _) S0.out ?_
  intro g6 g7 q1 q2 q3 q4 q5 hS
  simp only [Act.put, List.setIfInBounds_toArray, List.set_cons_zero, List.set_cons_succ]
  simp only [ptr]
  have d6 : HasRs ((w3.drew.alloc (.cells #[.int .i64 0, .int .i64 0] 113 (0, 0))).alloc (.cells #[.int .i64 0, .int .i64 0] 113 (0, 0))) g6 (0, 0) := two_al q1 q3
  have d7 : HasRs ((w3.drew.alloc (.cells #[.int .i64 0, .int .i64 0] 113 (0, 0))).alloc (.cells #[.int .i64 0, .int .i64 0] 113 (0, 0))) g7 (0, 0) := two_al q2 q4
  have hz : w3.drew.heap.size = w3.heap.size := rfl
  rw [hz] at q1 q2
  generalize (w3.drew.alloc (.cells #[.int .i64 0, .int .i64 0] 113 (0, 0))).alloc (.cells #[.int .i64 0, .int .i64 0] 113 (0, 0)) = wa at d6 d7 hS ⊢
  clear q3 q4 hz
  refine wpAnyH_forced [12, 13] _ _ _ hS (by kernel_rfl) (by simp) ?_
  simp only [List.map_cons, List.map_nil, Array.getD_eq_getD_getElem?, List.getElem?_toArray, List.getElem?_cons_succ, List.getElem?_cons_zero, Option.getD_some]
  refine wpLS_stC rfl rfl 113 (.tmp 6) (.tmp 27) rfl g6 rfl _ rfl d6 (rcells (orN t kd)) rfl rfl (rcells_one _) sizeR2 ?_
  intro wb b6 k6
  have nb := k6.below w3 q1 hS
  refine ⟨nb, ?_⟩
  refine wpLS_stC rfl rfl 113 (.tmp 7) (.tmp 32) rfl g7 rfl _ rfl (HasC.kept d7 k6 (Ne.symm q5)) (rcells (orN t ka)) rfl rfl (rcells_one _) sizeR2 ?_
  intro wc b7 k7
  have nc := k7.below w3 q2 nb
  refine ⟨nc, ?_⟩
  refine wpLS_nil ?_
  refine NoPanic.normal ?_
  have D6 : Hid (HasRs wc g6 (orN t kd)) := Lib.hid (HasC.kept b6 k7 q5)
  have D7 : Hid (HasRs wc g7 (orN t ka)) := Lib.hid b7
  have RC : Hid (RwE wc 113 k5 24 (fun i => rcells (orN t i))) := Lib.hid (R3.out.new nc)
  have AC : Hid (HasC wc g3 79 (cells6 ⟨o, (kd : Int), (ka : Int), b, n, u⟩)) := Lib.hid (HasC.new A5.out nc)
  have NC : Hid (New w wc) := Lib.hid (N3.out.trans nc)
  have d56 : k5 ≠ g6 := Nat.ne_of_lt (Nat.lt_of_lt_of_le R3.out.lt q1)
  have d57 : k5 ≠ g7 := Nat.ne_of_lt (Nat.lt_of_lt_of_le R3.out.lt q2)
  have ixd := ix_Rs k5 kd cap5 hkd
  have ixa := ix_Rs k5 ka cap5 hka
  have c0 := HasC.cell AC.out (k := 0) rfl
  have c1 := HasC.cell AC.out (k := 1) rfl
  have c2 := HasC.cell AC.out (k := 2) rfl
  have c4 := HasC.cell AC.out (k := 4) rfl
  clear d6 d7 hS b6 k6 b7 k7 nb nc S0 R3 A5 N3 q1 q2 q5
  go_wp2_with (first
    | (clear T5; refine wpList_load_mid rfl 113 (.tmp 7) rfl g7 0 rfl (rcells (orN t ka)) _ (HasC.all D7.out) Tryz.underlying113 rfl sizeR2 ?_)
    | (clear T6; refine wpList_stRs rfl rfl (.tmp 55) (.tmp 54) rfl k5 kd hkd rfl (orN t ka) rfl RC.out ?_; intro w8 r8 k8; have Rw8 := Lib.hid r8; have Nw8 := Lib.hid (k8.below w nk NC.out); have Aw8 : Hid (HasC w8 g3 79 (cells6 ⟨o, (kd : Int), (ka : Int), b, n, u⟩)) := Lib.hid (HasC.kept AC.out k8 dk); have E6w8 : Hid (HasRs w8 g6 (orN t kd)) := Lib.hid (HasC.kept D6.out k8 (Ne.symm d56)); have c0 := HasC.cell Aw8.out (k := 0) rfl; have c1 := HasC.cell Aw8.out (k := 1) rfl; have c2 := HasC.cell Aw8.out (k := 2) rfl; clear r8 k8)
    | (clear T7; refine wpList_load_mid rfl 113 (.tmp 6) rfl g6 0 rfl (rcells (orN t kd)) _ (HasC.all E6w8.out) Tryz.underlying113 rfl sizeR2 ?_)
    | (clear T8; refine wpList_stRs rfl rfl (.tmp 63) (.tmp 62) rfl k5 ka hka rfl (orN t kd) rfl Rw8.out ?_; intro w9 r8 k8; have Rw9 := Lib.hid r8; have Nw9 := Lib.hid (k8.below w nk Nw8.out); have Aw9 : Hid (HasC w9 g3 79 (cells6 ⟨o, (kd : Int), (ka : Int), b, n, u⟩)) := Lib.hid (HasC.kept Aw8.out k8 dk); have E6w9 : Hid (HasRs w9 g6 (orN t kd)) := Lib.hid (HasC.kept E6w8.out k8 (Ne.symm d56)); have c0 := HasC.cell Aw9.out (k := 0) rfl; have c1 := HasC.cell Aw9.out (k := 1) rfl; have c2 := HasC.cell Aw9.out (k := 2) rfl; clear r8 k8))
  go_ret
  first | exact ⟨_, _, rfl, Rw9.out, Nw9.out, nk⟩ | exact ⟨_, ⟨_, rfl⟩, Rw9.out, Nw9.out, nk⟩
set_option maxHeartbeats 8000000 in
set_option maxRecDepth 100000 in
theorem refAfterK_other (v : Value) (t : Tb) (o b n u : Int) (kd ka : Nat) (hkd : kd < 24) (hka : ka < 24) (h1 : (o == 1) = false) (h2 : (o == 2) = false) (h3 : (o == 3) = false) (hd : rightB (kd : Int) = true) (ha : rightB (ka : Int) = true) (w : World) (h : ElAt w v 24 (fun i => rcells (t i))) :
    Calls Tryz.prog 103 #[v, .agg #[.int .i64 o, .int .i64 (kd : Int), .int .i64 (ka : Int), .int .i64 b, .int .i64 n, .int .i64 u]] w fun e w' => ∃ k cap, e = .returned (.slice (some ⟨k, 0, none⟩) 24 cap) ∧ RwE w' 113 k 24 (fun i => rcells (aft t ⟨o, (kd : Int), (ka : Int), b, n, u⟩ i)) ∧ New w w' ∧ w.heap.size ≤ k := by
  have HV := Lib.hid h
  have HE : Hid (aft t ⟨o, (kd : Int), (ka : Int), b, n, u⟩ = orN t) := Lib.hid (by
    unfold aft
    rw [if_pos ⟨hd, ha⟩]
    rw [if_neg (by simpa using h1), if_neg (by simpa using h2), if_neg (by simpa using h3)])
  rw [HE.out]
  clear h
  have T1 : Hid True := Lib.hid trivial
  have T2 : Hid True := Lib.hid trivial
  have T3 : Hid True := Lib.hid trivial
  have T4 : Hid True := Lib.hid trivial
  go_enter Tryz.func103, Tryz.ntmps103
  go_wp2_with (first
    | (clear T1; refine wpList_boxX rfl 79 (.tmp 1) rfl (cells6 ⟨o, (kd : Int), (ka : Int), b, n, u⟩) rfl ?_; intro w1 g3 hg3 hl3 H3 hn; have A3 : Hid (HasC w1 g3 79 (cells6 ⟨o, (kd : Int), (ka : Int), b, n, u⟩)) := Lib.hid H3; have N1 := Lib.hid hn; clear H3 hn)
    | (go_at_call 114; refine (refgood_any v t _ (HV.out.new (N1.out.trans (alloc_new _ _)))).mono ?_; rintro e w2 ⟨vg, rfl, hg, hn⟩; have HG := Lib.hid hg; have M2 := Lib.hid ((alloc_new _ _).trans hn); have HO := Lib.hid (owns_new (own_emptyE (w := w1) 113 2 w1.heap.size (Nat.le_refl _)) hn); clear hg hn)
    | (at_builtin; clear T2; refine wpList_appE2 rfl (.tmp 8) (.tmp 10) 43 113 rfl Tryz.underlying43 infoR2 rfl (by decide) w1.heap.size _ rfl HO.out vg rfl 24 (by decide) (by decide) (fun i => rcells (orN t i)) (fun _ => rfl) (fun i => rcells_one _) HG.out M2.out.size ?_; intro v5 w3 hw3 hn3; obtain ⟨k5, cap5, e5, hk5, hr5⟩ := OwnG.block hw3 (by decide); subst e5; have R3 := Lib.hid hr5; have M3 : Hid (New w1 w3) := Lib.hid (hn3 w1 (Nat.le_refl _) M2.out); have N3 : Hid (New w w3) := Lib.hid (N1.out.trans M3.out); have A5 : Hid (HasC w3 g3 79 (cells6 ⟨o, (kd : Int), (ka : Int), b, n, u⟩)) := Lib.hid (HasC.new A3.out M3.out); have dk : g3 ≠ k5 := (by omega); have nk : w.heap.size ≤ k5 := Nat.le_trans N1.out.size hk5; have c1 := HasC.cell A5.out (k := 1) rfl; have c2 := HasC.cell A5.out (k := 2) rfl; clear hw3 hn3 hr5 hk5 A3 HG HO M2 M3)
    | (clear T3; go_at_call 115; refine (placeR_any (kd : Int) _).mono ?_; rw [hd]; rintro e wq ⟨rfl, rfl⟩)
    | (clear T4; go_at_call 115; refine (placeR_any (ka : Int) _).mono ?_; rw [ha]; rintro e wq ⟨rfl, rfl⟩))
  have S0 : Hid (New w3 w3.drew) := Lib.hid ((New.refl w3).drew)
  refine wp_region_noPanic ?_
  refine wp_region_held_drew (S := fun w' => New w3 w') (by kernel_rfl) S0.out (fun _ => ?_)
  refine wpAnyH_take (i := 0) (v := .slice (some ⟨k5, 0, none⟩) 24 cap5) rfl (by kernel_rfl) (by kernel_rfl) (by kernel_rfl) (fun _ _ _ h => h) (Or.inl ⟨rfl, fun _ _ => by go_simp⟩) S0.out ?_
  simp only [List.getElem_toArray, List.getElem_cons_zero, Act.put, List.setIfInBounds_toArray, List.set_cons_zero, List.set_cons_succ]
  refine wpAnyH_take (i := 1) (v := .pointer (some ⟨g3, 1, none⟩)) rfl (by kernel_rfl) (by kernel_rfl) (by kernel_rfl) (fun _ _ _ h => h) (Or.inl ⟨rfl, fun _ _ => by go_simp⟩) S0.out ?_
  simp only [List.getElem_toArray, List.getElem_cons_zero, List.getElem_cons_succ, Act.put, List.setIfInBounds_toArray, List.set_cons_zero, List.set_cons_succ]
  refine wpAnyH_take (i := 2) (v := .int .i64 (kd : Int)) rfl (by kernel_rfl) (by kernel_rfl) (by kernel_rfl) (fun _ _ _ h => h) (ldV_if rfl 3 Tryz.isAgg3 (.tmp 24) rfl ⟨g3, 1, none⟩ rfl (fun w' h => HasC.cell (HasC.new A5.out h) rfl)) S0.out ?_
  simp only [List.getElem_toArray, List.getElem_cons_zero, List.getElem_cons_succ, Act.put, List.setIfInBounds_toArray, List.set_cons_zero, List.set_cons_succ]
  refine wpAnyH_take (i := 3) (v := .pointer (some ⟨k5, kd * 2, none⟩)) rfl (by kernel_rfl) (by kernel_rfl) (by kernel_rfl) (fun _ _ _ h => h) (ixV_if rfl _ (.tmp 23) (.tmp 25) rfl _ _ _ rfl rfl (ix_Rs k5 kd cap5 hkd)) S0.out ?_
  simp only [List.getElem_toArray, List.getElem_cons_zero, List.getElem_cons_succ, Act.put, List.setIfInBounds_toArray, List.set_cons_zero, List.set_cons_succ]
  refine wpAnyH_take (i := 4) (v := .agg #[.int .i64 (refS (orN t kd)).1, .int .i64 (refS (orN t kd)).2]) rfl (by kernel_rfl) (by kernel_rfl) (by kernel_rfl) (fun _ _ _ h => h) (yieldsIf_load_mid (by rfl) _ _ rfl k5 (kd * 2) rfl (rcells (orN t kd)) _ (fun w' h => (R3.out.new h).range (fun _ => rfl) hkd) Tryz.underlying113 rfl sizeR2) S0.out ?_
  simp only [List.getElem_toArray, List.getElem_cons_zero, List.getElem_cons_succ, Act.put, List.setIfInBounds_toArray, List.set_cons_zero, List.set_cons_succ]
  refine wpAnyH_take (i := 5) (v := .slice (some ⟨k5, 0, none⟩) 24 cap5) rfl (by kernel_rfl) (by kernel_rfl) (by kernel_rfl) (fun _ _ _ h => h) (Or.inl ⟨rfl, fun _ _ => by go_simp⟩) S0.out ?_
  simp only [List.getElem_toArray, List.getElem_cons_zero, List.getElem_cons_succ, Act.put, List.setIfInBounds_toArray, List.set_cons_zero, List.set_cons_succ]
  refine wpAnyH_take (i := 6) (v := .pointer (some ⟨g3, 2, none⟩)) rfl (by kernel_rfl) (by kernel_rfl) (by kernel_rfl) (fun _ _ _ h => h) (Or.inl ⟨rfl, fun _ _ => by go_simp⟩) S0.out ?_
  simp only [List.getElem_toArray, List.getElem_cons_zero, List.getElem_cons_succ, Act.put, List.setIfInBounds_toArray, List.set_cons_zero, List.set_cons_succ]
  refine wpAnyH_take (i := 7) (v := .int .i64 (ka : Int)) rfl (by kernel_rfl) (by kernel_rfl) (by kernel_rfl) (fun _ _ _ h => h) (ldV_if rfl 3 Tryz.isAgg3 (.tmp 29) rfl ⟨g3, 2, none⟩ rfl (fun w' h => HasC.cell (HasC.new A5.out h) rfl)) S0.out ?_
  simp only [List.getElem_toArray, List.getElem_cons_zero, List.getElem_cons_succ, Act.put, List.setIfInBounds_toArray, List.set_cons_zero, List.set_cons_succ]
  refine wpAnyH_take (i := 8) (v := .pointer (some ⟨k5, ka * 2, none⟩)) rfl (by kernel_rfl) (by kernel_rfl) (by kernel_rfl) (fun _ _ _ h => h) (ixV_if rfl _ (.tmp 28) (.tmp 30) rfl _ _ _ rfl rfl (ix_Rs k5 ka cap5 hka)) S0.out ?_
  simp only [List.getElem_toArray, List.getElem_cons_zero, List.getElem_cons_succ, Act.put, List.setIfInBounds_toArray, List.set_cons_zero, List.set_cons_succ]
  refine wpAnyH_take (i := 9) (v := .agg #[.int .i64 (refS (orN t ka)).1, .int .i64 (refS (orN t ka)).2]) rfl (by kernel_rfl) (by kernel_rfl) (by kernel_rfl) (fun _ _ _ h => h) (yieldsIf_load_mid (by rfl) _ _ rfl k5 (ka * 2) rfl (rcells (orN t ka)) _ (fun w' h => (R3.out.new h).range (fun _ => rfl) hka) Tryz.underlying113 rfl sizeR2) S0.out ?_
  simp only [List.getElem_toArray, List.getElem_cons_zero, List.getElem_cons_succ, Act.put, List.setIfInBounds_toArray, List.set_cons_zero, List.set_cons_succ]
  refine wpAnyH_new2 (i := 10) (j := 11) (o := .cells #[.int .i64 0, .int .i64 0] 113 (0, 0)) (di := 6) (dj := 7) (m := 2) rfl rfl rfl rfl rfl rfl (run_alO _ rfl _ zeroRs_run) (run_alO _ rfl _ zeroRs_run) (by kernel_rfl) (by decide) (by decide) (fun _ h => h.alloc _) S0.out ?_
  intro g6 g7 q1 q2 q3 q4 q5 hS
  simp only [Act.put, List.setIfInBounds_toArray, List.set_cons_zero, List.set_cons_succ]
  simp only [ptr]
  have d6 : HasRs ((w3.drew.alloc (.cells #[.int .i64 0, .int .i64 0] 113 (0, 0))).alloc (.cells #[.int .i64 0, .int .i64 0] 113 (0, 0))) g6 (0, 0) := two_al q1 q3
  have d7 : HasRs ((w3.drew.alloc (.cells #[.int .i64 0, .int .i64 0] 113 (0, 0))).alloc (.cells #[.int .i64 0, .int .i64 0] 113 (0, 0))) g7 (0, 0) := two_al q2 q4
  have hz : w3.drew.heap.size = w3.heap.size := rfl
  rw [hz] at q1 q2
  generalize (w3.drew.alloc (.cells #[.int .i64 0, .int .i64 0] 113 (0, 0))).alloc (.cells #[.int .i64 0, .int .i64 0] 113 (0, 0)) = wa at d6 d7 hS ⊢
  clear q3 q4 hz
  refine wpAnyH_forced [12, 13] _ _ _ hS (by kernel_rfl) (by simp) ?_
  simp only [List.map_cons, List.map_nil, Array.getD_eq_getD_getElem?, List.getElem?_toArray, List.getElem?_cons_succ, List.getElem?_cons_zero, Option.getD_some]
  refine wpLS_stC rfl rfl 113 (.tmp 6) (.tmp 27) rfl g6 rfl _ rfl d6 (rcells (orN t kd)) rfl rfl (rcells_one _) sizeR2 ?_
  intro wb b6 k6
  have nb := k6.below w3 q1 hS
  refine ⟨nb, ?_⟩
  refine wpLS_stC rfl rfl 113 (.tmp 7) (.tmp 32) rfl g7 rfl _ rfl (HasC.kept d7 k6 (Ne.symm q5)) (rcells (orN t ka)) rfl rfl (rcells_one _) sizeR2 ?_
  intro wc b7 k7
  have nc := k7.below w3 q2 nb
  refine ⟨nc, ?_⟩
  refine wpLS_nil ?_
  refine NoPanic.normal ?_
  have D6 : Hid (HasRs wc g6 (orN t kd)) := Lib.hid (HasC.kept b6 k7 q5)
  have D7 : Hid (HasRs wc g7 (orN t ka)) := Lib.hid b7
  have RC : Hid (RwE wc 113 k5 24 (fun i => rcells (orN t i))) := Lib.hid (R3.out.new nc)
  have AC : Hid (HasC wc g3 79 (cells6 ⟨o, (kd : Int), (ka : Int), b, n, u⟩)) := Lib.hid (HasC.new A5.out nc)
  have NC : Hid (New w wc) := Lib.hid (N3.out.trans nc)
  have d56 : k5 ≠ g6 := Nat.ne_of_lt (Nat.lt_of_lt_of_le R3.out.lt q1)
  have d57 : k5 ≠ g7 := Nat.ne_of_lt (Nat.lt_of_lt_of_le R3.out.lt q2)
  have ixd := ix_Rs k5 kd cap5 hkd
  have ixa := ix_Rs k5 ka cap5 hka
  have c0 := HasC.cell AC.out (k := 0) rfl
  have c1 := HasC.cell AC.out (k := 1) rfl
  have c2 := HasC.cell AC.out (k := 2) rfl
  have c4 := HasC.cell AC.out (k := 4) rfl
  clear d6 d7 hS b6 k6 b7 k7 nb nc S0 R3 A5 N3 q1 q2 q5
  go_wp2
  go_ret
  first | exact ⟨_, _, rfl, RC.out, NC.out, nk⟩ | exact ⟨_, ⟨_, rfl⟩, RC.out, NC.out, nk⟩
theorem nat_right {l : Int} (h : rightB l = true) : ∃ k : Nat, l = (k : Int) ∧ k < 24 := ⟨l.toNat, by have := right_lt h; omega, (right_lt h).1⟩
/-- The reference's After, of every table and instruction. -/
theorem refAfterK_any (v : Value) (t : Tb) (x : I) (w : World) (h : ElAt w v 24 (fun i => rcells (t i))) :
    Calls Tryz.prog 103 #[v, .agg #[.int .i64 (x).op, .int .i64 (x).d, .int .i64 (x).a, .int .i64 (x).b, .int .i64 (x).n, .int .i64 (x).t]] w fun e w' => ∃ k cap, e = .returned (.slice (some ⟨k, 0, none⟩) 24 cap) ∧ RwE w' 113 k 24 (fun i => rcells (aft t x i)) ∧ New w w' ∧ w.heap.size ≤ k := by
  by_cases hr : rightB x.d = true ∧ rightB x.a = true
  · obtain ⟨o, d, a, b, n, u⟩ := x
    obtain ⟨hd, ha⟩ := hr
    obtain ⟨kd, rfl, hkd⟩ := nat_right hd
    obtain ⟨ka, rfl, hka⟩ := nat_right ha
    by_cases h1 : o = 1
    · exact refAfterK_const v t o b n u kd ka hkd hka (beq_of h1) (bneq_of (by omega)) (bneq_of (by omega)) hd ha w h
    · by_cases h2 : o = 2
      · exact refAfterK_mov v t o b n u kd ka hkd hka (bneq_of h1) (beq_of h2) (bneq_of (by omega)) hd ha w h
      · by_cases h3 : o = 3
        · exact refAfterK_swap v t o b n u kd ka hkd hka (bneq_of h1) (bneq_of h2) (beq_of h3) hd ha w h
        · exact refAfterK_other v t o b n u kd ka hkd hka (bneq_of h1) (bneq_of h2) (bneq_of h3) hd ha w h
  · have e : aft t x = orN t := by
      unfold aft
      rw [if_neg hr]
    rw [e]
    cases hd : rightB x.d with
    | false => exact refAfterK_out1 v t x hd w h
    | true =>
      cases ha : rightB x.a with
      | false => exact refAfterK_out2 v t x hd ha w h
      | true => exact absurd ⟨hd, ha⟩ hr
theorem refAfter_any (v : Value) (t : Tb) (x : I) (w : World) (h : ElAt w v 24 (fun i => rcells (t i))) :
    Calls Tryz.prog 103 #[v, .agg #[.int .i64 (x).op, .int .i64 (x).d, .int .i64 (x).a, .int .i64 (x).b, .int .i64 (x).n, .int .i64 (x).t]] w fun e w' => ∃ v', e = .returned v' ∧ ElAt w' v' 24 (fun i => rcells (aft t x i)) ∧ New w w' ∧ FarE w.heap.size 24 v' :=
  (refAfterK_any v t x w h).mono fun _ _ ⟨k, cap, h1, h2, h3, h4⟩ => ⟨_, h1, h2.el (fun _ => rfl) cap, h3, k, cap, rfl, h4⟩
end Go.Proofs.YtphopkjgfkaihaaGreatDoor
namespace Go.Proofs.YtphopkjgfkaihaaGreatDoor
open Go.RowKit

def rpC (to : Int) (v : Value) (n : Int) : List Value := [.int .i64 to, v, .int .i64 n]
abbrev HasRp (w : World) (g : Nat) (to : Int) (v : Value) (n : Int) : Prop := HasC w g 149 (rpC to v n)
theorem infoRp : (Tryz.prog.info? 149).map (·.size) = some 3 := by kernel_rfl
theorem zeroRp_run (w : World) : (zeroValue 149).run Tryz.prog w = .ok (.agg (rpC 0 (.slice none 0 0) 0).toArray) w := Tryz.zeroValue149 w
theorem ElAt.kept {w w' : World} {k cap n g : Nat} {f : Nat → List Value} (h : ElAt w (.slice (some ⟨k, 0, none⟩) n cap) n f) (hk : Kept g w w') (hg : k ≠ g) : ElAt w' (.slice (some ⟨k, 0, none⟩) n cap) n f := by
  obtain ⟨ao, cap', e, hh⟩ := h
  refine ⟨ao, cap', e, fun i hi => ?_⟩
  obtain ⟨b, off, e1, h1⟩ := hh i hi
  refine ⟨b, off, e1, fun j u hu => ?_⟩
  have := h1 j u hu
  simp only [Value.slice.injEq, true_and] at e
  rw [← e.1] at e1
  simp only [Option.some.injEq, Addr.mk.injEq] at e1
  unfold World.cell? at this ⊢
  simp only [hk.other b (by omega)]
  exact this
theorem ElAt.lt {w : World} {k cap n : Nat} {f : Nat → List Value} (h : ElAt w (.slice (some ⟨k, 0, none⟩) n cap) n f) (hn : 0 < n) (hl : ∀ i, (f i).length = 2) : k < w.heap.size := by
  obtain ⟨ao, cap', e, hh⟩ := h
  obtain ⟨b, off, e1, h1⟩ := hh 0 hn
  simp only [Value.slice.injEq, true_and] at e
  rw [← e.1] at e1
  simp only [Option.some.injEq, Addr.mk.injEq] at e1
  have h0 : 0 < (f 0).length := by rw [hl 0]; decide
  have hc := h1 0 _ (List.getElem?_eq_getElem h0)
  rw [e1.1]
  unfold World.cell? at hc
  cases hb : w.heap[b]? with
  | none => simp only [hb] at hc; simp at hc
  | some o => exact heap_lt hb
theorem rpC_one {to n : Int} {v : Value} (hv : v.oneCell' = true) : ∀ c ∈ rpC to v n, c.oneCell' = true := by
  intro c hc
  simp only [rpC, List.mem_cons, List.not_mem_nil, or_false] at hc
  rcases hc with rfl | rfl | rfl
  · rfl
  · exact hv
  · rfl
theorem wpList_stRp {ops : Array Oper} {rest : List Oper} {op : Oper} {act : Act} {w : World} {Q : Exit → Act → World → Prop} (hgd : op.guard = none) (hdst : op.dst = none) (a b : Operand) (ho : op.op = .store 149 a b) (g : Nat) (hx : act.eval a = .pointer (some ⟨g, 0, none⟩)) (to n : Int) (ao : Option Addr) (m cap : Nat) (hy : act.eval b = .agg #[.int .i64 to, .slice ao m cap, .int .i64 n])
    {to' n' : Int} {v' : Value} (h : HasRp w g to' v' n') (hk : ∀ w', HasRp w' g to (.slice ao m cap) n → Kept g w w' → wpList Tryz.prog ops Q rest act w') : wpList Tryz.prog ops Q (op :: rest) act w :=
  wpList_stX hgd hdst _ a b ho g 0 hx _ hy h (rpC to (.slice ao m cap) n) rfl (by simp [rpC]) (rpC_one rfl) infoRp (by simp [rpC]) hk
theorem wpList_ldRp {ops : Array Oper} {rest : List Oper} {op : Oper} {act : Act} {w : World} {Q : Exit → Act → World → Prop} (hgd : op.guard = none) (a : Operand) (ho : op.op = .load 149 a) (g : Nat) (hx : act.eval a = .pointer (some ⟨g, 0, none⟩)) {to n : Int} {v : Value} (h : HasRp w g to v n)
    (hk : wpList Tryz.prog ops Q rest (act.put op.dst (.agg #[.int .i64 to, v, .int .i64 n])) w) : wpList Tryz.prog ops Q (op :: rest) act w :=
  wpList_load_mid hgd _ a ho g 0 hx (rpC to v n) _ h.all Tryz.underlying149 rfl infoRp hk
theorem resRp (fn : Func) {p : Tmp} (h : fn.results = #[.cell p 149]) (tmps : Array Value) (w : World) (g : Nat) (to n : Int) (v : Value) (hp : tmps.getD p undef = .pointer (some ⟨g, 0, none⟩)) (hg : HasRp w g to v n) :
    (results fn tmps).run Tryz.prog w = .ok (.agg #[.int .i64 to, v, .int .i64 n]) w :=
  results_cell_row h tmps w g _ _ _ _ hp hg Tryz.underlying149 rfl infoRp
theorem build_Rp (to : Int) (ao : Option Addr) (m cap : Nat) (w : World) : (Instr.build 149 #[(0, .int .i64 to), (1, .slice ao m cap)]).run Tryz.prog w = .ok (.agg #[.int .i64 to, .slice ao m cap, .int .i64 0]) w := run_build w _ _ _ (by kernel_rfl)
theorem build_Rp3 (to n : Int) (ao : Option Addr) (m cap : Nat) (w : World) : (Instr.build 149 #[(0, .int .i64 to), (1, .slice ao m cap), (2, .int .i64 n)]).run Tryz.prog w = .ok (.agg #[.int .i64 to, .slice ao m cap, .int .i64 n]) w := run_build w _ _ _ (by kernel_rfl)
theorem wpList_bdRp {ops : Array Oper} {rest : List Oper} {op : Oper} {act : Act} {w : World} {Q : Exit → Act → World → Prop} (hgd : op.guard = none) (x y : Operand) (ho : op.op = .build 149 #[(0, x), (1, y)]) (to : Int) (hx : act.eval x = .int .i64 to) (ao : Option Addr) (m cap : Nat) (hy : act.eval y = .slice ao m cap)
    (hk : wpList Tryz.prog ops Q rest (act.put op.dst (.agg #[.int .i64 to, .slice ao m cap, .int .i64 0])) w) : wpList Tryz.prog ops Q (op :: rest) act w :=
  wpList_plain hgd fun _ hK => by
    unfold Oper.wp execOp
    have hb := build_Rp to ao m cap w
    simp only [ho, List.map_toArray, List.map_cons, List.map_nil, hx, hy, hb, Sem.run_bind, Sem.run_pure, Result.andThen_ok]
    exact hK _ _ hk
theorem refNewK_any (w : World) :
    Calls Tryz.prog 102 #[] w fun e w' => ∃ k cap, e = .returned (.slice (some ⟨k, 0, none⟩) 24 cap) ∧ RwE w' 113 k 24 (fun i => rcells (newT i)) ∧ New w w' ∧ w.heap.size ≤ k :=
  (refNew_own w).mono fun _ _ ⟨_, h1, h2, h3⟩ =>
    let ⟨k, cap, e, hb, hr⟩ := h2.block (by decide)
    ⟨k, cap, by rw [h1, e], hr, h3, hb⟩
set_option maxHeartbeats 16000000 in
set_option maxRecDepth 100000 in
theorem refFromK_in (ao : Option Addr) (n cap : Nat) (f : List I) (p : Int) (o : Option Nat) (w : World) (hf : FunAt w (.slice ao n cap) f) (hi : InF f p) (ho : Wy f p o) :
    Calls Tryz.prog 71 #[.slice ao n cap, .int .i64 p] w fun e w' => ∃ kr rc, e = .returned (.agg #[.int .i64 (toP f p o), .slice (some ⟨kr, 0, none⟩) 24 rc, .int .i64 (stP o)]) ∧ RwE w' 113 kr 24 (fun i => rcells (tbP f p o i)) ∧ New w w' ∧ w.heap.size ≤ kr := by
  have HF := Lib.hid hf
  have HI := Lib.hid hi
  have HO := Lib.hid ho
  have HLN := Lib.hid hf.len
  have hn200 : n ≤ 200 := by have := chk_len hi.1; have := HLN.out; omega
  have T1 : Hid True := Lib.hid trivial
  have T2 : Hid True := Lib.hid trivial
  have T3 : Hid True := Lib.hid trivial
  have T4 : Hid True := Lib.hid trivial
  have T5 : Hid True := Lib.hid trivial
  clear hf hi ho
  go_enter Tryz.func71, Tryz.ntmps71
  go_wp2_with (first
    | (clear T1; refine wpList_alX rfl 149 rfl _ zeroRp_run _ rfl ?_; intro w1 g4 hg4 hl4 H4 hn; have A4 : Hid (HasRp w1 g4 0 (.slice none 0 0) 0) := Lib.hid H4; have N1 := Lib.hid hn; clear H4 hn)
    | (clear T2; go_at_call 102; refine (refNewK_any _).mono ?_; rintro e w2 ⟨k2, c2, rfl, he, hn, hb2⟩; have b2 : w.heap.size ≤ k2 := Nat.le_trans N1.out.size hb2; have V2 := Lib.hid he; have A42 : Hid (HasRp w2 g4 0 (.slice none 0 0) 0) := Lib.hid (HasC.new A4.out hn); have N2 := Lib.hid (N1.out.trans hn); have L2 := HasC.lt A4.out; clear he hn A4)
    | (clear T3; refine wpList_bdRp rfl (.tmp 9) (.tmp 10) rfl p rfl (some ⟨k2, 0, none⟩) 24 c2 rfl ?_)
    | (clear T4; refine wpList_alX rfl 149 rfl _ zeroRp_run _ rfl ?_; intro w3 g5 hg5 hl5 H5 hn; have A5 : Hid (HasRp w3 g5 0 (.slice none 0 0) 0) := Lib.hid H5; have A43 : Hid (HasRp w3 g4 0 (.slice none 0 0) 0) := Lib.hid (HasC.new A42.out hn); have d45 : g4 ≠ g5 := Nat.ne_of_lt (Nat.lt_of_lt_of_le (HasC.lt A42.out) hg5); have n5 : w.heap.size ≤ g5 := Nat.le_trans N2.out.size hg5; have N3 := Lib.hid (N2.out.trans hn); have V3 := Lib.hid (V2.out.new hn); have lk : k2 < g5 := Nat.lt_of_lt_of_le (RwE.lt V2.out) hg5; clear H5 hn V2 A42)
    | (clear T5; refine wpList_stRp rfl rfl (.tmp 5) (.tmp 11) rfl g5 rfl p 0 (some ⟨k2, 0, none⟩) 24 c2 rfl A5.out ?_; intro w4 B5 k5; have E5 : Hid (HasRp w4 g5 p (.slice (some ⟨k2, 0, none⟩) 24 c2) 0) := Lib.hid B5; have E4 : Hid (HasRp w4 g4 0 (.slice none 0 0) 0) := Lib.hid (HasC.kept A43.out k5 d45); have V4 : Hid (RwE w4 113 k2 24 (fun i => rcells (newT i))) := Lib.hid (RwE.kept V3.out k5 (by omega)); have N4 := Lib.hid (k5.below _ n5 N3.out); clear B5 k5 A5 A43 V3))
  go_loopw [6] (fun nv wr => ∃ (k kb cb : Nat), nv = .int .i64 (k : Int) ∧ k ≤ n + 1 ∧ kb ≠ g4 ∧ kb ≠ g5 ∧ w.heap.size ≤ kb ∧ Hid (HasRp wr g4 0 (.slice none 0 0) 0) ∧ Hid (HasRp wr g5 (itA f p k) (.slice (some ⟨kb, 0, none⟩) 24 cb) (k : Int)) ∧ Hid (RwE wr 113 kb 24 (fun i => rcells (tbA f p k i))) ∧ Hid (New w wr) ∧ Hid (∀ j < k, mvA f (itA f p j) = true)) (fun nv _ => n + 2 - (intOf nv).toNat)
  case atStart => exact ⟨0, k2, c2, rfl, by omega, by have := L2; omega, by omega, b2, E4, E5, V4, N4, Lib.hid (fun j hj => absurd hj (Nat.not_lt_zero _))⟩
  case round =>
    obtain ⟨k, kb, cb, rfl, hk, dk4, dk5, bk, K4, K5, KV, KN, KM⟩ := hrel
    by_cases hkn : k ≤ n
    · have dkn : decide ((k : Int) ≤ (n : Int)) = true := decide_eq_true (by omega)
      obtain ⟨q, HQ⟩ : ∃ q : Nat, Hid (itA f p k = (q : Int)) := ⟨(itA f p k).toNat, Lib.hid (by have := (it_in HI.out KM.out).2.1; omega)⟩
      have hqn : q < n := by have := (it_in HI.out KM.out).2.2; rw [HQ.out] at this; have := HLN.out; omega
      obtain ⟨fb, fo, x, ex, hix, hrg⟩ := FunAt.ix HF.out hqn
      have HX : Hid (insA f (itA f p k) = x) := Lib.hid (by
        rw [HQ.out]
        unfold insA
        rw [Int.toNat_natCast, List.getD_eq_getElem?_getD, ex]
        rfl)
      have HR := Lib.hid (hrg wr KN.out)
      rw [HQ.out] at K5
      have ck := HasC.cell K5.out (k := 0) rfl
      have U1 : Hid True := Lib.hid trivial
      have U2 : Hid True := Lib.hid trivial
      have U3 : Hid True := Lib.hid trivial
      have U4 : Hid True := Lib.hid trivial
      clear ex hrg
      cases hm : movesB x.op with
      | false =>
        have HW : Hid (o = some k) := Lib.hid (wy_one HO.out (show Wy f p (some k) from ⟨KM.out, by unfold mvA; rw [HX.out]; exact hm⟩))
        have HM := Lib.hid hm
        clear hm
        have U5 : Hid True := Lib.hid trivial
        have U6 : Hid True := Lib.hid trivial
        go_wp2_with (first
          | (clear U1; refine wpList_ldE rfl (.tmp 21) rfl fb fo rfl HR.out ?_)
          | (clear U2; refine wpList_alHI rfl rfl ?_; intro w5 g7 hg7 hl7 H7 hn; have A7 : Hid (HasI w5 g7 ⟨0, 0, 0, 0, 0, 0⟩) := Lib.hid H7; have n7 : w.heap.size ≤ g7 := Nat.le_trans KN.out.size hg7; have L4 : Hid (HasRp w5 g4 0 (.slice none 0 0) 0) := Lib.hid (HasC.new K4.out hn); have L5 : Hid (HasRp w5 g5 (q : Int) (.slice (some ⟨kb, 0, none⟩) 24 cb) (k : Int)) := Lib.hid (HasC.new K5.out hn); have LV := Lib.hid (KV.out.new hn); have LN := Lib.hid (KN.out.trans hn); have d47 : g4 ≠ g7 := Nat.ne_of_lt (Nat.lt_of_lt_of_le (HasC.lt K4.out) hg7); have d57 : g5 ≠ g7 := Nat.ne_of_lt (Nat.lt_of_lt_of_le (HasC.lt K5.out) hg7); have dk7 : kb ≠ g7 := Nat.ne_of_lt (Nat.lt_of_lt_of_le (RwE.lt KV.out) hg7); clear H7 hn)
          | (clear U3; refine wpList_stHI rfl rfl (.tmp 7) (.tmp 22) rfl g7 rfl x rfl A7.out ?_; intro w6 B7 k7; have C7 : Hid (HasI w6 g7 x) := Lib.hid B7; have M4 : Hid (HasRp w6 g4 0 (.slice none 0 0) 0) := Lib.hid (HasC.kept L4.out k7 d47); have M5 : Hid (HasRp w6 g5 (q : Int) (.slice (some ⟨kb, 0, none⟩) 24 cb) (k : Int)) := Lib.hid (HasC.kept L5.out k7 d57); have MV := Lib.hid (RwE.kept LV.out k7 dk7); have MN := Lib.hid (k7.below _ n7 LN.out); clear B7 k7 A7 L4 L5 LV LN)
          | (clear U4; refine wpList_load_mid rfl 79 (.tmp 7) rfl g7 0 rfl (cells6 x) _ (HasC.all C7.out) Tryz.underlying79 rfl (by rw [cells6_len]; exact infoI) ?_)
          | (go_at_call 26; refine (refMoves_any x.op x.d x.a x.b x.n x.t _).mono ?_; rw [HM.out]; rintro e wq ⟨rfl, hn⟩; have Q4 : Hid (HasRp wq g4 0 (.slice none 0 0) 0) := Lib.hid (HasC.new M4.out hn); have Q5 : Hid (HasRp wq g5 (q : Int) (.slice (some ⟨kb, 0, none⟩) 24 cb) (k : Int)) := Lib.hid (HasC.new M5.out hn); have QV := Lib.hid (MV.out.new hn); have Q7 : Hid (HasI wq g7 x) := Lib.hid (HasC.new C7.out hn); have QN := Lib.hid (MN.out.trans hn); have x0 := HasC.cell Q7.out (k := 0) rfl; have x5 := HasC.cell Q7.out (k := 5) rfl; have y0 := HasC.cell Q5.out (k := 0) rfl; clear hn M4 M5 MV C7 MN ck)
          | (clear U5; refine wpList_ldRp rfl (.tmp 5) rfl g5 rfl Q5.out ?_)
          | (clear U6; refine wpList_stRp rfl rfl (.tmp 4) (.tmp 26) rfl g4 rfl (q : Int) (k : Int) (some ⟨kb, 0, none⟩) 24 cb rfl Q4.out ?_; intro wz bz kz))
        refine bodyPost_ret (resRp _ rfl _ _ g4 _ _ _ rfl bz) rfl ?_
        rw [HW.out]
        refine ⟨kb, cb, ?_, RwE.kept QV.out kz dk4, kz.below _ hg4 QN.out, bk⟩
        show _ = Ending.returned (.agg #[.int .i64 (itA f p k), .slice (some ⟨kb, 0, none⟩) 24 cb, .int .i64 (k : Int)])
        rw [HQ.out]
      | true =>
        have HM := Lib.hid hm
        have HMV : Hid (mvA f (itA f p k) = true) := Lib.hid (by unfold mvA; rw [HX.out]; exact hm)
        have HNX0 : Hid (itA f p (k + 1) = if x.op = 16 then x.t else (q : Int) + 1) := Lib.hid (by
          show nxA f (itA f p k) = _
          unfold nxA
          rw [HX.out, HQ.out])
        have HTB : Hid (aft (tbA f p k) x = tbA f p (k + 1)) := Lib.hid (by
          show _ = aft (tbA f p k) (insA f (itA f p k))
          rw [HX.out])
        clear hm
        by_cases h16 : x.op = 16
        · have q16 : (x.op == 16) = true := beq_of h16
          have HNX : Hid (itA f p (k + 1) = x.t) := Lib.hid (by rw [HNX0.out, if_pos h16])
          clear h16
          go_wp2_with (first
              | (clear U1; refine wpList_ldE rfl (.tmp 21) rfl fb fo rfl HR.out ?_)
              | (clear U2; refine wpList_alHI rfl rfl ?_; intro w5 g7 hg7 hl7 H7 hn; have A7 : Hid (HasI w5 g7 ⟨0, 0, 0, 0, 0, 0⟩) := Lib.hid H7; have n7 : w.heap.size ≤ g7 := Nat.le_trans KN.out.size hg7; have L4 : Hid (HasRp w5 g4 0 (.slice none 0 0) 0) := Lib.hid (HasC.new K4.out hn); have L5 : Hid (HasRp w5 g5 (q : Int) (.slice (some ⟨kb, 0, none⟩) 24 cb) (k : Int)) := Lib.hid (HasC.new K5.out hn); have LV := Lib.hid (KV.out.new hn); have LN := Lib.hid (KN.out.trans hn); have d47 : g4 ≠ g7 := Nat.ne_of_lt (Nat.lt_of_lt_of_le (HasC.lt K4.out) hg7); have d57 : g5 ≠ g7 := Nat.ne_of_lt (Nat.lt_of_lt_of_le (HasC.lt K5.out) hg7); have dk7 : kb ≠ g7 := Nat.ne_of_lt (Nat.lt_of_lt_of_le (RwE.lt KV.out) hg7); clear H7 hn)
              | (clear U3; refine wpList_stHI rfl rfl (.tmp 7) (.tmp 22) rfl g7 rfl x rfl A7.out ?_; intro w6 B7 k7; have C7 : Hid (HasI w6 g7 x) := Lib.hid B7; have M4 : Hid (HasRp w6 g4 0 (.slice none 0 0) 0) := Lib.hid (HasC.kept L4.out k7 d47); have M5 : Hid (HasRp w6 g5 (q : Int) (.slice (some ⟨kb, 0, none⟩) 24 cb) (k : Int)) := Lib.hid (HasC.kept L5.out k7 d57); have MV := Lib.hid (RwE.kept LV.out k7 dk7); have MN := Lib.hid (k7.below _ n7 LN.out); clear B7 k7 A7 L4 L5 LV LN)
              | (clear U4; refine wpList_load_mid rfl 79 (.tmp 7) rfl g7 0 rfl (cells6 x) _ (HasC.all C7.out) Tryz.underlying79 rfl (by rw [cells6_len]; exact infoI) ?_)
              | (go_at_call 26; refine (refMoves_any x.op x.d x.a x.b x.n x.t _).mono ?_; rw [HM.out]; rintro e wq ⟨rfl, hn⟩; have Q4 : Hid (HasRp wq g4 0 (.slice none 0 0) 0) := Lib.hid (HasC.new M4.out hn); have Q5 : Hid (HasRp wq g5 (q : Int) (.slice (some ⟨kb, 0, none⟩) 24 cb) (k : Int)) := Lib.hid (HasC.new M5.out hn); have QV := Lib.hid (MV.out.new hn); have Q7 : Hid (HasI wq g7 x) := Lib.hid (HasC.new C7.out hn); have QN := Lib.hid (MN.out.trans hn); have x0 := HasC.cell Q7.out (k := 0) rfl; have x5 := HasC.cell Q7.out (k := 5) rfl; have y0 := HasC.cell Q5.out (k := 0) rfl; clear hn M4 M5 MV C7 MN ck))
          have S0 : Hid (New wq wq.drew) := Lib.hid ((New.refl wq).drew)
          refine wp_region_noPanic ?_
          refine region_late (k := 9) (S := fun w' => New wq w') (by kernel_rfl) S0.out (fun _ => ?_)
          refine late_take (i := 0) (v := .int .i64 (x.t)) rfl (by kernel_rfl) (by kernel_rfl) (by kernel_rfl) (by kernel_rfl) (fun _ _ _ h => h) (Or.inl ⟨rfl, fun _ _ => by go_simp⟩) S0.out ?_
          simp only [List.getElem_toArray, List.getElem_cons_zero, Act.put, List.setIfInBounds_toArray, List.set_cons_zero, List.set_cons_succ]
          refine late_take (i := 1) (v := .pointer (some ⟨g5, 1, none⟩)) rfl (by kernel_rfl) (by kernel_rfl) (by kernel_rfl) (by kernel_rfl) (fun _ _ _ h => h) (Or.inl ⟨rfl, fun _ _ => by go_simp⟩) S0.out ?_
          simp only [List.getElem_toArray, List.getElem_cons_zero, List.getElem_cons_succ, Act.put, List.setIfInBounds_toArray, List.set_cons_zero, List.set_cons_succ]
          refine late_take (i := 2) (v := .slice (some ⟨kb, 0, none⟩) 24 cb) rfl (by kernel_rfl) (by kernel_rfl) (by kernel_rfl) (by kernel_rfl) (fun _ _ _ h => h) (ldV_if rfl 43 Tryz.isAgg43 (.tmp 36) rfl ⟨g5, 1, none⟩ rfl (fun w' h => HasC.cell (HasC.new Q5.out h) rfl)) S0.out ?_
          simp only [List.getElem_toArray, List.getElem_cons_zero, List.getElem_cons_succ, Act.put, List.setIfInBounds_toArray, List.set_cons_zero, List.set_cons_succ]
          refine late_take (i := 3) (v := .agg #[.int .i64 (x).op, .int .i64 (x).d, .int .i64 (x).a, .int .i64 (x).b, .int .i64 (x).n, .int .i64 (x).t]) rfl (by kernel_rfl) (by kernel_rfl) (by kernel_rfl) (by kernel_rfl) (fun _ _ _ h => h) (yieldsIf_load_mid (by rfl) _ _ rfl g7 0 rfl (cells6 x) _ (fun w' h => HasC.all (HasC.new Q7.out h)) Tryz.underlying79 rfl (by rw [cells6_len]; exact infoI)) S0.out ?_
          simp only [List.getElem_toArray, List.getElem_cons_zero, List.getElem_cons_succ, Act.put, List.setIfInBounds_toArray, List.set_cons_zero, List.set_cons_succ]
          refine late_take (i := 5) (v := .pointer (some ⟨g5, 2, none⟩)) rfl (by kernel_rfl) (by kernel_rfl) (by kernel_rfl) (by kernel_rfl) (fun _ _ _ h => h) (Or.inl ⟨rfl, fun _ _ => by go_simp⟩) S0.out ?_
          simp only [List.getElem_toArray, List.getElem_cons_zero, List.getElem_cons_succ, Act.put, List.setIfInBounds_toArray, List.set_cons_zero, List.set_cons_succ]
          refine late_take (i := 6) (v := .int .i64 (k : Int)) rfl (by kernel_rfl) (by kernel_rfl) (by kernel_rfl) (by kernel_rfl) (fun _ _ _ h => h) (ldV_if rfl 3 Tryz.isAgg3 (.tmp 40) rfl ⟨g5, 2, none⟩ rfl (fun w' h => HasC.cell (HasC.new Q5.out h) rfl)) S0.out ?_
          simp only [List.getElem_toArray, List.getElem_cons_zero, List.getElem_cons_succ, Act.put, List.setIfInBounds_toArray, List.set_cons_zero, List.set_cons_succ]
          refine late_take (i := 7) (v := .int .i64 ((k : Int) + 1)) rfl (by kernel_rfl) (by kernel_rfl) (by kernel_rfl) (by kernel_rfl) (fun _ _ _ h => h) (Or.inl ⟨rfl, fun _ _ => by go_simp; exact IntWalk.i64_in _ (by omega)⟩) S0.out ?_
          simp only [List.getElem_toArray, List.getElem_cons_zero, List.getElem_cons_succ, Act.put, List.setIfInBounds_toArray, List.set_cons_zero, List.set_cons_succ]
          refine late_call (i := 4) rfl rfl (by kernel_rfl) 103 #[.slice (some ⟨kb, 0, none⟩) 24 cb, .agg #[.int .i64 (x).op, .int .i64 (x).d, .int .i64 (x).a, .int .i64 (x).b, .int .i64 (x).n, .int .i64 (x).t]] (by go_simp) ?_
          refine (refAfterK_any _ (tbA f p k) x _ (RwE.el (RwE.new QV.out S0.out) (fun _ => rfl) cb)).mono ?_
          rintro e wr2 ⟨k9, cap9, rfl, he2, hn2, hb9⟩
          have b9 : w.heap.size ≤ k9 := Nat.le_trans (QN.out.trans S0.out).size hb9
          have nr2 : New wq wr2 := S0.out.trans hn2
          have V2 := Lib.hid he2
          have Q5' : Hid (HasRp wr2 g5 (q : Int) (.slice (some ⟨kb, 0, none⟩) 24 cb) (k : Int)) := Lib.hid (HasC.new Q5.out nr2)
          have hb9' : g5 < k9 := Nat.lt_of_lt_of_le (HasC.lt Q5.out) hb9
          clear he2
          refine ⟨_, rfl, nr2, ?_⟩
          simp only [List.getElem_toArray, List.getElem_cons_zero, List.getElem_cons_succ, Act.put, List.setIfInBounds_toArray, List.set_cons_zero, List.set_cons_succ]
          refine late_take (i := 8) (v := .agg #[.int .i64 (x.t), .slice (some ⟨k9, 0, none⟩) 24 cap9, .int .i64 ((k : Int) + 1)]) rfl (by kernel_rfl) (by kernel_rfl) (by kernel_rfl) (by kernel_rfl) (fun _ _ _ h => h) (Or.inl ⟨rfl, fun _ _ => by unfold execOp; simp only [Act.eval]; simp [build_Rp3]⟩) nr2 ?_
          simp only [List.getElem_toArray, List.getElem_cons_zero, List.getElem_cons_succ, Act.put, List.setIfInBounds_toArray, List.set_cons_zero, List.set_cons_succ]
          refine late_last rfl rfl rfl (by kernel_rfl) (by kernel_rfl) (run_stC 149 (.tmp 5) (.tmp 43) rfl g5 rfl _ rfl Q5'.out (rpC (x.t) (.slice (some ⟨k9, 0, none⟩) 24 cap9) ((k : Int) + 1)) rfl rfl (rpC_one rfl) infoRp) ?_
          refine NoPanic.normal ?_
          have bz := HasC.put Q5'.out (rpC (x.t) (.slice (some ⟨k9, 0, none⟩) 24 cap9) ((k : Int) + 1))
          have kz := Kept.put wr2 g5 (.cells (rpC (x.t) (.slice (some ⟨k9, 0, none⟩) 24 cap9) ((k : Int) + 1)).toArray 149 (0, 0))
          generalize putO wr2 g5 (.cells (rpC (x.t) (.slice (some ⟨k9, 0, none⟩) 24 cap9) ((k : Int) + 1)).toArray 149 (0, 0)) = wz at bz kz ⊢
          go_wp2
          go_roundw
          case rel => exact ⟨k + 1, k9, cap9, by go_num, by omega, by omega, by omega, b9, Lib.hid (HasC.kept (HasC.new (HasC.new Q4.out S0.out) hn2) kz d45), Lib.hid (by rw [HNX.out]; exact bz), Lib.hid (by rw [← HTB.out]; exact RwE.kept V2.out kz (by omega)), Lib.hid (kz.below _ n5 (QN.out.trans nr2)), Lib.hid (fun j hj => by
            rcases Nat.lt_or_ge j k with h | h
            · exact KM.out j h
            · rw [show j = k by omega]; exact HMV.out)⟩
          case measure => simp [intOf]; omega
        · have q16 : (x.op == 16) = false := bneq_of h16
          have HNX : Hid (itA f p (k + 1) = (q : Int) + 1) := Lib.hid (by rw [HNX0.out, if_neg h16])
          clear h16
          go_wp2_with (first
              | (clear U1; refine wpList_ldE rfl (.tmp 21) rfl fb fo rfl HR.out ?_)
              | (clear U2; refine wpList_alHI rfl rfl ?_; intro w5 g7 hg7 hl7 H7 hn; have A7 : Hid (HasI w5 g7 ⟨0, 0, 0, 0, 0, 0⟩) := Lib.hid H7; have n7 : w.heap.size ≤ g7 := Nat.le_trans KN.out.size hg7; have L4 : Hid (HasRp w5 g4 0 (.slice none 0 0) 0) := Lib.hid (HasC.new K4.out hn); have L5 : Hid (HasRp w5 g5 (q : Int) (.slice (some ⟨kb, 0, none⟩) 24 cb) (k : Int)) := Lib.hid (HasC.new K5.out hn); have LV := Lib.hid (KV.out.new hn); have LN := Lib.hid (KN.out.trans hn); have d47 : g4 ≠ g7 := Nat.ne_of_lt (Nat.lt_of_lt_of_le (HasC.lt K4.out) hg7); have d57 : g5 ≠ g7 := Nat.ne_of_lt (Nat.lt_of_lt_of_le (HasC.lt K5.out) hg7); have dk7 : kb ≠ g7 := Nat.ne_of_lt (Nat.lt_of_lt_of_le (RwE.lt KV.out) hg7); clear H7 hn)
              | (clear U3; refine wpList_stHI rfl rfl (.tmp 7) (.tmp 22) rfl g7 rfl x rfl A7.out ?_; intro w6 B7 k7; have C7 : Hid (HasI w6 g7 x) := Lib.hid B7; have M4 : Hid (HasRp w6 g4 0 (.slice none 0 0) 0) := Lib.hid (HasC.kept L4.out k7 d47); have M5 : Hid (HasRp w6 g5 (q : Int) (.slice (some ⟨kb, 0, none⟩) 24 cb) (k : Int)) := Lib.hid (HasC.kept L5.out k7 d57); have MV := Lib.hid (RwE.kept LV.out k7 dk7); have MN := Lib.hid (k7.below _ n7 LN.out); clear B7 k7 A7 L4 L5 LV LN)
              | (clear U4; refine wpList_load_mid rfl 79 (.tmp 7) rfl g7 0 rfl (cells6 x) _ (HasC.all C7.out) Tryz.underlying79 rfl (by rw [cells6_len]; exact infoI) ?_)
              | (go_at_call 26; refine (refMoves_any x.op x.d x.a x.b x.n x.t _).mono ?_; rw [HM.out]; rintro e wq ⟨rfl, hn⟩; have Q4 : Hid (HasRp wq g4 0 (.slice none 0 0) 0) := Lib.hid (HasC.new M4.out hn); have Q5 : Hid (HasRp wq g5 (q : Int) (.slice (some ⟨kb, 0, none⟩) 24 cb) (k : Int)) := Lib.hid (HasC.new M5.out hn); have QV := Lib.hid (MV.out.new hn); have Q7 : Hid (HasI wq g7 x) := Lib.hid (HasC.new C7.out hn); have QN := Lib.hid (MN.out.trans hn); have x0 := HasC.cell Q7.out (k := 0) rfl; have x5 := HasC.cell Q7.out (k := 5) rfl; have y0 := HasC.cell Q5.out (k := 0) rfl; clear hn M4 M5 MV C7 MN ck))
          have S0 : Hid (New wq wq.drew) := Lib.hid ((New.refl wq).drew)
          refine wp_region_noPanic ?_
          refine region_late (k := 9) (S := fun w' => New wq w') (by kernel_rfl) S0.out (fun _ => ?_)
          refine late_take (i := 0) (v := .int .i64 ((q : Int) + 1)) rfl (by kernel_rfl) (by kernel_rfl) (by kernel_rfl) (by kernel_rfl) (fun _ _ _ h => h) (Or.inl ⟨rfl, fun _ _ => by go_simp⟩) S0.out ?_
          simp only [List.getElem_toArray, List.getElem_cons_zero, Act.put, List.setIfInBounds_toArray, List.set_cons_zero, List.set_cons_succ]
          refine late_take (i := 1) (v := .pointer (some ⟨g5, 1, none⟩)) rfl (by kernel_rfl) (by kernel_rfl) (by kernel_rfl) (by kernel_rfl) (fun _ _ _ h => h) (Or.inl ⟨rfl, fun _ _ => by go_simp⟩) S0.out ?_
          simp only [List.getElem_toArray, List.getElem_cons_zero, List.getElem_cons_succ, Act.put, List.setIfInBounds_toArray, List.set_cons_zero, List.set_cons_succ]
          refine late_take (i := 2) (v := .slice (some ⟨kb, 0, none⟩) 24 cb) rfl (by kernel_rfl) (by kernel_rfl) (by kernel_rfl) (by kernel_rfl) (fun _ _ _ h => h) (ldV_if rfl 43 Tryz.isAgg43 (.tmp 36) rfl ⟨g5, 1, none⟩ rfl (fun w' h => HasC.cell (HasC.new Q5.out h) rfl)) S0.out ?_
          simp only [List.getElem_toArray, List.getElem_cons_zero, List.getElem_cons_succ, Act.put, List.setIfInBounds_toArray, List.set_cons_zero, List.set_cons_succ]
          refine late_take (i := 3) (v := .agg #[.int .i64 (x).op, .int .i64 (x).d, .int .i64 (x).a, .int .i64 (x).b, .int .i64 (x).n, .int .i64 (x).t]) rfl (by kernel_rfl) (by kernel_rfl) (by kernel_rfl) (by kernel_rfl) (fun _ _ _ h => h) (yieldsIf_load_mid (by rfl) _ _ rfl g7 0 rfl (cells6 x) _ (fun w' h => HasC.all (HasC.new Q7.out h)) Tryz.underlying79 rfl (by rw [cells6_len]; exact infoI)) S0.out ?_
          simp only [List.getElem_toArray, List.getElem_cons_zero, List.getElem_cons_succ, Act.put, List.setIfInBounds_toArray, List.set_cons_zero, List.set_cons_succ]
          refine late_take (i := 5) (v := .pointer (some ⟨g5, 2, none⟩)) rfl (by kernel_rfl) (by kernel_rfl) (by kernel_rfl) (by kernel_rfl) (fun _ _ _ h => h) (Or.inl ⟨rfl, fun _ _ => by go_simp⟩) S0.out ?_
          simp only [List.getElem_toArray, List.getElem_cons_zero, List.getElem_cons_succ, Act.put, List.setIfInBounds_toArray, List.set_cons_zero, List.set_cons_succ]
          refine late_take (i := 6) (v := .int .i64 (k : Int)) rfl (by kernel_rfl) (by kernel_rfl) (by kernel_rfl) (by kernel_rfl) (fun _ _ _ h => h) (ldV_if rfl 3 Tryz.isAgg3 (.tmp 40) rfl ⟨g5, 2, none⟩ rfl (fun w' h => HasC.cell (HasC.new Q5.out h) rfl)) S0.out ?_
          simp only [List.getElem_toArray, List.getElem_cons_zero, List.getElem_cons_succ, Act.put, List.setIfInBounds_toArray, List.set_cons_zero, List.set_cons_succ]
          refine late_take (i := 7) (v := .int .i64 ((k : Int) + 1)) rfl (by kernel_rfl) (by kernel_rfl) (by kernel_rfl) (by kernel_rfl) (fun _ _ _ h => h) (Or.inl ⟨rfl, fun _ _ => by go_simp; exact IntWalk.i64_in _ (by omega)⟩) S0.out ?_
          simp only [List.getElem_toArray, List.getElem_cons_zero, List.getElem_cons_succ, Act.put, List.setIfInBounds_toArray, List.set_cons_zero, List.set_cons_succ]
          refine late_call (i := 4) rfl rfl (by kernel_rfl) 103 #[.slice (some ⟨kb, 0, none⟩) 24 cb, .agg #[.int .i64 (x).op, .int .i64 (x).d, .int .i64 (x).a, .int .i64 (x).b, .int .i64 (x).n, .int .i64 (x).t]] (by go_simp) ?_
          refine (refAfterK_any _ (tbA f p k) x _ (RwE.el (RwE.new QV.out S0.out) (fun _ => rfl) cb)).mono ?_
          rintro e wr2 ⟨k9, cap9, rfl, he2, hn2, hb9⟩
          have b9 : w.heap.size ≤ k9 := Nat.le_trans (QN.out.trans S0.out).size hb9
          have nr2 : New wq wr2 := S0.out.trans hn2
          have V2 := Lib.hid he2
          have Q5' : Hid (HasRp wr2 g5 (q : Int) (.slice (some ⟨kb, 0, none⟩) 24 cb) (k : Int)) := Lib.hid (HasC.new Q5.out nr2)
          have hb9' : g5 < k9 := Nat.lt_of_lt_of_le (HasC.lt Q5.out) hb9
          clear he2
          refine ⟨_, rfl, nr2, ?_⟩
          simp only [List.getElem_toArray, List.getElem_cons_zero, List.getElem_cons_succ, Act.put, List.setIfInBounds_toArray, List.set_cons_zero, List.set_cons_succ]
          refine late_take (i := 8) (v := .agg #[.int .i64 ((q : Int) + 1), .slice (some ⟨k9, 0, none⟩) 24 cap9, .int .i64 ((k : Int) + 1)]) rfl (by kernel_rfl) (by kernel_rfl) (by kernel_rfl) (by kernel_rfl) (fun _ _ _ h => h) (Or.inl ⟨rfl, fun _ _ => by unfold execOp; simp only [Act.eval]; simp [build_Rp3]⟩) nr2 ?_
          simp only [List.getElem_toArray, List.getElem_cons_zero, List.getElem_cons_succ, Act.put, List.setIfInBounds_toArray, List.set_cons_zero, List.set_cons_succ]
          refine late_last rfl rfl rfl (by kernel_rfl) (by kernel_rfl) (run_stC 149 (.tmp 5) (.tmp 43) rfl g5 rfl _ rfl Q5'.out (rpC ((q : Int) + 1) (.slice (some ⟨k9, 0, none⟩) 24 cap9) ((k : Int) + 1)) rfl rfl (rpC_one rfl) infoRp) ?_
          refine NoPanic.normal ?_
          have bz := HasC.put Q5'.out (rpC ((q : Int) + 1) (.slice (some ⟨k9, 0, none⟩) 24 cap9) ((k : Int) + 1))
          have kz := Kept.put wr2 g5 (.cells (rpC ((q : Int) + 1) (.slice (some ⟨k9, 0, none⟩) 24 cap9) ((k : Int) + 1)).toArray 149 (0, 0))
          generalize putO wr2 g5 (.cells (rpC ((q : Int) + 1) (.slice (some ⟨k9, 0, none⟩) 24 cap9) ((k : Int) + 1)).toArray 149 (0, 0)) = wz at bz kz ⊢
          go_wp2
          go_roundw
          case rel => exact ⟨k + 1, k9, cap9, by go_num, by omega, by omega, by omega, b9, Lib.hid (HasC.kept (HasC.new (HasC.new Q4.out S0.out) hn2) kz d45), Lib.hid (by rw [HNX.out]; exact bz), Lib.hid (by rw [← HTB.out]; exact RwE.kept V2.out kz (by omega)), Lib.hid (kz.below _ n5 (QN.out.trans nr2)), Lib.hid (fun j hj => by
            rcases Nat.lt_or_ge j k with h | h
            · exact KM.out j h
            · rw [show j = k by omega]; exact HMV.out)⟩
          case measure => simp [intOf]; omega
    · have dkn : decide ((k : Int) ≤ (n : Int)) = false := decide_eq_false (by omega)
      have HW : Hid (o = none) := Lib.hid (wy_one HO.out (show Wy f p none from full_never HI.out (n := k) (by have := HLN.out; omega) KM.out))
      have U1 : Hid True := Lib.hid trivial
      have U2 : Hid True := Lib.hid trivial
      have U3 : Hid True := Lib.hid trivial
      go_wp2_with (first
        | (clear U1; go_at_call 102; refine (refNewK_any _).mono ?_; rintro e w5 ⟨k5, c5, rfl, he, hn, hb5⟩; have b5 : w.heap.size ≤ k5 := Nat.le_trans KN.out.size hb5; have V5 := Lib.hid he; have M4 : Hid (HasRp w5 g4 0 (.slice none 0 0) 0) := Lib.hid (HasC.new K4.out hn); have MN := Lib.hid (KN.out.trans hn); have d54 : k5 ≠ g4 := (by have := HasC.lt K4.out; omega); clear he hn)
        | (clear U2; refine wpList_bdRp rfl (.const (.int .i64 (-1))) (.tmp 44) rfl (-1) rfl (some ⟨k5, 0, none⟩) 24 c5 rfl ?_)
        | (clear U3; refine wpList_stRp rfl rfl (.tmp 4) (.tmp 45) rfl g4 rfl (-1) 0 (some ⟨k5, 0, none⟩) 24 c5 rfl M4.out ?_; intro wz bz kz))
      refine bodyPost_ret (resRp _ rfl _ _ g4 _ _ _ rfl bz) rfl ?_
      rw [HW.out]
      exact ⟨_, _, rfl, RwE.kept V5.out kz d54, kz.below _ hg4 MN.out, b5⟩
theorem refFrom_in (ao : Option Addr) (n cap : Nat) (f : List I) (p : Int) (o : Option Nat) (w : World) (hf : FunAt w (.slice ao n cap) f) (hi : InF f p) (ho : Wy f p o) :
    Calls Tryz.prog 71 #[.slice ao n cap, .int .i64 p] w fun e w' => ∃ ro rc, e = .returned (.agg #[.int .i64 (toP f p o), .slice ro 24 rc, .int .i64 (stP o)]) ∧ ElAt w' (.slice ro 24 rc) 24 (fun i => rcells (tbP f p o i)) ∧ New w w' :=
  (refFromK_in ao n cap f p o w hf hi ho).mono fun _ _ ⟨_, rc, h1, h2, h3, _⟩ => ⟨_, rc, h1, h2.el (fun _ => rfl) rc, h3⟩
theorem refFrom_is {w0 : World} {v : Value} {f : List I} {p : Int} {o : Option Nat} {w : World} (_h0 : New w0 w) (hf : FunAt w v f) (hi : InF f p) (ho : Wy f p o) {q k : Int} {t : Tb} (hq : toP f p o = q) (ht : tbP f p o = t) (hk : stP o = k) :
    Calls Tryz.prog 71 #[v, .int .i64 p] w fun e w' => ∃ ro rc, e = .returned (.agg #[.int .i64 q, .slice ro 24 rc, .int .i64 k]) ∧ ElAt w' (.slice ro 24 rc) 24 (fun i => rcells (t i)) ∧ New w w' := by
  obtain ⟨ao, cap, rfl⟩ := hf.form
  rw [← hq, ← ht, ← hk]
  exact refFrom_in ao _ cap f p o w hf hi ho
end Go.Proofs.YtphopkjgfkaihaaGreatDoor
