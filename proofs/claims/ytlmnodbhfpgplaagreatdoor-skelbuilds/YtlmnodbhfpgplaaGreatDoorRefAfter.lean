/-
  The reference's After (joineryref05), for every table and instruction.
-/
import Derived.Test.YtlmnodbhfpgplaaGreatDoorEnvRef0
import Derived.Test.YtlmnodbhfpgplaaGreatDoorHeld
namespace Go.Proofs.YtlmnodbhfpgplaaGreatDoor
open Go.RowKit

theorem placeR_any (l : Int) (w : World) :
    Calls Tryz.prog 101 #[.int .i64 l] w fun e w' => e = .returned (.bool (rightB l)) ∧ w = w' := by
  cases h : rightB l with
  | true =>
    have h1 : decide (0 ≤ l) = true := decide_eq_true (right_lt h).2.1
    have h2 : decide (l < 24) = true := decide_eq_true (right_lt h).2.2
    clear h
    go_enter Tryz.func101, Tryz.ntmps101
    go_wp2
    go_ret
    exact ⟨rfl, rfl⟩
  | false =>
    by_cases h0 : 0 ≤ l
    · have h1 : decide (0 ≤ l) = true := decide_eq_true h0
      have h2 : decide (l < 24) = false := decide_eq_false (fun h3 => by
        have := of_decide_eq_false h
        omega)
      clear h h0
      go_enter Tryz.func101, Tryz.ntmps101
      go_wp2
      go_ret
      exact ⟨rfl, rfl⟩
    · have h1 : decide (0 ≤ l) = false := decide_eq_false h0
      clear h h0
      go_enter Tryz.func101, Tryz.ntmps101
      go_wp2
      go_ret
      exact ⟨rfl, rfl⟩
theorem rcells_len (s : Sr) : (rcells s).length = 2 := rfl
theorem rcells_one (s : Sr) : ∀ c ∈ rcells s, c.oneCell' = true := by
  intro c hc
  simp only [rcells, List.mem_cons, List.not_mem_nil, or_false] at hc
  rcases hc with rfl | rfl <;> rfl
theorem rcells_upd (t : Tb) (k : Nat) (s : Sr) : updG (fun i => rcells (t i)) k (rcells s) = fun i => rcells (upd t k s i) := by
  funext i
  unfold updG upd
  split <;> rfl
theorem sizeR2 : (Tryz.prog.info? 167).map (·.size) = some 2 := by kernel_rfl
theorem zeroRs_run (w : World) : (zeroValue 167).run Tryz.prog w = .ok (.agg #[.int .i64 0, .int .i64 0]) w := Tryz.zeroValue167 w
abbrev HasRs (w : World) (g : Nat) (s : Sr) : Prop := HasC w g 167 (rcells s)
/-- A place's source is stored into the row. -/
theorem wpList_stRs {ops : Array Oper} {rest : List Oper} {op : Oper} {act : Act} {w : World} {Q : Exit → Act → World → Prop} (hgd : op.guard = none) (hdst : op.dst = none) (a b : Operand) (ho : op.op = .store 167 a b) (k i : Nat) (hi : i < 24) (hx : act.eval a = .pointer (some ⟨k, i * 2, none⟩)) (s : Sr) (hy : act.eval b = .agg #[.int .i64 (refS s).1, .int .i64 (refS s).2])
    {t : Tb} (h : RwE w 167 k 24 (fun i => rcells (t i))) (hk : ∀ w', RwE w' 167 k 24 (fun j => rcells (upd t i s j)) → Kept k w w' → wpList Tryz.prog ops Q rest act w') : wpList Tryz.prog ops Q (op :: rest) act w :=
  wpList_stE2 hgd hdst _ a b ho k i 24 hi hx _ _ hy rfl rfl sizeR2 (fun _ => rfl) h fun w' h1 h2 => hk w' (by rw [← rcells_upd]; exact h1) h2
theorem ix_Rs (k i cap : Nat) (hi : i < 24) (w : World) : (Instr.indexAt 65 (.slice (some ⟨k, 0, none⟩) 24 cap) (.int .i64 (i : Int))).run Tryz.prog w = .ok (.pointer (some ⟨k, i * 2, none⟩)) w := ix_E2 Tryz.underlying65 sizeR k i 24 cap hi w
set_option maxHeartbeats 4000000 in
set_option maxRecDepth 100000 in
theorem refAfterK_out1 (v : Value) (t : Tb) (x : I) (hd : rightB x.d = false) (w : World) (h : ElAt w v 24 (fun i => rcells (t i))) :
    Calls Tryz.prog 89 #[v, .agg #[.int .i64 (x).op, .int .i64 (x).d, .int .i64 (x).a, .int .i64 (x).b, .int .i64 (x).n, .int .i64 (x).t]] w fun e w' => ∃ k cap, e = .returned (.slice (some ⟨k, 0, none⟩) 24 cap) ∧ RwE w' 167 k 24 (fun i => rcells (orN t i)) ∧ New w w' ∧ w.heap.size ≤ k := by
  have HV := Lib.hid h
  clear h
  have T1 : Hid True := Lib.hid trivial
  have T2 : Hid True := Lib.hid trivial
  have T3 : Hid True := Lib.hid trivial
  have T4 : Hid True := Lib.hid trivial
  go_enter Tryz.func89, Tryz.ntmps89
  go_wp2_with (first
    | (clear T1; refine wpList_boxX rfl 79 (.tmp 1) rfl (cells6 x) rfl ?_; intro w1 g3 hg3 hl3 H3 hn; have A3 : Hid (HasC w1 g3 79 (cells6 x)) := Lib.hid H3; have N1 := Lib.hid hn; clear H3 hn)
    | (go_at_call 100; refine (refgood_any v t _ (HV.out.new (N1.out.trans (alloc_new _ _)))).mono ?_; rintro e w2 ⟨vg, rfl, hg, hn⟩; have HG := Lib.hid hg; have M2 := Lib.hid ((alloc_new _ _).trans hn); have HO := Lib.hid (owns_new (own_emptyE (w := w1) 167 2 w1.heap.size (Nat.le_refl _)) hn); clear hg hn)
    | (at_builtin; clear T2; refine wpList_appE2 rfl (.tmp 8) (.tmp 10) 65 167 rfl Tryz.underlying65 infoR2 rfl (by decide) w1.heap.size _ rfl HO.out vg rfl 24 (by decide) (by decide) (fun i => rcells (orN t i)) (fun _ => rfl) (fun i => rcells_one _) HG.out M2.out.size ?_; intro v5 w3 hw3 hn3; obtain ⟨k5, cap5, e5, hk5, hr5⟩ := OwnG.block hw3 (by decide); subst e5; have R3 := Lib.hid hr5; have M3 : Hid (New w1 w3) := Lib.hid (hn3 w1 (Nat.le_refl _) M2.out); have N3 : Hid (New w w3) := Lib.hid (N1.out.trans M3.out); have A5 : Hid (HasC w3 g3 79 (cells6 x)) := Lib.hid (HasC.new A3.out M3.out); have dk : g3 ≠ k5 := (by omega); have nk : w.heap.size ≤ k5 := Nat.le_trans N1.out.size hk5; have c1 := HasC.cell A5.out (k := 1) rfl; have c2 := HasC.cell A5.out (k := 2) rfl; clear hw3 hn3 hr5 hk5 A3 HG HO M2 M3)
    | (clear T3; go_at_call 101; refine (placeR_any x.d _).mono ?_; rw [hd]; rintro e wq ⟨rfl, rfl⟩))
  go_ret
  first | exact ⟨_, _, rfl, R3.out, N3.out, nk⟩ | exact ⟨_, ⟨_, rfl⟩, R3.out, N3.out, nk⟩
set_option maxHeartbeats 4000000 in
set_option maxRecDepth 100000 in
theorem refAfterK_out2 (v : Value) (t : Tb) (x : I) (hd : rightB x.d = true) (ha : rightB x.a = false) (w : World) (h : ElAt w v 24 (fun i => rcells (t i))) :
    Calls Tryz.prog 89 #[v, .agg #[.int .i64 (x).op, .int .i64 (x).d, .int .i64 (x).a, .int .i64 (x).b, .int .i64 (x).n, .int .i64 (x).t]] w fun e w' => ∃ k cap, e = .returned (.slice (some ⟨k, 0, none⟩) 24 cap) ∧ RwE w' 167 k 24 (fun i => rcells (orN t i)) ∧ New w w' ∧ w.heap.size ≤ k := by
  have HV := Lib.hid h
  clear h
  have T1 : Hid True := Lib.hid trivial
  have T2 : Hid True := Lib.hid trivial
  have T3 : Hid True := Lib.hid trivial
  have T4 : Hid True := Lib.hid trivial
  go_enter Tryz.func89, Tryz.ntmps89
  go_wp2_with (first
    | (clear T1; refine wpList_boxX rfl 79 (.tmp 1) rfl (cells6 x) rfl ?_; intro w1 g3 hg3 hl3 H3 hn; have A3 : Hid (HasC w1 g3 79 (cells6 x)) := Lib.hid H3; have N1 := Lib.hid hn; clear H3 hn)
    | (go_at_call 100; refine (refgood_any v t _ (HV.out.new (N1.out.trans (alloc_new _ _)))).mono ?_; rintro e w2 ⟨vg, rfl, hg, hn⟩; have HG := Lib.hid hg; have M2 := Lib.hid ((alloc_new _ _).trans hn); have HO := Lib.hid (owns_new (own_emptyE (w := w1) 167 2 w1.heap.size (Nat.le_refl _)) hn); clear hg hn)
    | (at_builtin; clear T2; refine wpList_appE2 rfl (.tmp 8) (.tmp 10) 65 167 rfl Tryz.underlying65 infoR2 rfl (by decide) w1.heap.size _ rfl HO.out vg rfl 24 (by decide) (by decide) (fun i => rcells (orN t i)) (fun _ => rfl) (fun i => rcells_one _) HG.out M2.out.size ?_; intro v5 w3 hw3 hn3; obtain ⟨k5, cap5, e5, hk5, hr5⟩ := OwnG.block hw3 (by decide); subst e5; have R3 := Lib.hid hr5; have M3 : Hid (New w1 w3) := Lib.hid (hn3 w1 (Nat.le_refl _) M2.out); have N3 : Hid (New w w3) := Lib.hid (N1.out.trans M3.out); have A5 : Hid (HasC w3 g3 79 (cells6 x)) := Lib.hid (HasC.new A3.out M3.out); have dk : g3 ≠ k5 := (by omega); have nk : w.heap.size ≤ k5 := Nat.le_trans N1.out.size hk5; have c1 := HasC.cell A5.out (k := 1) rfl; have c2 := HasC.cell A5.out (k := 2) rfl; clear hw3 hn3 hr5 hk5 A3 HG HO M2 M3)
    | (clear T3; go_at_call 101; refine (placeR_any x.d _).mono ?_; rw [hd]; rintro e wq ⟨rfl, rfl⟩)
    | (clear T4; go_at_call 101; refine (placeR_any x.a _).mono ?_; rw [ha]; rintro e wq ⟨rfl, rfl⟩))
  go_ret
  first | exact ⟨_, _, rfl, R3.out, N3.out, nk⟩ | exact ⟨_, ⟨_, rfl⟩, R3.out, N3.out, nk⟩
set_option maxHeartbeats 8000000 in
set_option maxRecDepth 100000 in
theorem refAfterK_const (v : Value) (t : Tb) (o b n u : Int) (kd ka : Nat) (hkd : kd < 24) (hka : ka < 24) (h1 : (o == 1) = true) (h2 : (o == 2) = false) (h3 : (o == 3) = false) (hd : rightB (kd : Int) = true) (ha : rightB (ka : Int) = true) (w : World) (h : ElAt w v 24 (fun i => rcells (t i))) :
    Calls Tryz.prog 89 #[v, .agg #[.int .i64 o, .int .i64 (kd : Int), .int .i64 (ka : Int), .int .i64 b, .int .i64 n, .int .i64 u]] w fun e w' => ∃ k cap, e = .returned (.slice (some ⟨k, 0, none⟩) 24 cap) ∧ RwE w' 167 k 24 (fun i => rcells (aft t ⟨o, (kd : Int), (ka : Int), b, n, u⟩ i)) ∧ New w w' ∧ w.heap.size ≤ k := by
  have HV := Lib.hid h
  have HE : Hid (aft t ⟨o, (kd : Int), (ka : Int), b, n, u⟩ = upd (orN t) kd (1, n)) := Lib.hid (by
    unfold aft
    rw [if_pos ⟨hd, ha⟩]
    rw [if_pos (by simpa using h1)]
    simp)
  rw [HE.out]
  clear h
  have T1 : Hid True := Lib.hid trivial
  have T2 : Hid True := Lib.hid trivial
  have T3 : Hid True := Lib.hid trivial
  have T4 : Hid True := Lib.hid trivial
  have T5 : Hid True := Lib.hid trivial
  go_enter Tryz.func89, Tryz.ntmps89
  go_wp2_with (first
    | (clear T1; refine wpList_boxX rfl 79 (.tmp 1) rfl (cells6 ⟨o, (kd : Int), (ka : Int), b, n, u⟩) rfl ?_; intro w1 g3 hg3 hl3 H3 hn; have A3 : Hid (HasC w1 g3 79 (cells6 ⟨o, (kd : Int), (ka : Int), b, n, u⟩)) := Lib.hid H3; have N1 := Lib.hid hn; clear H3 hn)
    | (go_at_call 100; refine (refgood_any v t _ (HV.out.new (N1.out.trans (alloc_new _ _)))).mono ?_; rintro e w2 ⟨vg, rfl, hg, hn⟩; have HG := Lib.hid hg; have M2 := Lib.hid ((alloc_new _ _).trans hn); have HO := Lib.hid (owns_new (own_emptyE (w := w1) 167 2 w1.heap.size (Nat.le_refl _)) hn); clear hg hn)
    | (at_builtin; clear T2; refine wpList_appE2 rfl (.tmp 8) (.tmp 10) 65 167 rfl Tryz.underlying65 infoR2 rfl (by decide) w1.heap.size _ rfl HO.out vg rfl 24 (by decide) (by decide) (fun i => rcells (orN t i)) (fun _ => rfl) (fun i => rcells_one _) HG.out M2.out.size ?_; intro v5 w3 hw3 hn3; obtain ⟨k5, cap5, e5, hk5, hr5⟩ := OwnG.block hw3 (by decide); subst e5; have R3 := Lib.hid hr5; have M3 : Hid (New w1 w3) := Lib.hid (hn3 w1 (Nat.le_refl _) M2.out); have N3 : Hid (New w w3) := Lib.hid (N1.out.trans M3.out); have A5 : Hid (HasC w3 g3 79 (cells6 ⟨o, (kd : Int), (ka : Int), b, n, u⟩)) := Lib.hid (HasC.new A3.out M3.out); have dk : g3 ≠ k5 := (by omega); have nk : w.heap.size ≤ k5 := Nat.le_trans N1.out.size hk5; have c1 := HasC.cell A5.out (k := 1) rfl; have c2 := HasC.cell A5.out (k := 2) rfl; clear hw3 hn3 hr5 hk5 A3 HG HO M2 M3)
    | (clear T3; go_at_call 101; refine (placeR_any (kd : Int) _).mono ?_; rw [hd]; rintro e wq ⟨rfl, rfl⟩)
    | (clear T4; go_at_call 101; refine (placeR_any (ka : Int) _).mono ?_; rw [ha]; rintro e wq ⟨rfl, rfl⟩))
  have S0 : Hid (New w3 w3.drew) := Lib.hid ((New.refl w3).drew)
  refine wp_region_noPanic ?_
  refine wp_region_held_drew (S := fun w' => New w3 w') (by kernel_rfl) S0.out (fun _ => ?_)
  refine wpAnyH_take (i := 0) (v := .slice (some ⟨k5, 0, none⟩) 24 cap5) rfl (by kernel_rfl) (by kernel_rfl) (by kernel_rfl) (fun _ _ _ h => h) (Or.inl ⟨rfl, fun _ _ => by go_simp⟩) S0.out ?_
  simp only [List.getElem_toArray, List.getElem_cons_zero, Act.put, List.setIfInBounds_toArray, List.set_cons_zero, List.set_cons_succ]
  refine wpAnyH_take (i := 1) (v := .pointer (some ⟨g3, 1, none⟩)) rfl (by kernel_rfl) (by kernel_rfl) (by kernel_rfl) (fun _ _ _ h => h) (Or.inl ⟨rfl, fun _ _ => by go_simp⟩) S0.out ?_
  simp only [List.getElem_toArray, List.getElem_cons_zero, List.getElem_cons_succ, Act.put, List.setIfInBounds_toArray, List.set_cons_zero, List.set_cons_succ]
  refine wpAnyH_take (i := 2) (v := .int .i64 (kd : Int)) rfl (by kernel_rfl) (by kernel_rfl) (by kernel_rfl) (fun _ _ _ h => h) (ldV_if rfl 3 Tryz.isAgg3 (.tmp 24) rfl ⟨g3, 1, none⟩ rfl (fun w' h => HasC.cell (HasC.new A5.out h) rfl)) S0.out ?_
  simp only [List.getElem_toArray, List.getElem_cons_zero, List.getElem_cons_succ, Act.put, List.setIfInBounds_toArray, List.set_cons_zero, List.set_cons_succ]
  refine wpAnyH_take (i := 3) (v := .pointer (some ⟨k5, kd * 2, none⟩)) rfl (by kernel_rfl) (by kernel_rfl) (by kernel_rfl) (fun _ _ _ h => h) (ixV_if rfl _ (.tmp 23) (.tmp 25) rfl _ _ _ rfl rfl (ix_Rs k5 kd cap5 hkd)) S0.out ?_
  simp only [List.getElem_toArray, List.getElem_cons_zero, List.getElem_cons_succ, Act.put, List.setIfInBounds_toArray, List.set_cons_zero, List.set_cons_succ]
  refine wpAnyH_take (i := 4) (v := .agg #[.int .i64 (refS (orN t kd)).1, .int .i64 (refS (orN t kd)).2]) rfl (by kernel_rfl) (by kernel_rfl) (by kernel_rfl) (fun _ _ _ h => h) (yieldsIf_load_mid (by rfl) _ _ rfl k5 (kd * 2) rfl (rcells (orN t kd)) _ (fun w' h => (R3.out.new h).range (fun _ => rfl) hkd) Tryz.underlying167 rfl sizeR2) S0.out ?_
  simp only [List.getElem_toArray, List.getElem_cons_zero, List.getElem_cons_succ, Act.put, List.setIfInBounds_toArray, List.set_cons_zero, List.set_cons_succ]
  refine wpAnyH_take (i := 5) (v := .slice (some ⟨k5, 0, none⟩) 24 cap5) rfl (by kernel_rfl) (by kernel_rfl) (by kernel_rfl) (fun _ _ _ h => h) (Or.inl ⟨rfl, fun _ _ => by go_simp⟩) S0.out ?_
  simp only [List.getElem_toArray, List.getElem_cons_zero, List.getElem_cons_succ, Act.put, List.setIfInBounds_toArray, List.set_cons_zero, List.set_cons_succ]
  refine wpAnyH_take (i := 6) (v := .pointer (some ⟨g3, 2, none⟩)) rfl (by kernel_rfl) (by kernel_rfl) (by kernel_rfl) (fun _ _ _ h => h) (Or.inl ⟨rfl, fun _ _ => by go_simp⟩) S0.out ?_
  simp only [List.getElem_toArray, List.getElem_cons_zero, List.getElem_cons_succ, Act.put, List.setIfInBounds_toArray, List.set_cons_zero, List.set_cons_succ]
  refine wpAnyH_take (i := 7) (v := .int .i64 (ka : Int)) rfl (by kernel_rfl) (by kernel_rfl) (by kernel_rfl) (fun _ _ _ h => h) (ldV_if rfl 3 Tryz.isAgg3 (.tmp 29) rfl ⟨g3, 2, none⟩ rfl (fun w' h => HasC.cell (HasC.new A5.out h) rfl)) S0.out ?_
  simp only [List.getElem_toArray, List.getElem_cons_zero, List.getElem_cons_succ, Act.put, List.setIfInBounds_toArray, List.set_cons_zero, List.set_cons_succ]
  refine wpAnyH_take (i := 8) (v := .pointer (some ⟨k5, ka * 2, none⟩)) rfl (by kernel_rfl) (by kernel_rfl) (by kernel_rfl) (fun _ _ _ h => h) (ixV_if rfl _ (.tmp 28) (.tmp 30) rfl _ _ _ rfl rfl (ix_Rs k5 ka cap5 hka)) S0.out ?_
  simp only [List.getElem_toArray, List.getElem_cons_zero, List.getElem_cons_succ, Act.put, List.setIfInBounds_toArray, List.set_cons_zero, List.set_cons_succ]
  refine wpAnyH_take (i := 9) (v := .agg #[.int .i64 (refS (orN t ka)).1, .int .i64 (refS (orN t ka)).2]) rfl (by kernel_rfl) (by kernel_rfl) (by kernel_rfl) (fun _ _ _ h => h) (yieldsIf_load_mid (by rfl) _ _ rfl k5 (ka * 2) rfl (rcells (orN t ka)) _ (fun w' h => (R3.out.new h).range (fun _ => rfl) hka) Tryz.underlying167 rfl sizeR2) S0.out ?_
  simp only [List.getElem_toArray, List.getElem_cons_zero, List.getElem_cons_succ, Act.put, List.setIfInBounds_toArray, List.set_cons_zero, List.set_cons_succ]
  refine wpAnyH_new2 (i := 10) (j := 11) (o := .cells #[.int .i64 0, .int .i64 0] 167 (0, 0)) (di := 6) (dj := 7) (m := 2) rfl rfl rfl rfl rfl rfl (run_alO _ rfl _ zeroRs_run) (run_alO _ rfl _ zeroRs_run) (by kernel_rfl) (by decide) (by decide) (fun _ h => h.alloc _) S0.out ?_
  intro g6 g7 q1 q2 q3 q4 q5 hS
  simp only [Act.put, List.setIfInBounds_toArray, List.set_cons_zero, List.set_cons_succ]
  simp only [ptr]
  have d6 : HasRs ((w3.drew.alloc (.cells #[.int .i64 0, .int .i64 0] 167 (0, 0))).alloc (.cells #[.int .i64 0, .int .i64 0] 167 (0, 0))) g6 (0, 0) := two_al q1 q3
  have d7 : HasRs ((w3.drew.alloc (.cells #[.int .i64 0, .int .i64 0] 167 (0, 0))).alloc (.cells #[.int .i64 0, .int .i64 0] 167 (0, 0))) g7 (0, 0) := two_al q2 q4
  have hz : w3.drew.heap.size = w3.heap.size := rfl
  rw [hz] at q1 q2
  generalize (w3.drew.alloc (.cells #[.int .i64 0, .int .i64 0] 167 (0, 0))).alloc (.cells #[.int .i64 0, .int .i64 0] 167 (0, 0)) = wa at d6 d7 hS ⊢
  clear q3 q4 hz
  refine wpAnyH_forced [12, 13] _ _ _ hS (by kernel_rfl) (by simp) ?_
  simp only [List.map_cons, List.map_nil, Array.getD_eq_getD_getElem?, List.getElem?_toArray, List.getElem?_cons_succ, List.getElem?_cons_zero, Option.getD_some]
  refine wpLS_stC rfl rfl 167 (.tmp 6) (.tmp 27) rfl g6 rfl _ rfl d6 (rcells (orN t kd)) rfl rfl (rcells_one _) sizeR2 ?_
  intro wb b6 k6
  have nb := k6.below w3 q1 hS
  refine ⟨nb, ?_⟩
  refine wpLS_stC rfl rfl 167 (.tmp 7) (.tmp 32) rfl g7 rfl _ rfl (HasC.kept d7 k6 (Ne.symm q5)) (rcells (orN t ka)) rfl rfl (rcells_one _) sizeR2 ?_
  intro wc b7 k7
  have nc := k7.below w3 q2 nb
  refine ⟨nc, ?_⟩
  refine wpLS_nil ?_
  refine NoPanic.normal ?_
  have D6 : Hid (HasRs wc g6 (orN t kd)) := Lib.hid (HasC.kept b6 k7 q5)
  have D7 : Hid (HasRs wc g7 (orN t ka)) := Lib.hid b7
  have RC : Hid (RwE wc 167 k5 24 (fun i => rcells (orN t i))) := Lib.hid (R3.out.new nc)
  have AC : Hid (HasC wc g3 79 (cells6 ⟨o, (kd : Int), (ka : Int), b, n, u⟩)) := Lib.hid (HasC.new A5.out nc)
  have NC : Hid (New w wc) := Lib.hid (N3.out.trans nc)
  have d56 : k5 ≠ g6 := Nat.ne_of_lt (Nat.lt_of_lt_of_le R3.out.lt q1)
  have d57 : k5 ≠ g7 := Nat.ne_of_lt (Nat.lt_of_lt_of_le R3.out.lt q2)
  have ixd := ix_Rs k5 kd cap5 hkd
  have ixa := ix_Rs k5 ka cap5 hka
  have c0 := HasC.cell AC.out (k := 0) rfl
  have c1 := HasC.cell AC.out (k := 1) rfl
  have c2 := HasC.cell AC.out (k := 2) rfl
  have c4 := HasC.cell AC.out (k := 4) rfl
  clear d6 d7 hS b6 k6 b7 k7 nb nc S0 R3 A5 N3 q1 q2 q5
  go_wp2_with (first
    | (clear T5; refine wpList_stRs rfl rfl (.tmp 42) (.tmp 41) rfl k5 kd hkd rfl (1, n) rfl RC.out ?_; intro w8 r8 k8; have Rw8 := Lib.hid r8; have Nw8 := Lib.hid (k8.below w nk NC.out); have Aw8 : Hid (HasC w8 g3 79 (cells6 ⟨o, (kd : Int), (ka : Int), b, n, u⟩)) := Lib.hid (HasC.kept AC.out k8 dk); have E6w8 : Hid (HasRs w8 g6 (orN t kd)) := Lib.hid (HasC.kept D6.out k8 (Ne.symm d56)); have c0 := HasC.cell Aw8.out (k := 0) rfl; have c1 := HasC.cell Aw8.out (k := 1) rfl; have c2 := HasC.cell Aw8.out (k := 2) rfl; clear r8 k8))
  go_ret
  first | exact ⟨_, _, rfl, Rw8.out, Nw8.out, nk⟩ | exact ⟨_, ⟨_, rfl⟩, Rw8.out, Nw8.out, nk⟩
set_option maxHeartbeats 8000000 in
set_option maxRecDepth 100000 in
theorem refAfterK_mov (v : Value) (t : Tb) (o b n u : Int) (kd ka : Nat) (hkd : kd < 24) (hka : ka < 24) (h1 : (o == 1) = false) (h2 : (o == 2) = true) (h3 : (o == 3) = false) (hd : rightB (kd : Int) = true) (ha : rightB (ka : Int) = true) (w : World) (h : ElAt w v 24 (fun i => rcells (t i))) :
    Calls Tryz.prog 89 #[v, .agg #[.int .i64 o, .int .i64 (kd : Int), .int .i64 (ka : Int), .int .i64 b, .int .i64 n, .int .i64 u]] w fun e w' => ∃ k cap, e = .returned (.slice (some ⟨k, 0, none⟩) 24 cap) ∧ RwE w' 167 k 24 (fun i => rcells (aft t ⟨o, (kd : Int), (ka : Int), b, n, u⟩ i)) ∧ New w w' ∧ w.heap.size ≤ k := by
  have HV := Lib.hid h
  have HE : Hid (aft t ⟨o, (kd : Int), (ka : Int), b, n, u⟩ = upd (orN t) kd (orN t ka)) := Lib.hid (by
    unfold aft
    rw [if_pos ⟨hd, ha⟩]
    rw [if_neg (by simpa using h1), if_pos (by simpa using h2)]
    simp)
  rw [HE.out]
  clear h
  have T1 : Hid True := Lib.hid trivial
  have T2 : Hid True := Lib.hid trivial
  have T3 : Hid True := Lib.hid trivial
  have T4 : Hid True := Lib.hid trivial
  have T5 : Hid True := Lib.hid trivial
  have T6 : Hid True := Lib.hid trivial
  go_enter Tryz.func89, Tryz.ntmps89
  go_wp2_with (first
    | (clear T1; refine wpList_boxX rfl 79 (.tmp 1) rfl (cells6 ⟨o, (kd : Int), (ka : Int), b, n, u⟩) rfl ?_; intro w1 g3 hg3 hl3 H3 hn; have A3 : Hid (HasC w1 g3 79 (cells6 ⟨o, (kd : Int), (ka : Int), b, n, u⟩)) := Lib.hid H3; have N1 := Lib.hid hn; clear H3 hn)
    | (go_at_call 100; refine (refgood_any v t _ (HV.out.new (N1.out.trans (alloc_new _ _)))).mono ?_; rintro e w2 ⟨vg, rfl, hg, hn⟩; have HG := Lib.hid hg; have M2 := Lib.hid ((alloc_new _ _).trans hn); have HO := Lib.hid (owns_new (own_emptyE (w := w1) 167 2 w1.heap.size (Nat.le_refl _)) hn); clear hg hn)
    | (at_builtin; clear T2; refine wpList_appE2 rfl (.tmp 8) (.tmp 10) 65 167 rfl Tryz.underlying65 infoR2 rfl (by decide) w1.heap.size _ rfl HO.out vg rfl 24 (by decide) (by decide) (fun i => rcells (orN t i)) (fun _ => rfl) (fun i => rcells_one _) HG.out M2.out.size ?_; intro v5 w3 hw3 hn3; obtain ⟨k5, cap5, e5, hk5, hr5⟩ := OwnG.block hw3 (by decide); subst e5; have R3 := Lib.hid hr5; have M3 : Hid (New w1 w3) := Lib.hid (hn3 w1 (Nat.le_refl _) M2.out); have N3 : Hid (New w w3) := Lib.hid (N1.out.trans M3.out); have A5 : Hid (HasC w3 g3 79 (cells6 ⟨o, (kd : Int), (ka : Int), b, n, u⟩)) := Lib.hid (HasC.new A3.out M3.out); have dk : g3 ≠ k5 := (by omega); have nk : w.heap.size ≤ k5 := Nat.le_trans N1.out.size hk5; have c1 := HasC.cell A5.out (k := 1) rfl; have c2 := HasC.cell A5.out (k := 2) rfl; clear hw3 hn3 hr5 hk5 A3 HG HO M2 M3)
    | (clear T3; go_at_call 101; refine (placeR_any (kd : Int) _).mono ?_; rw [hd]; rintro e wq ⟨rfl, rfl⟩)
    | (clear T4; go_at_call 101; refine (placeR_any (ka : Int) _).mono ?_; rw [ha]; rintro e wq ⟨rfl, rfl⟩))
  have S0 : Hid (New w3 w3.drew) := Lib.hid ((New.refl w3).drew)
  refine wp_region_noPanic ?_
  refine wp_region_held_drew (S := fun w' => New w3 w') (by kernel_rfl) S0.out (fun _ => ?_)
  refine wpAnyH_take (i := 0) (v := .slice (some ⟨k5, 0, none⟩) 24 cap5) rfl (by kernel_rfl) (by kernel_rfl) (by kernel_rfl) (fun _ _ _ h => h) (Or.inl ⟨rfl, fun _ _ => by go_simp⟩) S0.out ?_
  simp only [List.getElem_toArray, List.getElem_cons_zero, Act.put, List.setIfInBounds_toArray, List.set_cons_zero, List.set_cons_succ]
  refine wpAnyH_take (i := 1) (v := .pointer (some ⟨g3, 1, none⟩)) rfl (by kernel_rfl) (by kernel_rfl) (by kernel_rfl) (fun _ _ _ h => h) (Or.inl ⟨rfl, fun _ _ => by go_simp⟩) S0.out ?_
  simp only [List.getElem_toArray, List.getElem_cons_zero, List.getElem_cons_succ, Act.put, List.setIfInBounds_toArray, List.set_cons_zero, List.set_cons_succ]
  refine wpAnyH_take (i := 2) (v := .int .i64 (kd : Int)) rfl (by kernel_rfl) (by kernel_rfl) (by kernel_rfl) (fun _ _ _ h => h) (ldV_if rfl 3 Tryz.isAgg3 (.tmp 24) rfl ⟨g3, 1, none⟩ rfl (fun w' h => HasC.cell (HasC.new A5.out h) rfl)) S0.out ?_
  simp only [List.getElem_toArray, List.getElem_cons_zero, List.getElem_cons_succ, Act.put, List.setIfInBounds_toArray, List.set_cons_zero, List.set_cons_succ]
  refine wpAnyH_take (i := 3) (v := .pointer (some ⟨k5, kd * 2, none⟩)) rfl (by kernel_rfl) (by kernel_rfl) (by kernel_rfl) (fun _ _ _ h => h) (ixV_if rfl _ (.tmp 23) (.tmp 25) rfl _ _ _ rfl rfl (ix_Rs k5 kd cap5 hkd)) S0.out ?_
  simp only [List.getElem_toArray, List.getElem_cons_zero, List.getElem_cons_succ, Act.put, List.setIfInBounds_toArray, List.set_cons_zero, List.set_cons_succ]
  refine wpAnyH_take (i := 4) (v := .agg #[.int .i64 (refS (orN t kd)).1, .int .i64 (refS (orN t kd)).2]) rfl (by kernel_rfl) (by kernel_rfl) (by kernel_rfl) (fun _ _ _ h => h) (yieldsIf_load_mid (by rfl) _ _ rfl k5 (kd * 2) rfl (rcells (orN t kd)) _ (fun w' h => (R3.out.new h).range (fun _ => rfl) hkd) Tryz.underlying167 rfl sizeR2) S0.out ?_
  simp only [List.getElem_toArray, List.getElem_cons_zero, List.getElem_cons_succ, Act.put, List.setIfInBounds_toArray, List.set_cons_zero, List.set_cons_succ]
  refine wpAnyH_take (i := 5) (v := .slice (some ⟨k5, 0, none⟩) 24 cap5) rfl (by kernel_rfl) (by kernel_rfl) (by kernel_rfl) (fun _ _ _ h => h) (Or.inl ⟨rfl, fun _ _ => by go_simp⟩) S0.out ?_
  simp only [List.getElem_toArray, List.getElem_cons_zero, List.getElem_cons_succ, Act.put, List.setIfInBounds_toArray, List.set_cons_zero, List.set_cons_succ]
  refine wpAnyH_take (i := 6) (v := .pointer (some ⟨g3, 2, none⟩)) rfl (by kernel_rfl) (by kernel_rfl) (by kernel_rfl) (fun _ _ _ h => h) (Or.inl ⟨rfl, fun _ _ => by go_simp⟩) S0.out ?_
  simp only [List.getElem_toArray, List.getElem_cons_zero, List.getElem_cons_succ, Act.put, List.setIfInBounds_toArray, List.set_cons_zero, List.set_cons_succ]
  refine wpAnyH_take (i := 7) (v := .int .i64 (ka : Int)) rfl (by kernel_rfl) (by kernel_rfl) (by kernel_rfl) (fun _ _ _ h => h) (ldV_if rfl 3 Tryz.isAgg3 (.tmp 29) rfl ⟨g3, 2, none⟩ rfl (fun w' h => HasC.cell (HasC.new A5.out h) rfl)) S0.out ?_
  simp only [List.getElem_toArray, List.getElem_cons_zero, List.getElem_cons_succ, Act.put, List.setIfInBounds_toArray, List.set_cons_zero, List.set_cons_succ]
  refine wpAnyH_take (i := 8) (v := .pointer (some ⟨k5, ka * 2, none⟩)) rfl (by kernel_rfl) (by kernel_rfl) (by kernel_rfl) (fun _ _ _ h => h) (ixV_if rfl _ (.tmp 28) (.tmp 30) rfl _ _ _ rfl rfl (ix_Rs k5 ka cap5 hka)) S0.out ?_
  simp only [List.getElem_toArray, List.getElem_cons_zero, List.getElem_cons_succ, Act.put, List.setIfInBounds_toArray, List.set_cons_zero, List.set_cons_succ]
  refine wpAnyH_take (i := 9) (v := .agg #[.int .i64 (refS (orN t ka)).1, .int .i64 (refS (orN t ka)).2]) rfl (by kernel_rfl) (by kernel_rfl) (by kernel_rfl) (fun _ _ _ h => h) (yieldsIf_load_mid (by rfl) _ _ rfl k5 (ka * 2) rfl (rcells (orN t ka)) _ (fun w' h => (R3.out.new h).range (fun _ => rfl) hka) Tryz.underlying167 rfl sizeR2) S0.out ?_
  simp only [List.getElem_toArray, List.getElem_cons_zero, List.getElem_cons_succ, Act.put, List.setIfInBounds_toArray, List.set_cons_zero, List.set_cons_succ]
  refine wpAnyH_new2 (i := 10) (j := 11) (o := .cells #[.int .i64 0, .int .i64 0] 167 (0, 0)) (di := 6) (dj := 7) (m := 2) rfl rfl rfl rfl rfl rfl (run_alO _ rfl _ zeroRs_run) (run_alO _ rfl _ zeroRs_run) (by kernel_rfl) (by decide) (by decide) (fun _ h => h.alloc _) S0.out ?_
  intro g6 g7 q1 q2 q3 q4 q5 hS
  simp only [Act.put, List.setIfInBounds_toArray, List.set_cons_zero, List.set_cons_succ]
  simp only [ptr]
  have d6 : HasRs ((w3.drew.alloc (.cells #[.int .i64 0, .int .i64 0] 167 (0, 0))).alloc (.cells #[.int .i64 0, .int .i64 0] 167 (0, 0))) g6 (0, 0) := two_al q1 q3
  have d7 : HasRs ((w3.drew.alloc (.cells #[.int .i64 0, .int .i64 0] 167 (0, 0))).alloc (.cells #[.int .i64 0, .int .i64 0] 167 (0, 0))) g7 (0, 0) := two_al q2 q4
  have hz : w3.drew.heap.size = w3.heap.size := rfl
  rw [hz] at q1 q2
  generalize (w3.drew.alloc (.cells #[.int .i64 0, .int .i64 0] 167 (0, 0))).alloc (.cells #[.int .i64 0, .int .i64 0] 167 (0, 0)) = wa at d6 d7 hS ⊢
  clear q3 q4 hz
  refine wpAnyH_forced [12, 13] _ _ _ hS (by kernel_rfl) (by simp) ?_
  simp only [List.map_cons, List.map_nil, Array.getD_eq_getD_getElem?, List.getElem?_toArray, List.getElem?_cons_succ, List.getElem?_cons_zero, Option.getD_some]
  refine wpLS_stC rfl rfl 167 (.tmp 6) (.tmp 27) rfl g6 rfl _ rfl d6 (rcells (orN t kd)) rfl rfl (rcells_one _) sizeR2 ?_
  intro wb b6 k6
  have nb := k6.below w3 q1 hS
  refine ⟨nb, ?_⟩
  refine wpLS_stC rfl rfl 167 (.tmp 7) (.tmp 32) rfl g7 rfl _ rfl (HasC.kept d7 k6 (Ne.symm q5)) (rcells (orN t ka)) rfl rfl (rcells_one _) sizeR2 ?_
  intro wc b7 k7
  have nc := k7.below w3 q2 nb
  refine ⟨nc, ?_⟩
  refine wpLS_nil ?_
  refine NoPanic.normal ?_
  have D6 : Hid (HasRs wc g6 (orN t kd)) := Lib.hid (HasC.kept b6 k7 q5)
  have D7 : Hid (HasRs wc g7 (orN t ka)) := Lib.hid b7
  have RC : Hid (RwE wc 167 k5 24 (fun i => rcells (orN t i))) := Lib.hid (R3.out.new nc)
  have AC : Hid (HasC wc g3 79 (cells6 ⟨o, (kd : Int), (ka : Int), b, n, u⟩)) := Lib.hid (HasC.new A5.out nc)
  have NC : Hid (New w wc) := Lib.hid (N3.out.trans nc)
  have d56 : k5 ≠ g6 := Nat.ne_of_lt (Nat.lt_of_lt_of_le R3.out.lt q1)
  have d57 : k5 ≠ g7 := Nat.ne_of_lt (Nat.lt_of_lt_of_le R3.out.lt q2)
  have ixd := ix_Rs k5 kd cap5 hkd
  have ixa := ix_Rs k5 ka cap5 hka
  have c0 := HasC.cell AC.out (k := 0) rfl
  have c1 := HasC.cell AC.out (k := 1) rfl
  have c2 := HasC.cell AC.out (k := 2) rfl
  have c4 := HasC.cell AC.out (k := 4) rfl
  clear d6 d7 hS b6 k6 b7 k7 nb nc S0 R3 A5 N3 q1 q2 q5
  go_wp2_with (first
    | (clear T5; refine wpList_load_mid rfl 167 (.tmp 7) rfl g7 0 rfl (rcells (orN t ka)) _ (HasC.all D7.out) Tryz.underlying167 rfl sizeR2 ?_)
    | (clear T6; refine wpList_stRs rfl rfl (.tmp 55) (.tmp 54) rfl k5 kd hkd rfl (orN t ka) rfl RC.out ?_; intro w8 r8 k8; have Rw8 := Lib.hid r8; have Nw8 := Lib.hid (k8.below w nk NC.out); have Aw8 : Hid (HasC w8 g3 79 (cells6 ⟨o, (kd : Int), (ka : Int), b, n, u⟩)) := Lib.hid (HasC.kept AC.out k8 dk); have E6w8 : Hid (HasRs w8 g6 (orN t kd)) := Lib.hid (HasC.kept D6.out k8 (Ne.symm d56)); have c0 := HasC.cell Aw8.out (k := 0) rfl; have c1 := HasC.cell Aw8.out (k := 1) rfl; have c2 := HasC.cell Aw8.out (k := 2) rfl; clear r8 k8))
  go_ret
  first | exact ⟨_, _, rfl, Rw8.out, Nw8.out, nk⟩ | exact ⟨_, ⟨_, rfl⟩, Rw8.out, Nw8.out, nk⟩
set_option maxHeartbeats 8000000 in
set_option maxRecDepth 100000 in
theorem refAfterK_swap (v : Value) (t : Tb) (o b n u : Int) (kd ka : Nat) (hkd : kd < 24) (hka : ka < 24) (h1 : (o == 1) = false) (h2 : (o == 2) = false) (h3 : (o == 3) = true) (hd : rightB (kd : Int) = true) (ha : rightB (ka : Int) = true) (w : World) (h : ElAt w v 24 (fun i => rcells (t i))) :
    Calls Tryz.prog 89 #[v, .agg #[.int .i64 o, .int .i64 (kd : Int), .int .i64 (ka : Int), .int .i64 b, .int .i64 n, .int .i64 u]] w fun e w' => ∃ k cap, e = .returned (.slice (some ⟨k, 0, none⟩) 24 cap) ∧ RwE w' 167 k 24 (fun i => rcells (aft t ⟨o, (kd : Int), (ka : Int), b, n, u⟩ i)) ∧ New w w' ∧ w.heap.size ≤ k := by
  have HV := Lib.hid h
  have HE : Hid (aft t ⟨o, (kd : Int), (ka : Int), b, n, u⟩ = upd (upd (orN t) kd (orN t ka)) ka (orN t kd)) := Lib.hid (by
    unfold aft
    rw [if_pos ⟨hd, ha⟩]
    rw [if_neg (by simpa using h1), if_neg (by simpa using h2), if_pos (by simpa using h3)]
    simp)
  rw [HE.out]
  clear h
  have T1 : Hid True := Lib.hid trivial
  have T2 : Hid True := Lib.hid trivial
  have T3 : Hid True := Lib.hid trivial
  have T4 : Hid True := Lib.hid trivial
  have T5 : Hid True := Lib.hid trivial
  have T6 : Hid True := Lib.hid trivial
  have T7 : Hid True := Lib.hid trivial
  have T8 : Hid True := Lib.hid trivial
  go_enter Tryz.func89, Tryz.ntmps89
  go_wp2_with (first
    | (clear T1; refine wpList_boxX rfl 79 (.tmp 1) rfl (cells6 ⟨o, (kd : Int), (ka : Int), b, n, u⟩) rfl ?_; intro w1 g3 hg3 hl3 H3 hn; have A3 : Hid (HasC w1 g3 79 (cells6 ⟨o, (kd : Int), (ka : Int), b, n, u⟩)) := Lib.hid H3; have N1 := Lib.hid hn; clear H3 hn)
    | (go_at_call 100; refine (refgood_any v t _ (HV.out.new (N1.out.trans (alloc_new _ _)))).mono ?_; rintro e w2 ⟨vg, rfl, hg, hn⟩; have HG := Lib.hid hg; have M2 := Lib.hid ((alloc_new _ _).trans hn); have HO := Lib.hid (owns_new (own_emptyE (w := w1) 167 2 w1.heap.size (Nat.le_refl _)) hn); clear hg hn)
    | (at_builtin; clear T2; refine wpList_appE2 rfl (.tmp 8) (.tmp 10) 65 167 rfl Tryz.underlying65 infoR2 rfl (by decide) w1.heap.size _ rfl HO.out vg rfl 24 (by decide) (by decide) (fun i => rcells (orN t i)) (fun _ => rfl) (fun i => rcells_one _) HG.out M2.out.size ?_; intro v5 w3 hw3 hn3; obtain ⟨k5, cap5, e5, hk5, hr5⟩ := OwnG.block hw3 (by decide); subst e5; have R3 := Lib.hid hr5; have M3 : Hid (New w1 w3) := Lib.hid (hn3 w1 (Nat.le_refl _) M2.out); have N3 : Hid (New w w3) := Lib.hid (N1.out.trans M3.out); have A5 : Hid (HasC w3 g3 79 (cells6 ⟨o, (kd : Int), (ka : Int), b, n, u⟩)) := Lib.hid (HasC.new A3.out M3.out); have dk : g3 ≠ k5 := (by omega); have nk : w.heap.size ≤ k5 := Nat.le_trans N1.out.size hk5; have c1 := HasC.cell A5.out (k := 1) rfl; have c2 := HasC.cell A5.out (k := 2) rfl; clear hw3 hn3 hr5 hk5 A3 HG HO M2 M3)
    | (clear T3; go_at_call 101; refine (placeR_any (kd : Int) _).mono ?_; rw [hd]; rintro e wq ⟨rfl, rfl⟩)
    | (clear T4; go_at_call 101; refine (placeR_any (ka : Int) _).mono ?_; rw [ha]; rintro e wq ⟨rfl, rfl⟩))
  have S0 : Hid (New w3 w3.drew) := Lib.hid ((New.refl w3).drew)
  refine wp_region_noPanic ?_
  refine wp_region_held_drew (S := fun w' => New w3 w') (by kernel_rfl) S0.out (fun _ => ?_)
  refine wpAnyH_take (i := 0) (v := .slice (some ⟨k5, 0, none⟩) 24 cap5) rfl (by kernel_rfl) (by kernel_rfl) (by kernel_rfl) (fun _ _ _ h => h) (Or.inl ⟨rfl, fun _ _ => by go_simp⟩) S0.out ?_
  simp only [List.getElem_toArray, List.getElem_cons_zero, Act.put, List.setIfInBounds_toArray, List.set_cons_zero, List.set_cons_succ]
  refine wpAnyH_take (i := 1) (v := .pointer (some ⟨g3, 1, none⟩)) rfl (by kernel_rfl) (by kernel_rfl) (by kernel_rfl) (fun _ _ _ h => h) (Or.inl ⟨rfl, fun _ _ => by go_simp⟩) S0.out ?_
  simp only [List.getElem_toArray, List.getElem_cons_zero, List.getElem_cons_succ, Act.put, List.setIfInBounds_toArray, List.set_cons_zero, List.set_cons_succ]
  refine wpAnyH_take (i := 2) (v := .int .i64 (kd : Int)) rfl (by kernel_rfl) (by kernel_rfl) (by kernel_rfl) (fun _ _ _ h => h) (ldV_if rfl 3 Tryz.isAgg3 (.tmp 24) rfl ⟨g3, 1, none⟩ rfl (fun w' h => HasC.cell (HasC.new A5.out h) rfl)) S0.out ?_
  simp only [List.getElem_toArray, List.getElem_cons_zero, List.getElem_cons_succ, Act.put, List.setIfInBounds_toArray, List.set_cons_zero, List.set_cons_succ]
  refine wpAnyH_take (i := 3) (v := .pointer (some ⟨k5, kd * 2, none⟩)) rfl (by kernel_rfl) (by kernel_rfl) (by kernel_rfl) (fun _ _ _ h => h) (ixV_if rfl _ (.tmp 23) (.tmp 25) rfl _ _ _ rfl rfl (ix_Rs k5 kd cap5 hkd)) S0.out ?_
  simp only [List.getElem_toArray, List.getElem_cons_zero, List.getElem_cons_succ, Act.put, List.setIfInBounds_toArray, List.set_cons_zero, List.set_cons_succ]
  refine wpAnyH_take (i := 4) (v := .agg #[.int .i64 (refS (orN t kd)).1, .int .i64 (refS (orN t kd)).2]) rfl (by kernel_rfl) (by kernel_rfl) (by kernel_rfl) (fun _ _ _ h => h) (yieldsIf_load_mid (by rfl) _ _ rfl k5 (kd * 2) rfl (rcells (orN t kd)) _ (fun w' h => (R3.out.new h).range (fun _ => rfl) hkd) Tryz.underlying167 rfl sizeR2) S0.out ?_
  simp only [List.getElem_toArray, List.getElem_cons_zero, List.getElem_cons_succ, Act.put, List.setIfInBounds_toArray, List.set_cons_zero, List.set_cons_succ]
  refine wpAnyH_take (i := 5) (v := .slice (some ⟨k5, 0, none⟩) 24 cap5) rfl (by kernel_rfl) (by kernel_rfl) (by kernel_rfl) (fun _ _ _ h => h) (Or.inl ⟨rfl, fun _ _ => by go_simp⟩) S0.out ?_
  simp only [List.getElem_toArray, List.getElem_cons_zero, List.getElem_cons_succ, Act.put, List.setIfInBounds_toArray, List.set_cons_zero, List.set_cons_succ]
  refine wpAnyH_take (i := 6) (v := .pointer (some ⟨g3, 2, none⟩)) rfl (by kernel_rfl) (by kernel_rfl) (by kernel_rfl) (fun _ _ _ h => h) (Or.inl ⟨rfl, fun _ _ => by go_simp⟩) S0.out ?_
  simp only [List.getElem_toArray, List.getElem_cons_zero, List.getElem_cons_succ, Act.put, List.setIfInBounds_toArray, List.set_cons_zero, List.set_cons_succ]
  refine wpAnyH_take (i := 7) (v := .int .i64 (ka : Int)) rfl (by kernel_rfl) (by kernel_rfl) (by kernel_rfl) (fun _ _ _ h => h) (ldV_if rfl 3 Tryz.isAgg3 (.tmp 29) rfl ⟨g3, 2, none⟩ rfl (fun w' h => HasC.cell (HasC.new A5.out h) rfl)) S0.out ?_
  simp only [List.getElem_toArray, List.getElem_cons_zero, List.getElem_cons_succ, Act.put, List.setIfInBounds_toArray, List.set_cons_zero, List.set_cons_succ]
  refine wpAnyH_take (i := 8) (v := .pointer (some ⟨k5, ka * 2, none⟩)) rfl (by kernel_rfl) (by kernel_rfl) (by kernel_rfl) (fun _ _ _ h => h) (ixV_if rfl _ (.tmp 28) (.tmp 30) rfl _ _ _ rfl rfl (ix_Rs k5 ka cap5 hka)) S0.out ?_
  simp only [List.getElem_toArray, List.getElem_cons_zero, List.getElem_cons_succ, Act.put, List.setIfInBounds_toArray, List.set_cons_zero, List.set_cons_succ]
  refine wpAnyH_take (i := 9) (v := .agg #[.int .i64 (refS (orN t ka)).1, .int .i64 (refS (orN t ka)).2]) rfl (by kernel_rfl) (by kernel_rfl) (by kernel_rfl) (fun _ _ _ h => h) (yieldsIf_load_mid (by rfl) _ _ rfl k5 (ka * 2) rfl (rcells (orN t ka)) _ (fun w' h => (R3.out.new h).range (fun _ => rfl) hka) Tryz.underlying167 rfl sizeR2) S0.out ?_
  simp only [List.getElem_toArray, List.getElem_cons_zero, List.getElem_cons_succ, Act.put, List.setIfInBounds_toArray, List.set_cons_zero, List.set_cons_succ]
  refine wpAnyH_new2 (i := 10) (j := 11) (o := .cells #[.int .i64 0, .int .i64 0] 167 (0, 0)) (di := 6) (dj := 7) (m := 2) rfl rfl rfl rfl rfl rfl (run_alO _ rfl _ zeroRs_run) (run_alO _ rfl _ zeroRs_run) (by kernel_rfl) (by decide) (by decide) (fun _ h => h.alloc _) S0.out ?_
  intro g6 g7 q1 q2 q3 q4 q5 hS
  simp only [Act.put, List.setIfInBounds_toArray, List.set_cons_zero, List.set_cons_succ]
  simp only [ptr]
  have d6 : HasRs ((w3.drew.alloc (.cells #[.int .i64 0, .int .i64 0] 167 (0, 0))).alloc (.cells #[.int .i64 0, .int .i64 0] 167 (0, 0))) g6 (0, 0) := two_al q1 q3
  have d7 : HasRs ((w3.drew.alloc (.cells #[.int .i64 0, .int .i64 0] 167 (0, 0))).alloc (.cells #[.int .i64 0, .int .i64 0] 167 (0, 0))) g7 (0, 0) := two_al q2 q4
  have hz : w3.drew.heap.size = w3.heap.size := rfl
  rw [hz] at q1 q2
  generalize (w3.drew.alloc (.cells #[.int .i64 0, .int .i64 0] 167 (0, 0))).alloc (.cells #[.int .i64 0, .int .i64 0] 167 (0, 0)) = wa at d6 d7 hS ⊢
  clear q3 q4 hz
  refine wpAnyH_forced [12, 13] _ _ _ hS (by kernel_rfl) (by simp) ?_
  simp only [List.map_cons, List.map_nil, Array.getD_eq_getD_getElem?, List.getElem?_toArray, List.getElem?_cons_succ, List.getElem?_cons_zero, Option.getD_some]
  refine wpLS_stC rfl rfl 167 (.tmp 6) (.tmp 27) rfl g6 rfl _ rfl d6 (rcells (orN t kd)) rfl rfl (rcells_one _) sizeR2 ?_
  intro wb b6 k6
  have nb := k6.below w3 q1 hS
  refine ⟨nb, ?_⟩
  refine wpLS_stC rfl rfl 167 (.tmp 7) (.tmp 32) rfl g7 rfl _ rfl (HasC.kept d7 k6 (Ne.symm q5)) (rcells (orN t ka)) rfl rfl (rcells_one _) sizeR2 ?_
  intro wc b7 k7
  have nc := k7.below w3 q2 nb
  refine ⟨nc, ?_⟩
  refine wpLS_nil ?_
  refine NoPanic.normal ?_
  have D6 : Hid (HasRs wc g6 (orN t kd)) := Lib.hid (HasC.kept b6 k7 q5)
  have D7 : Hid (HasRs wc g7 (orN t ka)) := Lib.hid b7
  have RC : Hid (RwE wc 167 k5 24 (fun i => rcells (orN t i))) := Lib.hid (R3.out.new nc)
  have AC : Hid (HasC wc g3 79 (cells6 ⟨o, (kd : Int), (ka : Int), b, n, u⟩)) := Lib.hid (HasC.new A5.out nc)
  have NC : Hid (New w wc) := Lib.hid (N3.out.trans nc)
  have d56 : k5 ≠ g6 := Nat.ne_of_lt (Nat.lt_of_lt_of_le R3.out.lt q1)
  have d57 : k5 ≠ g7 := Nat.ne_of_lt (Nat.lt_of_lt_of_le R3.out.lt q2)
  have ixd := ix_Rs k5 kd cap5 hkd
  have ixa := ix_Rs k5 ka cap5 hka
  have c0 := HasC.cell AC.out (k := 0) rfl
  have c1 := HasC.cell AC.out (k := 1) rfl
  have c2 := HasC.cell AC.out (k := 2) rfl
  have c4 := HasC.cell AC.out (k := 4) rfl
  clear d6 d7 hS b6 k6 b7 k7 nb nc S0 R3 A5 N3 q1 q2 q5
  go_wp2_with (first
    | (clear T5; refine wpList_load_mid rfl 167 (.tmp 7) rfl g7 0 rfl (rcells (orN t ka)) _ (HasC.all D7.out) Tryz.underlying167 rfl sizeR2 ?_)
    | (clear T6; refine wpList_stRs rfl rfl (.tmp 55) (.tmp 54) rfl k5 kd hkd rfl (orN t ka) rfl RC.out ?_; intro w8 r8 k8; have Rw8 := Lib.hid r8; have Nw8 := Lib.hid (k8.below w nk NC.out); have Aw8 : Hid (HasC w8 g3 79 (cells6 ⟨o, (kd : Int), (ka : Int), b, n, u⟩)) := Lib.hid (HasC.kept AC.out k8 dk); have E6w8 : Hid (HasRs w8 g6 (orN t kd)) := Lib.hid (HasC.kept D6.out k8 (Ne.symm d56)); have c0 := HasC.cell Aw8.out (k := 0) rfl; have c1 := HasC.cell Aw8.out (k := 1) rfl; have c2 := HasC.cell Aw8.out (k := 2) rfl; clear r8 k8)
    | (clear T7; refine wpList_load_mid rfl 167 (.tmp 6) rfl g6 0 rfl (rcells (orN t kd)) _ (HasC.all E6w8.out) Tryz.underlying167 rfl sizeR2 ?_)
    | (clear T8; refine wpList_stRs rfl rfl (.tmp 63) (.tmp 62) rfl k5 ka hka rfl (orN t kd) rfl Rw8.out ?_; intro w9 r8 k8; have Rw9 := Lib.hid r8; have Nw9 := Lib.hid (k8.below w nk Nw8.out); have Aw9 : Hid (HasC w9 g3 79 (cells6 ⟨o, (kd : Int), (ka : Int), b, n, u⟩)) := Lib.hid (HasC.kept Aw8.out k8 dk); have E6w9 : Hid (HasRs w9 g6 (orN t kd)) := Lib.hid (HasC.kept E6w8.out k8 (Ne.symm d56)); have c0 := HasC.cell Aw9.out (k := 0) rfl; have c1 := HasC.cell Aw9.out (k := 1) rfl; have c2 := HasC.cell Aw9.out (k := 2) rfl; clear r8 k8))
  go_ret
  first | exact ⟨_, _, rfl, Rw9.out, Nw9.out, nk⟩ | exact ⟨_, ⟨_, rfl⟩, Rw9.out, Nw9.out, nk⟩
set_option maxHeartbeats 8000000 in
set_option maxRecDepth 100000 in
theorem refAfterK_other (v : Value) (t : Tb) (o b n u : Int) (kd ka : Nat) (hkd : kd < 24) (hka : ka < 24) (h1 : (o == 1) = false) (h2 : (o == 2) = false) (h3 : (o == 3) = false) (hd : rightB (kd : Int) = true) (ha : rightB (ka : Int) = true) (w : World) (h : ElAt w v 24 (fun i => rcells (t i))) :
    Calls Tryz.prog 89 #[v, .agg #[.int .i64 o, .int .i64 (kd : Int), .int .i64 (ka : Int), .int .i64 b, .int .i64 n, .int .i64 u]] w fun e w' => ∃ k cap, e = .returned (.slice (some ⟨k, 0, none⟩) 24 cap) ∧ RwE w' 167 k 24 (fun i => rcells (aft t ⟨o, (kd : Int), (ka : Int), b, n, u⟩ i)) ∧ New w w' ∧ w.heap.size ≤ k := by
  have HV := Lib.hid h
  have HE : Hid (aft t ⟨o, (kd : Int), (ka : Int), b, n, u⟩ = orN t) := Lib.hid (by
    unfold aft
    rw [if_pos ⟨hd, ha⟩]
    rw [if_neg (by simpa using h1), if_neg (by simpa using h2), if_neg (by simpa using h3)])
  rw [HE.out]
  clear h
  have T1 : Hid True := Lib.hid trivial
  have T2 : Hid True := Lib.hid trivial
  have T3 : Hid True := Lib.hid trivial
  have T4 : Hid True := Lib.hid trivial
  go_enter Tryz.func89, Tryz.ntmps89
  go_wp2_with (first
    | (clear T1; refine wpList_boxX rfl 79 (.tmp 1) rfl (cells6 ⟨o, (kd : Int), (ka : Int), b, n, u⟩) rfl ?_; intro w1 g3 hg3 hl3 H3 hn; have A3 : Hid (HasC w1 g3 79 (cells6 ⟨o, (kd : Int), (ka : Int), b, n, u⟩)) := Lib.hid H3; have N1 := Lib.hid hn; clear H3 hn)
    | (go_at_call 100; refine (refgood_any v t _ (HV.out.new (N1.out.trans (alloc_new _ _)))).mono ?_; rintro e w2 ⟨vg, rfl, hg, hn⟩; have HG := Lib.hid hg; have M2 := Lib.hid ((alloc_new _ _).trans hn); have HO := Lib.hid (owns_new (own_emptyE (w := w1) 167 2 w1.heap.size (Nat.le_refl _)) hn); clear hg hn)
    | (at_builtin; clear T2; refine wpList_appE2 rfl (.tmp 8) (.tmp 10) 65 167 rfl Tryz.underlying65 infoR2 rfl (by decide) w1.heap.size _ rfl HO.out vg rfl 24 (by decide) (by decide) (fun i => rcells (orN t i)) (fun _ => rfl) (fun i => rcells_one _) HG.out M2.out.size ?_; intro v5 w3 hw3 hn3; obtain ⟨k5, cap5, e5, hk5, hr5⟩ := OwnG.block hw3 (by decide); subst e5; have R3 := Lib.hid hr5; have M3 : Hid (New w1 w3) := Lib.hid (hn3 w1 (Nat.le_refl _) M2.out); have N3 : Hid (New w w3) := Lib.hid (N1.out.trans M3.out); have A5 : Hid (HasC w3 g3 79 (cells6 ⟨o, (kd : Int), (ka : Int), b, n, u⟩)) := Lib.hid (HasC.new A3.out M3.out); have dk : g3 ≠ k5 := (by omega); have nk : w.heap.size ≤ k5 := Nat.le_trans N1.out.size hk5; have c1 := HasC.cell A5.out (k := 1) rfl; have c2 := HasC.cell A5.out (k := 2) rfl; clear hw3 hn3 hr5 hk5 A3 HG HO M2 M3)
    | (clear T3; go_at_call 101; refine (placeR_any (kd : Int) _).mono ?_; rw [hd]; rintro e wq ⟨rfl, rfl⟩)
    | (clear T4; go_at_call 101; refine (placeR_any (ka : Int) _).mono ?_; rw [ha]; rintro e wq ⟨rfl, rfl⟩))
  have S0 : Hid (New w3 w3.drew) := Lib.hid ((New.refl w3).drew)
  refine wp_region_noPanic ?_
  refine wp_region_held_drew (S := fun w' => New w3 w') (by kernel_rfl) S0.out (fun _ => ?_)
  refine wpAnyH_take (i := 0) (v := .slice (some ⟨k5, 0, none⟩) 24 cap5) rfl (by kernel_rfl) (by kernel_rfl) (by kernel_rfl) (fun _ _ _ h => h) (Or.inl ⟨rfl, fun _ _ => by go_simp⟩) S0.out ?_
  simp only [List.getElem_toArray, List.getElem_cons_zero, Act.put, List.setIfInBounds_toArray, List.set_cons_zero, List.set_cons_succ]
  refine wpAnyH_take (i := 1) (v := .pointer (some ⟨g3, 1, none⟩)) rfl (by kernel_rfl) (by kernel_rfl) (by kernel_rfl) (fun _ _ _ h => h) (Or.inl ⟨rfl, fun _ _ => by go_simp⟩) S0.out ?_
  simp only [List.getElem_toArray, List.getElem_cons_zero, List.getElem_cons_succ, Act.put, List.setIfInBounds_toArray, List.set_cons_zero, List.set_cons_succ]
  refine wpAnyH_take (i := 2) (v := .int .i64 (kd : Int)) rfl (by kernel_rfl) (by kernel_rfl) (by kernel_rfl) (fun _ _ _ h => h) (ldV_if rfl 3 Tryz.isAgg3 (.tmp 24) rfl ⟨g3, 1, none⟩ rfl (fun w' h => HasC.cell (HasC.new A5.out h) rfl)) S0.out ?_
  simp only [List.getElem_toArray, List.getElem_cons_zero, List.getElem_cons_succ, Act.put, List.setIfInBounds_toArray, List.set_cons_zero, List.set_cons_succ]
  refine wpAnyH_take (i := 3) (v := .pointer (some ⟨k5, kd * 2, none⟩)) rfl (by kernel_rfl) (by kernel_rfl) (by kernel_rfl) (fun _ _ _ h => h) (ixV_if rfl _ (.tmp 23) (.tmp 25) rfl _ _ _ rfl rfl (ix_Rs k5 kd cap5 hkd)) S0.out ?_
  simp only [List.getElem_toArray, List.getElem_cons_zero, List.getElem_cons_succ, Act.put, List.setIfInBounds_toArray, List.set_cons_zero, List.set_cons_succ]
  refine wpAnyH_take (i := 4) (v := .agg #[.int .i64 (refS (orN t kd)).1, .int .i64 (refS (orN t kd)).2]) rfl (by kernel_rfl) (by kernel_rfl) (by kernel_rfl) (fun _ _ _ h => h) (yieldsIf_load_mid (by rfl) _ _ rfl k5 (kd * 2) rfl (rcells (orN t kd)) _ (fun w' h => (R3.out.new h).range (fun _ => rfl) hkd) Tryz.underlying167 rfl sizeR2) S0.out ?_
  simp only [List.getElem_toArray, List.getElem_cons_zero, List.getElem_cons_succ, Act.put, List.setIfInBounds_toArray, List.set_cons_zero, List.set_cons_succ]
  refine wpAnyH_take (i := 5) (v := .slice (some ⟨k5, 0, none⟩) 24 cap5) rfl (by kernel_rfl) (by kernel_rfl) (by kernel_rfl) (fun _ _ _ h => h) (Or.inl ⟨rfl, fun _ _ => by go_simp⟩) S0.out ?_
  simp only [List.getElem_toArray, List.getElem_cons_zero, List.getElem_cons_succ, Act.put, List.setIfInBounds_toArray, List.set_cons_zero, List.set_cons_succ]
  refine wpAnyH_take (i := 6) (v := .pointer (some ⟨g3, 2, none⟩)) rfl (by kernel_rfl) (by kernel_rfl) (by kernel_rfl) (fun _ _ _ h => h) (Or.inl ⟨rfl, fun _ _ => by go_simp⟩) S0.out ?_
  simp only [List.getElem_toArray, List.getElem_cons_zero, List.getElem_cons_succ, Act.put, List.setIfInBounds_toArray, List.set_cons_zero, List.set_cons_succ]
  refine wpAnyH_take (i := 7) (v := .int .i64 (ka : Int)) rfl (by kernel_rfl) (by kernel_rfl) (by kernel_rfl) (fun _ _ _ h => h) (ldV_if rfl 3 Tryz.isAgg3 (.tmp 29) rfl ⟨g3, 2, none⟩ rfl (fun w' h => HasC.cell (HasC.new A5.out h) rfl)) S0.out ?_
  simp only [List.getElem_toArray, List.getElem_cons_zero, List.getElem_cons_succ, Act.put, List.setIfInBounds_toArray, List.set_cons_zero, List.set_cons_succ]
  refine wpAnyH_take (i := 8) (v := .pointer (some ⟨k5, ka * 2, none⟩)) rfl (by kernel_rfl) (by kernel_rfl) (by kernel_rfl) (fun _ _ _ h => h) (ixV_if rfl _ (.tmp 28) (.tmp 30) rfl _ _ _ rfl rfl (ix_Rs k5 ka cap5 hka)) S0.out ?_
  simp only [List.getElem_toArray, List.getElem_cons_zero, List.getElem_cons_succ, Act.put, List.setIfInBounds_toArray, List.set_cons_zero, List.set_cons_succ]
  refine wpAnyH_take (i := 9) (v := .agg #[.int .i64 (refS (orN t ka)).1, .int .i64 (refS (orN t ka)).2]) rfl (by kernel_rfl) (by kernel_rfl) (by kernel_rfl) (fun _ _ _ h => h) (yieldsIf_load_mid (by rfl) _ _ rfl k5 (ka * 2) rfl (rcells (orN t ka)) _ (fun w' h => (R3.out.new h).range (fun _ => rfl) hka) Tryz.underlying167 rfl sizeR2) S0.out ?_
  simp only [List.getElem_toArray, List.getElem_cons_zero, List.getElem_cons_succ, Act.put, List.setIfInBounds_toArray, List.set_cons_zero, List.set_cons_succ]
  refine wpAnyH_new2 (i := 10) (j := 11) (o := .cells #[.int .i64 0, .int .i64 0] 167 (0, 0)) (di := 6) (dj := 7) (m := 2) rfl rfl rfl rfl rfl rfl (run_alO _ rfl _ zeroRs_run) (run_alO _ rfl _ zeroRs_run) (by kernel_rfl) (by decide) (by decide) (fun _ h => h.alloc _) S0.out ?_
  intro g6 g7 q1 q2 q3 q4 q5 hS
  simp only [Act.put, List.setIfInBounds_toArray, List.set_cons_zero, List.set_cons_succ]
  simp only [ptr]
  have d6 : HasRs ((w3.drew.alloc (.cells #[.int .i64 0, .int .i64 0] 167 (0, 0))).alloc (.cells #[.int .i64 0, .int .i64 0] 167 (0, 0))) g6 (0, 0) := two_al q1 q3
  have d7 : HasRs ((w3.drew.alloc (.cells #[.int .i64 0, .int .i64 0] 167 (0, 0))).alloc (.cells #[.int .i64 0, .int .i64 0] 167 (0, 0))) g7 (0, 0) := two_al q2 q4
  have hz : w3.drew.heap.size = w3.heap.size := rfl
  rw [hz] at q1 q2
  generalize (w3.drew.alloc (.cells #[.int .i64 0, .int .i64 0] 167 (0, 0))).alloc (.cells #[.int .i64 0, .int .i64 0] 167 (0, 0)) = wa at d6 d7 hS ⊢
  clear q3 q4 hz
  refine wpAnyH_forced [12, 13] _ _ _ hS (by kernel_rfl) (by simp) ?_
  simp only [List.map_cons, List.map_nil, Array.getD_eq_getD_getElem?, List.getElem?_toArray, List.getElem?_cons_succ, List.getElem?_cons_zero, Option.getD_some]
  refine wpLS_stC rfl rfl 167 (.tmp 6) (.tmp 27) rfl g6 rfl _ rfl d6 (rcells (orN t kd)) rfl rfl (rcells_one _) sizeR2 ?_
  intro wb b6 k6
  have nb := k6.below w3 q1 hS
  refine ⟨nb, ?_⟩
  refine wpLS_stC rfl rfl 167 (.tmp 7) (.tmp 32) rfl g7 rfl _ rfl (HasC.kept d7 k6 (Ne.symm q5)) (rcells (orN t ka)) rfl rfl (rcells_one _) sizeR2 ?_
  intro wc b7 k7
  have nc := k7.below w3 q2 nb
  refine ⟨nc, ?_⟩
  refine wpLS_nil ?_
  refine NoPanic.normal ?_
  have D6 : Hid (HasRs wc g6 (orN t kd)) := Lib.hid (HasC.kept b6 k7 q5)
  have D7 : Hid (HasRs wc g7 (orN t ka)) := Lib.hid b7
  have RC : Hid (RwE wc 167 k5 24 (fun i => rcells (orN t i))) := Lib.hid (R3.out.new nc)
  have AC : Hid (HasC wc g3 79 (cells6 ⟨o, (kd : Int), (ka : Int), b, n, u⟩)) := Lib.hid (HasC.new A5.out nc)
  have NC : Hid (New w wc) := Lib.hid (N3.out.trans nc)
  have d56 : k5 ≠ g6 := Nat.ne_of_lt (Nat.lt_of_lt_of_le R3.out.lt q1)
  have d57 : k5 ≠ g7 := Nat.ne_of_lt (Nat.lt_of_lt_of_le R3.out.lt q2)
  have ixd := ix_Rs k5 kd cap5 hkd
  have ixa := ix_Rs k5 ka cap5 hka
  have c0 := HasC.cell AC.out (k := 0) rfl
  have c1 := HasC.cell AC.out (k := 1) rfl
  have c2 := HasC.cell AC.out (k := 2) rfl
  have c4 := HasC.cell AC.out (k := 4) rfl
  clear d6 d7 hS b6 k6 b7 k7 nb nc S0 R3 A5 N3 q1 q2 q5
  go_wp2
  go_ret
  first | exact ⟨_, _, rfl, RC.out, NC.out, nk⟩ | exact ⟨_, ⟨_, rfl⟩, RC.out, NC.out, nk⟩
theorem nat_right {l : Int} (h : rightB l = true) : ∃ k : Nat, l = (k : Int) ∧ k < 24 := ⟨l.toNat, by have := right_lt h; omega, (right_lt h).1⟩
/-- The reference's After, of every table and instruction. -/
theorem refAfterK_any (v : Value) (t : Tb) (x : I) (w : World) (h : ElAt w v 24 (fun i => rcells (t i))) :
    Calls Tryz.prog 89 #[v, .agg #[.int .i64 (x).op, .int .i64 (x).d, .int .i64 (x).a, .int .i64 (x).b, .int .i64 (x).n, .int .i64 (x).t]] w fun e w' => ∃ k cap, e = .returned (.slice (some ⟨k, 0, none⟩) 24 cap) ∧ RwE w' 167 k 24 (fun i => rcells (aft t x i)) ∧ New w w' ∧ w.heap.size ≤ k := by
  by_cases hr : rightB x.d = true ∧ rightB x.a = true
  · obtain ⟨o, d, a, b, n, u⟩ := x
    obtain ⟨hd, ha⟩ := hr
    obtain ⟨kd, rfl, hkd⟩ := nat_right hd
    obtain ⟨ka, rfl, hka⟩ := nat_right ha
    by_cases h1 : o = 1
    · exact refAfterK_const v t o b n u kd ka hkd hka (beq_of h1) (bneq_of (by omega)) (bneq_of (by omega)) hd ha w h
    · by_cases h2 : o = 2
      · exact refAfterK_mov v t o b n u kd ka hkd hka (bneq_of h1) (beq_of h2) (bneq_of (by omega)) hd ha w h
      · by_cases h3 : o = 3
        · exact refAfterK_swap v t o b n u kd ka hkd hka (bneq_of h1) (bneq_of h2) (beq_of h3) hd ha w h
        · exact refAfterK_other v t o b n u kd ka hkd hka (bneq_of h1) (bneq_of h2) (bneq_of h3) hd ha w h
  · have e : aft t x = orN t := by
      unfold aft
      rw [if_neg hr]
    rw [e]
    cases hd : rightB x.d with
    | false => exact refAfterK_out1 v t x hd w h
    | true =>
      cases ha : rightB x.a with
      | false => exact refAfterK_out2 v t x hd ha w h
      | true => exact absurd ⟨hd, ha⟩ hr
theorem refAfter_any (v : Value) (t : Tb) (x : I) (w : World) (h : ElAt w v 24 (fun i => rcells (t i))) :
    Calls Tryz.prog 89 #[v, .agg #[.int .i64 (x).op, .int .i64 (x).d, .int .i64 (x).a, .int .i64 (x).b, .int .i64 (x).n, .int .i64 (x).t]] w fun e w' => ∃ v', e = .returned v' ∧ ElAt w' v' 24 (fun i => rcells (aft t x i)) ∧ New w w' ∧ FarE w.heap.size 24 v' :=
  (refAfterK_any v t x w h).mono fun _ _ ⟨k, cap, h1, h2, h3, h4⟩ => ⟨_, h1, h2.el (fun _ => rfl) cap, h3, k, cap, rfl, h4⟩
end Go.Proofs.YtlmnodbhfpgplaaGreatDoor
