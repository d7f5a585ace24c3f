/-
  'EnvTwice': to swap twice is nothing; to move or set again is as once: true, for every input.
-/
import Derived.Test.YthdbehalbcoibaaEnvLawA
namespace Go.Proofs.Ythdbehalbcoibaa
open Go.RowKit

theorem aft_twice_swap {t : Tb} (ht : goodT t = true) (d a : Int) : ∀ i < 24, aft (aft t ⟨3, d, a, 0, 0, 0⟩) ⟨3, d, a, 0, 0, 0⟩ i = t i := by
  intro i _
  have g1 := good_aft t ⟨3, d, a, 0, 0, 0⟩
  have e1 : aft (aft t ⟨3, d, a, 0, 0, 0⟩) ⟨3, d, a, 0, 0, 0⟩ = if rightB d = true ∧ rightB a = true then upd (upd (aft t ⟨3, d, a, 0, 0, 0⟩) d.toNat (aft t ⟨3, d, a, 0, 0, 0⟩ a.toNat)) a.toNat (aft t ⟨3, d, a, 0, 0, 0⟩ d.toNat) else aft t ⟨3, d, a, 0, 0, 0⟩ := by
    rw [aft, orN_good g1]; simp
  have e2 : aft t ⟨3, d, a, 0, 0, 0⟩ = if rightB d = true ∧ rightB a = true then upd (upd t d.toNat (t a.toNat)) a.toNat (t d.toNat) else t := by
    rw [aft, orN_good ht]; simp
  rw [e1]
  by_cases h : rightB d = true ∧ rightB a = true
  · rw [if_pos h, e2, if_pos h]
    unfold upd
    by_cases ha : i = a.toNat
    · subst ha
      simp
      intro hh; rw [hh]
    · by_cases hd : i = d.toNat
      · subst hd
        simp [ha]
      · simp [ha, hd]
  · rw [if_neg h, e2, if_neg h]
theorem aft_twice_mov {t : Tb} (ht : goodT t = true) (d a : Int) : ∀ i < 24, aft (aft t ⟨2, d, a, 0, 0, 0⟩) ⟨2, d, a, 0, 0, 0⟩ i = aft t ⟨2, d, a, 0, 0, 0⟩ i := by
  intro i _
  have g1 := good_aft t ⟨2, d, a, 0, 0, 0⟩
  have e1 : aft (aft t ⟨2, d, a, 0, 0, 0⟩) ⟨2, d, a, 0, 0, 0⟩ = if rightB d = true ∧ rightB a = true then upd (aft t ⟨2, d, a, 0, 0, 0⟩) d.toNat (aft t ⟨2, d, a, 0, 0, 0⟩ a.toNat) else aft t ⟨2, d, a, 0, 0, 0⟩ := by
    rw [aft, orN_good g1]; simp
  have e2 : aft t ⟨2, d, a, 0, 0, 0⟩ = if rightB d = true ∧ rightB a = true then upd t d.toNat (t a.toNat) else t := by
    rw [aft, orN_good ht]; simp
  rw [e1]
  by_cases h : rightB d = true ∧ rightB a = true
  · rw [if_pos h, e2, if_pos h]
    unfold upd
    by_cases hd : i = d.toNat
    · subst hd
      simp
    · simp [hd]
  · rw [if_neg h]
theorem aft_twice_const {t : Tb} (ht : goodT t = true) (d n : Int) : ∀ i < 24, aft (aft t ⟨1, d, 0, 0, n, 0⟩) ⟨1, d, 0, 0, n, 0⟩ i = aft t ⟨1, d, 0, 0, n, 0⟩ i := by
  intro i _
  have g1 := good_aft t ⟨1, d, 0, 0, n, 0⟩
  have e1 : aft (aft t ⟨1, d, 0, 0, n, 0⟩) ⟨1, d, 0, 0, n, 0⟩ = if rightB d = true ∧ rightB 0 = true then upd (aft t ⟨1, d, 0, 0, n, 0⟩) d.toNat (1, n) else aft t ⟨1, d, 0, 0, n, 0⟩ := by
    rw [aft, orN_good g1]; simp
  have e2 : aft t ⟨1, d, 0, 0, n, 0⟩ = if rightB d = true ∧ rightB 0 = true then upd t d.toNat (1, n) else t := by
    rw [aft, orN_good ht]; simp
  rw [e1]
  by_cases h : rightB d = true ∧ rightB 0 = true
  · rw [if_pos h, e2, if_pos h]
    unfold upd
    by_cases hd : i = d.toNat
    · subst hd
      simp
    · simp [hd]
  · rw [if_neg h]
theorem after_from {w0 : World} (t : Tb) (x : I) (w : World) (h : New w0 w) :
    Calls Try.prog 16 #[.agg (cellsT t), .agg #[.int .i64 (x).op, .int .i64 (x).d, .int .i64 (x).a, .int .i64 (x).b, .int .i64 (x).n, .int .i64 (x).t]] w fun e w' => e = .returned (.agg (cellsT (aft t x))) ∧ New w0 w' :=
  (after_any t x w).mono fun _ _ ⟨he, hw⟩ => ⟨he, h.trans hw⟩
set_option maxHeartbeats 4000000 in
set_option maxRecDepth 100000 in
theorem envTwice_in (ks ns : List Int) (v1 v2 : Value) (d a n : Int) (w : World) (h1 : RowAt w v1 (ks.map (.int .u8))) (h2 : RowAt w v2 (ns.map (.int .i64))) :
    Calls Try.prog 5 #[v1, v2, .int .i64 d, .int .i64 a, .int .i64 n] w fun e w' => e = .returned (.bool true) ∧ New w w' := by
  have HK := Lib.hid h1
  have HM := Lib.hid h2
  have HN := Lib.hid (New.refl w)
  have HT0 : Hid (goodT (thn newT (ofT ks ns)) = true) := Lib.hid (good_thn _ _)
  clear h1 h2
  go_enter Try.func5, Try.ntmps5
  go_wp2_with (first
    | (go_at_call 15; refine (envNew_any _).mono ?_; rintro e w1 ⟨rfl, hn⟩; replace HN := Lib.hid (HN.out.trans hn); clear hn)
    | (go_at_call 7; refine (of_any ks ns _ _ _ (HK.out.new HN.out) (HM.out.new HN.out)).mono ?_; rintro e w2 ⟨rfl, hn⟩; replace HN := Lib.hid (HN.out.trans hn); clear hn)
    | (go_at_call 17; refine (then_any newT (ofT ks ns) _).mono ?_; rintro e w3 ⟨rfl, hn⟩; replace HN := Lib.hid (HN.out.trans hn); clear hn; generalize thn newT (ofT ks ns) = T at HT0 ⊢)
    | (refine wpList_alT (op := { dst := some 11, op := _, type := _, pos := _, after := _, guard := _ }) rfl rfl ?_; intro wa g1 q1 q2 hz hn; have HT := Lib.hid hz; have r1 : w.heap.size ≤ g1 := Nat.le_trans HN.out.size q1; replace HN := Lib.hid (HN.out.trans hn); clear hz hn q1 q2)
    | (refine wpList_stTk rfl rfl (.tmp 11) (.tmp 19) rfl g1 rfl T rfl HT.out ?_; intro wb hu hk; replace HT := Lib.hid hu; replace HN := Lib.hid (hk.below _ r1 HN.out); clear hu hk)
    | (refine wpList_alI (op := { dst := some 12, op := _, type := _, pos := _, after := _, guard := _ }) rfl rfl ?_; intro wa g2 q1 q2 hz hn; have HS := Lib.hid hz; have r2 : g1 < g2 := Nat.lt_of_lt_of_le (heap_lt HT.out) q1; replace HT := Lib.hid (HT.out.new hn); replace HN := Lib.hid (HN.out.trans hn); clear hz hn q1 q2)
    | (refine wpList_stIk rfl rfl (.tmp 12) (.tmp 22) rfl g2 rfl ⟨3, d, a, 0, 0, 0⟩ rfl HS.out ?_; intro wb hu hk; replace HS := Lib.hid hu; replace HT := Lib.hid (hk.T HT.out (by omega)); replace HN := Lib.hid (hk.below _ (by omega) HN.out); clear hu hk)
    | (refine wpList_alI (op := { dst := some 13, op := _, type := _, pos := _, after := _, guard := _ }) rfl rfl ?_; intro wa g3 q1 q2 hz hn; have HR := Lib.hid hz; have r3 : g2 < g3 := Nat.lt_of_lt_of_le (heap_lt HS.out) q1; replace HS := Lib.hid (HS.out.new hn); replace HT := Lib.hid (HT.out.new hn); replace HN := Lib.hid (HN.out.trans hn); clear hz hn q1 q2)
    | (refine wpList_stIk rfl rfl (.tmp 13) (.tmp 25) rfl g3 rfl ⟨2, d, a, 0, 0, 0⟩ rfl HR.out ?_; intro wb hu hk; replace HR := Lib.hid hu; replace HS := Lib.hid (hk.I HS.out (by omega)); replace HT := Lib.hid (hk.T HT.out (by omega)); replace HN := Lib.hid (hk.below _ (by omega) HN.out); clear hu hk)
    | (refine wpList_alI (op := { dst := some 14, op := _, type := _, pos := _, after := _, guard := _ }) rfl rfl ?_; intro wa g4 q1 q2 hz hn; have HC := Lib.hid hz; have r4 : g3 < g4 := Nat.lt_of_lt_of_le (heap_lt HR.out) q1; replace HR := Lib.hid (HR.out.new hn); replace HS := Lib.hid (HS.out.new hn); replace HT := Lib.hid (HT.out.new hn); replace HN := Lib.hid (HN.out.trans hn); clear hz hn q1 q2)
    | (refine wpList_stIk rfl rfl (.tmp 14) (.tmp 28) rfl g4 rfl ⟨1, d, 0, 0, n, 0⟩ rfl HC.out ?_; intro wx hu hk; replace HC := Lib.hid hu; replace HR := Lib.hid (hk.I HR.out (by omega)); replace HS := Lib.hid (hk.I HS.out (by omega)); replace HT := Lib.hid (hk.T HT.out (by omega)); replace HN := Lib.hid (hk.below _ (by omega) HN.out); clear hu hk))
  have hne := newW_any wx
  refine wp_region_new (New.refl wx) (by kernel_rfl) (by kernel_rfl) ?_
  have ct : ∀ w', (∃ y : NewW wx, w' = y.val) → HasT w' g1 T := by rintro w' ⟨y, rfl⟩; exact HT.out.new y.property
  have cs : ∀ w', (∃ y : NewW wx, w' = y.val) → Has w' g2 ⟨3, d, a, 0, 0, 0⟩ := by rintro w' ⟨y, rfl⟩; exact HS.out.new y.property
  have cm : ∀ w', (∃ y : NewW wx, w' = y.val) → Has w' g3 ⟨2, d, a, 0, 0, 0⟩ := by rintro w' ⟨y, rfl⟩; exact HR.out.new y.property
  have cc : ∀ w', (∃ y : NewW wx, w' = y.val) → Has w' g4 ⟨1, d, 0, 0, n, 0⟩ := by rintro w' ⟨y, rfl⟩; exact HC.out.new y.property
  have CT := Lib.hid ct
  have CS := Lib.hid cs
  have CM := Lib.hid cm
  have CC := Lib.hid cc
  clear ct cs cm cc
  have e1 : ∀ w, (binOp .eql 28 (.agg (cellsT (aft (aft T ⟨3, d, a, 0, 0, 0⟩) ⟨3, d, a, 0, 0, 0⟩))) (.agg (cellsT T))).run Try.prog w = .ok (.bool true) w := fun w => by rw [eql_T (good_aft _ _) HT0.out, eqT_iff.mpr (aft_twice_swap HT0.out d a)]
  have e2 : ∀ w, (binOp .eql 28 (.agg (cellsT (aft (aft T ⟨2, d, a, 0, 0, 0⟩) ⟨2, d, a, 0, 0, 0⟩))) (.agg (cellsT (aft T ⟨2, d, a, 0, 0, 0⟩)))).run Try.prog w = .ok (.bool true) w := fun w => by rw [eql_T (good_aft _ _) (good_aft _ _), eqT_iff.mpr (aft_twice_mov HT0.out d a)]
  have e3 : ∀ w, (binOp .eql 28 (.agg (cellsT (aft (aft T ⟨1, d, 0, 0, n, 0⟩) ⟨1, d, 0, 0, n, 0⟩))) (.agg (cellsT (aft T ⟨1, d, 0, 0, n, 0⟩)))).run Try.prog w = .ok (.bool true) w := fun w => by rw [eql_T (good_aft _ _) (good_aft _ _), eqT_iff.mpr (aft_twice_const HT0.out d n)]
  have f1 : ∀ x y w, (eqGuard .eql 28 x y (.agg (cellsT (aft (aft T ⟨3, d, a, 0, 0, 0⟩) ⟨3, d, a, 0, 0, 0⟩))) (.agg (cellsT T))).run Try.prog w = .ok () w := fun x y w => guard_T (good_aft _ _) HT0.out _ x y w
  have f2 : ∀ x y w, (eqGuard .eql 28 x y (.agg (cellsT (aft (aft T ⟨2, d, a, 0, 0, 0⟩) ⟨2, d, a, 0, 0, 0⟩))) (.agg (cellsT (aft T ⟨2, d, a, 0, 0, 0⟩)))).run Try.prog w = .ok () w := fun x y w => guard_T (good_aft _ _) (good_aft _ _) _ x y w
  have f3 : ∀ x y w, (eqGuard .eql 28 x y (.agg (cellsT (aft (aft T ⟨1, d, 0, 0, n, 0⟩) ⟨1, d, 0, 0, n, 0⟩))) (.agg (cellsT (aft T ⟨1, d, 0, 0, n, 0⟩)))).run Try.prog w = .ok () w := fun x y w => guard_T (good_aft _ _) (good_aft _ _) _ x y w
  clear HT HS HR HC HK HM r1 r2 r3 r4
  repeat (first
    | (refine wpQuiet_ldTG rfl (.tmp 11) rfl g1 rfl CT.out ?_; simp only [Act.put, List.setIfInBounds_toArray, List.set_cons_zero, List.set_cons_succ])
    | (refine wpQuiet_ldIG rfl (.tmp 12) rfl g2 rfl CS.out ?_; simp only [Act.put, List.setIfInBounds_toArray, List.set_cons_zero, List.set_cons_succ])
    | (refine wpQuiet_ldIG rfl (.tmp 13) rfl g3 rfl CM.out ?_; simp only [Act.put, List.setIfInBounds_toArray, List.set_cons_zero, List.set_cons_succ])
    | (refine wpQuiet_ldIG rfl (.tmp 14) rfl g4 rfl CC.out ?_; simp only [Act.put, List.setIfInBounds_toArray, List.set_cons_zero, List.set_cons_succ])
    | go_big_quiet_step (first | (go_at_call 16; exact quiet_new (after_from _ ⟨_, _, _, _, _, _⟩ _ (Subtype.property _))) | (go_at_call 14; exact quiet_new (knows_from _ (Subtype.property _)))))
  refine wpQuiet_nil ?_
  intro w5 hn5
  go_wp2
  go_ret
  exact ⟨rfl, HN.out.trans hn5⟩
theorem envTwice_law (v1 : Value) (ks : List Int) (v2 : Value) (ns : List Int) (d a n : Int) (w : World) (h1 : RowAt w v1 (ks.map (.int .u8))) (h2 : RowAt w v2 (ns.map (.int .i64))) (_hd : In64 d) (_ha : In64 a) (_hn : In64 n) :
    Calls Try.prog 5 #[v1, v2, .int .i64 d, .int .i64 a, .int .i64 n] w fun e w' => e = .returned (.bool true) ∧ New w w' := envTwice_in ks ns v1 v2 d a n w h1 h2
end Go.Proofs.Ythdbehalbcoibaa
