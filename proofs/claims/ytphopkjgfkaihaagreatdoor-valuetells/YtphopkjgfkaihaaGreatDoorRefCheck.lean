/-
  The reference's word on which instructions are right, as a plain function; it is the same. No program stands in this text.
  The reference's place, reg and only (joineryref03).
  The reference's Check of instructions (joineryref03): the same word, for every instruction and every number.
  The reference's Check (joineryref03), at every instruction and every number: what ins.Check tells.
-/
import Derived.Test.YtphopkjgfkaihaaGreatDoorPlain
import Derived.Test.YtphopkjgfkaihaaGreatDoorInsAll
import Derived.Deep.Light
namespace Go.Proofs.YtphopkjgfkaihaaGreatDoor
open Go.RowKit

/-- The fields of the shape alone. -/
def onlyV (x : I) : I := putAll (valsOf (letters x.op) x) (zeroI x.op)
theorem only_same {x : I} (h : knownB x.op = true) : spareB x = false ↔ onlyV x = x := by
  constructor
  · intro hs; exact put_vals h hs
  · intro he
    have := (put_shape h (vals_map (letters x.op) x)).2
    rw [show putAll (valsOf (letters x.op) x) (zeroI x.op) = x from he] at this
    exact this
/-- What the reference tells of an instruction whose other fields are 0. -/
def refV (x : I) (m : Int) : Int :=
  if x.op = 15 ∧ (x.n < 0 ∨ 99 < x.n) then 1
  else if x.op ≤ 3 then (if (0 ≤ x.d ∧ x.d < 24) ∧ (0 ≤ x.a ∧ x.a < 24) then 0 else 6)
  else if ((0 ≤ x.d ∧ x.d < 8) ∧ (0 ≤ x.a ∧ x.a < 8)) ∧ (0 ≤ x.b ∧ x.b < 8) then (if (x.op = 16 ∨ x.op = 17) ∧ (x.t < 0 ∨ m ≤ x.t) then 4 else 0)
  else 6
theorem f24 {c v m : Int} (h : c = 100 ∨ c = 97) : (faultV c v m = 1 ↔ False) ∧ (faultV c v m = 6 ↔ ¬ (0 ≤ v ∧ v < 24)) ∧ (faultV c v m = 4 ↔ False) := by
  unfold faultV
  rw [if_pos h]
  split <;> simp_all
theorem f8 {c v m : Int} (h : c = 68 ∨ c = 65 ∨ c = 66) : (faultV c v m = 1 ↔ False) ∧ (faultV c v m = 6 ↔ ¬ (0 ≤ v ∧ v < 8)) ∧ (faultV c v m = 4 ↔ False) := by
  unfold faultV
  rw [if_neg (by omega), if_pos h]
  split <;> simp_all
theorem fN {v m : Int} : (faultV 78 v m = 1 ↔ (v < 0 ∨ 99 < v)) ∧ (faultV 78 v m = 6 ↔ False) ∧ (faultV 78 v m = 4 ↔ False) := by
  unfold faultV
  rw [if_neg (by decide), if_neg (by decide), if_pos rfl]
  split <;> simp_all
theorem fT {v m : Int} : (faultV 84 v m = 1 ↔ False) ∧ (faultV 84 v m = 6 ↔ False) ∧ (faultV 84 v m = 4 ↔ (v < 0 ∨ m ≤ v)) := by
  unfold faultV
  rw [if_neg (by decide), if_neg (by decide), if_neg (by decide), if_pos rfl]
  split <;> simp_all
theorem fn {v m : Int} : (faultV 110 v m = 1 ↔ False) ∧ (faultV 110 v m = 6 ↔ False) ∧ (faultV 110 v m = 4 ↔ False) := by
  unfold faultV
  rw [if_neg (by decide), if_neg (by decide), if_neg (by decide), if_neg (by decide)]
  simp
theorem hit_iff {L : List Int} {x : I} {m e : Int} : hitB L x m e = true ↔ ∃ c ∈ L, faultV c (fieldV x c) m = e := by
  unfold hitB
  rw [List.any_eq_true]
  simp
theorem regs_letters : ∀ k < 13, 4 ≤ k → letters (k : Nat) = [68, 65, 66] := by decide +kernel
theorem eq_six {x y : I} : x = y ↔ x.op = y.op ∧ x.d = y.d ∧ x.a = y.a ∧ x.b = y.b ∧ x.n = y.n ∧ x.t = y.t := by
  rw [← same_iff]
  unfold sameB
  rw [decide_eq_true_iff]
/-- The three sorts of faults, by the operation. -/
theorem hits {x : I} {m : Int} (h : knownB x.op = true) (hs : onlyV x = x) :
    (hitB (letters x.op) x m 1 = true ↔ (x.op = 15 ∧ (x.n < 0 ∨ 99 < x.n))) ∧
    (hitB (letters x.op) x m 6 = true ↔ ((x.op ≤ 3 ∧ ¬ ((0 ≤ x.d ∧ x.d < 24) ∧ (0 ≤ x.a ∧ x.a < 24))) ∨ (3 < x.op ∧ ¬ (((0 ≤ x.d ∧ x.d < 8) ∧ (0 ≤ x.a ∧ x.a < 8)) ∧ (0 ≤ x.b ∧ x.b < 8))))) ∧
    (hitB (letters x.op) x m 4 = true ↔ ((x.op = 16 ∨ x.op = 17) ∧ (x.t < 0 ∨ m ≤ x.t))) := by
  have hk := known_iff.mp h
  obtain ⟨o, d, a, b, n, t⟩ := x
  simp only at hk h hs ⊢
  rw [hit_iff, hit_iff, hit_iff]
  have hs := eq_six.mp hs
  have g100 := fun v => f24 (c := 100) (v := v) (m := m) (by omega)
  have g97 := fun v => f24 (c := 97) (v := v) (m := m) (by omega)
  have g68 := fun v => f8 (c := 68) (v := v) (m := m) (by omega)
  have g65 := fun v => f8 (c := 65) (v := v) (m := m) (by omega)
  have g66 := fun v => f8 (c := 66) (v := v) (m := m) (by omega)
  have gN := fun v => fN (v := v) (m := m)
  have gT := fun v => fT (v := v) (m := m)
  have gn := fun v => fn (v := v) (m := m)
  have hcase : o = 1 ∨ (o = 2 ∨ o = 3) ∨ (4 ≤ o ∧ o ≤ 12) ∨ o = 13 ∨ o = 14 ∨ o = 15 ∨ o = 16 ∨ o = 17 ∨ o = 18 := by omega
  have hL : (o = 1 ∧ letters o = [100, 110]) ∨ ((o = 2 ∨ o = 3) ∧ letters o = [100, 97]) ∨ ((4 ≤ o ∧ o ≤ 12) ∧ letters o = [68, 65, 66]) ∨ (o = 13 ∧ letters o = [68, 65]) ∨ (o = 14 ∧ letters o = [65, 66]) ∨ (o = 15 ∧ letters o = [68, 65, 78]) ∨ (o = 16 ∧ letters o = [84]) ∨ (o = 17 ∧ letters o = [65, 84]) ∨ (o = 18 ∧ letters o = [65]) := by
    rcases hcase with rfl | (rfl | rfl) | ho | rfl | rfl | rfl | rfl | rfl | rfl
    · exact .inl ⟨rfl, by decide +kernel⟩
    · exact .inr (.inl ⟨.inl rfl, by decide +kernel⟩)
    · exact .inr (.inl ⟨.inr rfl, by decide +kernel⟩)
    · refine .inr (.inr (.inl ⟨ho, ?_⟩))
      have := regs_letters o.toNat (by omega) (by omega)
      rw [show ((o.toNat : Nat) : Int) = o from by omega] at this
      exact this
    · exact .inr (.inr (.inr (.inl ⟨rfl, by decide +kernel⟩)))
    · exact .inr (.inr (.inr (.inr (.inl ⟨rfl, by decide +kernel⟩))))
    · exact .inr (.inr (.inr (.inr (.inr (.inl ⟨rfl, by decide +kernel⟩)))))
    · exact .inr (.inr (.inr (.inr (.inr (.inr (.inl ⟨rfl, by decide +kernel⟩))))))
    · exact .inr (.inr (.inr (.inr (.inr (.inr (.inr (.inl ⟨rfl, by decide +kernel⟩)))))))
    · exact .inr (.inr (.inr (.inr (.inr (.inr (.inr (.inr ⟨rfl, by decide +kernel⟩)))))))
  clear hcase
  rcases hL with ⟨ho, e⟩ | ⟨ho, e⟩ | ⟨ho, e⟩ | ⟨ho, e⟩ | ⟨ho, e⟩ | ⟨ho, e⟩ | ⟨ho, e⟩ | ⟨ho, e⟩ | ⟨ho, e⟩
  all_goals
    simp only [onlyV, e, valsOf, putAll, List.map_cons, List.map_nil, List.foldl_cons, List.foldl_nil, zeroI] at hs
    simp [withV, fieldV] at hs
    rw [e]
    simp only [List.mem_cons, List.not_mem_nil, or_false, exists_eq_or_imp, exists_eq_left, g100, g97, g68, g65, g66, gN, gT, gn]
    simp only [fieldV]
    simp
    refine ⟨?_, ?_, ?_⟩ <;> omega
/-- They say the same. -/
theorem chk_refV {x : I} {m : Int} (h : knownB x.op = true) (hs : onlyV x = x) : chkV x m = refV x m := by
  obtain ⟨h1, h6, h4⟩ := hits (m := m) h hs
  unfold chkV
  rw [if_neg (by rw [h]; decide), if_neg (by rw [(only_same h).mpr hs]; decide)]
  simp only [h1, h6, h4]
  unfold refV
  repeat' split
  all_goals omega
theorem chk_spare {x : I} {m : Int} (h : knownB x.op = true) (hs : ¬ onlyV x = x) : chkV x m = 1 := by
  unfold chkV
  rw [if_neg (by rw [h]; decide), if_pos]
  cases e : spareB x with
  | true => rfl
  | false => exact absurd ((only_same h).mp e) hs
theorem chk_unknown {x : I} {m : Int} (h : knownB x.op = false) : chkV x m = 1 := by unfold chkV; rw [if_pos h]
end Go.Proofs.YtphopkjgfkaihaaGreatDoor
namespace Go.Proofs.YtphopkjgfkaihaaGreatDoor
open Go.RowKit

theorem rplace_any (l : Int) (w : World) :
    Calls Tryz.prog 85 #[.int .i64 l] w fun e w' => e = .returned (.bool (rightB l)) ∧ w' = w := by
  go_enter Tryz.func85, Tryz.ntmps85
  go_wp2
  all_goals
    go_ret
    refine ⟨?_, rfl⟩
    first | (simp_all [rightB]; done) | (simp_all [rightB]; omega)
theorem rreg_any (l : Int) (w : World) :
    Calls Tryz.prog 86 #[.int .i64 l] w fun e w' => e = .returned (.bool (regB l)) ∧ w' = w := by
  go_enter Tryz.func86, Tryz.ntmps86
  go_wp2
  all_goals
    go_ret
    refine ⟨?_, rfl⟩
    first | (simp_all [regB]; done) | (simp_all [regB]; omega)

set_option maxHeartbeats 4000000 in
set_option maxRecDepth 100000 in
theorem only_lit (o d a b n t : Int) (ho : o = 1 ∨ o = 2 ∨ o = 3 ∨ o = 4 ∨ o = 5 ∨ o = 6 ∨ o = 7 ∨ o = 8 ∨ o = 9 ∨ o = 10 ∨ o = 11 ∨ o = 12 ∨ o = 13 ∨ o = 14 ∨ o = 15 ∨ o = 16 ∨ o = 17 ∨ o = 18) (w : World) :
    Calls Tryz.prog 84 #[.agg #[.int .i64 o, .int .i64 d, .int .i64 a, .int .i64 b, .int .i64 n, .int .i64 t]] w fun e w' => e = .returned (.agg #[.int .i64 (onlyV ⟨o, d, a, b, n, t⟩).op, .int .i64 (onlyV ⟨o, d, a, b, n, t⟩).d, .int .i64 (onlyV ⟨o, d, a, b, n, t⟩).a, .int .i64 (onlyV ⟨o, d, a, b, n, t⟩).b, .int .i64 (onlyV ⟨o, d, a, b, n, t⟩).n, .int .i64 (onlyV ⟨o, d, a, b, n, t⟩).t]) ∧ New w w' := by
  rcases ho with rfl | rfl | rfl | rfl | rfl | rfl | rfl | rfl | rfl | rfl | rfl | rfl | rfl | rfl | rfl | rfl | rfl | rfl
  all_goals
    go_enter Tryz.func84, Tryz.ntmps84
    go_wp2
    refine bodyPost_ret (by simp [results, Tryz.results84, go_sem]; rfl) rfl ⟨?_, ((alloc_new _ _).alloc _).alloc _⟩
    kernel_rfl
theorem only_from {w0 : World} (o d a b n t : Int) (h : knownB o = true) (w : World) (hn : New w0 w) :
    Calls Tryz.prog 84 #[.agg #[.int .i64 o, .int .i64 d, .int .i64 a, .int .i64 b, .int .i64 n, .int .i64 t]] w fun e w' => e = .returned (.agg #[.int .i64 (onlyV ⟨o, d, a, b, n, t⟩).op, .int .i64 (onlyV ⟨o, d, a, b, n, t⟩).d, .int .i64 (onlyV ⟨o, d, a, b, n, t⟩).a, .int .i64 (onlyV ⟨o, d, a, b, n, t⟩).b, .int .i64 (onlyV ⟨o, d, a, b, n, t⟩).n, .int .i64 (onlyV ⟨o, d, a, b, n, t⟩).t]) ∧ New w0 w' := by
  have hk := known_iff.mp h
  exact (only_lit o d a b n t (by omega) w).mono fun _ _ ⟨he, hw⟩ => ⟨he, hn.trans hw⟩
end Go.Proofs.YtphopkjgfkaihaaGreatDoor
namespace Go.Proofs.YtphopkjgfkaihaaGreatDoor
open Go.RowKit

/-- The cells of an instruction that lies in a block of 'a', in every later world. -/
theorem cells_all {a : World} {g : Nat} {x : I} (h : Has a g x) :
    (∀ y : NewW a, y.val.cell? ⟨g, 0, none⟩ = some (.int .i64 x.op)) ∧ (∀ y : NewW a, y.val.cell? ⟨g, 1, none⟩ = some (.int .i64 x.d)) ∧ (∀ y : NewW a, y.val.cell? ⟨g, 2, none⟩ = some (.int .i64 x.a)) ∧
    (∀ y : NewW a, y.val.cell? ⟨g, 3, none⟩ = some (.int .i64 x.b)) ∧ (∀ y : NewW a, y.val.cell? ⟨g, 4, none⟩ = some (.int .i64 x.n)) ∧ (∀ y : NewW a, y.val.cell? ⟨g, 5, none⟩ = some (.int .i64 x.t)) := by
  refine ⟨fun y => ?_, fun y => ?_, fun y => ?_, fun y => ?_, fun y => ?_, fun y => ?_⟩ <;> exact cell_of_row y.val g _ _ _ _ (h.new y.property)

set_option maxHeartbeats 2000000 in
set_option maxRecDepth 100000 in
theorem rchk_low (o d a b n t m : Int) (h1 : o < 1) (w : World) :
    Calls Tryz.prog 55 #[.agg #[.int .i64 o, .int .i64 d, .int .i64 a, .int .i64 b, .int .i64 n, .int .i64 t], .int .i64 m] w fun e w' => e = .returned (.int .i64 1) ∧ New w w' := by
  obtain ⟨q0, q1, q2, q3, q4, q5⟩ := cells_all (Has.box w ⟨o, d, a, b, n, t⟩)
  dsimp only at q0 q1 q2 q3 q4 q5
  go_enter Tryz.func55, Tryz.ntmps55
  go_wp2_with fail
  have hne := newW_any (w.alloc (.cells #[.int .i64 o, .int .i64 d, .int .i64 a, .int .i64 b, .int .i64 n, .int .i64 t] 79))
  refine wp_region_new (w0 := w.alloc (.cells #[.int .i64 o, .int .i64 d, .int .i64 a, .int .i64 b, .int .i64 n, .int .i64 t] 79)) (New.refl _) (by kernel_rfl) (by kernel_rfl) ?_
  repeat (go_big_quiet_step (fail))
  refine wpQuiet_nil ?_
  intro w2 h2
  clear q0 q1 q2 q3 q4 q5
  go_wp2
  go_ret
  exact ⟨rfl, (alloc_new _ _).trans h2⟩
set_option maxHeartbeats 2000000 in
set_option maxRecDepth 100000 in
theorem rchk_high (o d a b n t m : Int) (h1 : decide (o < 1) = false) (h2' : 18 < o) (w : World) :
    Calls Tryz.prog 55 #[.agg #[.int .i64 o, .int .i64 d, .int .i64 a, .int .i64 b, .int .i64 n, .int .i64 t], .int .i64 m] w fun e w' => e = .returned (.int .i64 1) ∧ New w w' := by
  obtain ⟨q0, q1, q2, q3, q4, q5⟩ := cells_all (Has.box w ⟨o, d, a, b, n, t⟩)
  dsimp only at q0 q1 q2 q3 q4 q5
  go_enter Tryz.func55, Tryz.ntmps55
  go_wp2_with fail
  have hne := newW_any (w.alloc (.cells #[.int .i64 o, .int .i64 d, .int .i64 a, .int .i64 b, .int .i64 n, .int .i64 t] 79))
  refine wp_region_new (w0 := w.alloc (.cells #[.int .i64 o, .int .i64 d, .int .i64 a, .int .i64 b, .int .i64 n, .int .i64 t] 79)) (New.refl _) (by kernel_rfl) (by kernel_rfl) ?_
  repeat (go_big_quiet_step (fail))
  refine wpQuiet_nil ?_
  intro w2 h2
  clear q0 q1 q2 q3 q4 q5
  go_wp2
  go_ret
  exact ⟨rfl, (alloc_new _ _).trans h2⟩
set_option maxHeartbeats 2000000 in
set_option maxRecDepth 100000 in
theorem rchk_diff_d (o d a b n t m d1 a1 b1 n1 t1 : Int) (k1 : decide (o < 1) = false) (k2 : decide (18 < o) = false) (e1 : ¬ d1 = d) (w : World)
    (H : Hid (∀ w', New (w.alloc (.cells #[.int .i64 o, .int .i64 d, .int .i64 a, .int .i64 b, .int .i64 n, .int .i64 t] 79)) w' → Calls Tryz.prog 84 #[.agg #[.int .i64 o, .int .i64 d, .int .i64 a, .int .i64 b, .int .i64 n, .int .i64 t]] w' fun e w'' => e = .returned (.agg #[.int .i64 o, .int .i64 d1, .int .i64 a1, .int .i64 b1, .int .i64 n1, .int .i64 t1]) ∧ New (w.alloc (.cells #[.int .i64 o, .int .i64 d, .int .i64 a, .int .i64 b, .int .i64 n, .int .i64 t] 79)) w'')) :
    Calls Tryz.prog 55 #[.agg #[.int .i64 o, .int .i64 d, .int .i64 a, .int .i64 b, .int .i64 n, .int .i64 t], .int .i64 m] w fun e w' => e = .returned (.int .i64 1) ∧ New w w' := by
  have e2 := bneq_of e1
  obtain ⟨q0, q1, q2, q3, q4, q5⟩ := cells_all (Has.box w ⟨o, d, a, b, n, t⟩)
  dsimp only at q0 q1 q2 q3 q4 q5
  go_enter Tryz.func55, Tryz.ntmps55
  go_wp2_with fail
  have hne := newW_any (w.alloc (.cells #[.int .i64 o, .int .i64 d, .int .i64 a, .int .i64 b, .int .i64 n, .int .i64 t] 79))
  refine wp_region_new (w0 := w.alloc (.cells #[.int .i64 o, .int .i64 d, .int .i64 a, .int .i64 b, .int .i64 n, .int .i64 t] 79)) (New.refl _) (by kernel_rfl) (by kernel_rfl) ?_
  repeat (go_big_quiet_step (first | (go_at_call 84; exact quiet_new (H.out _ (Subtype.property _)))))
  refine wpQuiet_nil ?_
  intro w2 h2
  clear q0 q1 q2 q3 q4 q5
  go_wp2
  go_ret
  exact ⟨rfl, (alloc_new _ _).trans h2⟩
set_option maxHeartbeats 2000000 in
set_option maxRecDepth 100000 in
theorem rchk_diff_a (o d a b n t m a1 b1 n1 t1 : Int) (k1 : decide (o < 1) = false) (k2 : decide (18 < o) = false) (e1 : ¬ a1 = a) (w : World)
    (H : Hid (∀ w', New (w.alloc (.cells #[.int .i64 o, .int .i64 d, .int .i64 a, .int .i64 b, .int .i64 n, .int .i64 t] 79)) w' → Calls Tryz.prog 84 #[.agg #[.int .i64 o, .int .i64 d, .int .i64 a, .int .i64 b, .int .i64 n, .int .i64 t]] w' fun e w'' => e = .returned (.agg #[.int .i64 o, .int .i64 d, .int .i64 a1, .int .i64 b1, .int .i64 n1, .int .i64 t1]) ∧ New (w.alloc (.cells #[.int .i64 o, .int .i64 d, .int .i64 a, .int .i64 b, .int .i64 n, .int .i64 t] 79)) w'')) :
    Calls Tryz.prog 55 #[.agg #[.int .i64 o, .int .i64 d, .int .i64 a, .int .i64 b, .int .i64 n, .int .i64 t], .int .i64 m] w fun e w' => e = .returned (.int .i64 1) ∧ New w w' := by
  have e2 := bneq_of e1
  obtain ⟨q0, q1, q2, q3, q4, q5⟩ := cells_all (Has.box w ⟨o, d, a, b, n, t⟩)
  dsimp only at q0 q1 q2 q3 q4 q5
  go_enter Tryz.func55, Tryz.ntmps55
  go_wp2_with fail
  have hne := newW_any (w.alloc (.cells #[.int .i64 o, .int .i64 d, .int .i64 a, .int .i64 b, .int .i64 n, .int .i64 t] 79))
  refine wp_region_new (w0 := w.alloc (.cells #[.int .i64 o, .int .i64 d, .int .i64 a, .int .i64 b, .int .i64 n, .int .i64 t] 79)) (New.refl _) (by kernel_rfl) (by kernel_rfl) ?_
  repeat (go_big_quiet_step (first | (go_at_call 84; exact quiet_new (H.out _ (Subtype.property _)))))
  refine wpQuiet_nil ?_
  intro w2 h2
  clear q0 q1 q2 q3 q4 q5
  go_wp2
  go_ret
  exact ⟨rfl, (alloc_new _ _).trans h2⟩
set_option maxHeartbeats 2000000 in
set_option maxRecDepth 100000 in
theorem rchk_diff_b (o d a b n t m b1 n1 t1 : Int) (k1 : decide (o < 1) = false) (k2 : decide (18 < o) = false) (e1 : ¬ b1 = b) (w : World)
    (H : Hid (∀ w', New (w.alloc (.cells #[.int .i64 o, .int .i64 d, .int .i64 a, .int .i64 b, .int .i64 n, .int .i64 t] 79)) w' → Calls Tryz.prog 84 #[.agg #[.int .i64 o, .int .i64 d, .int .i64 a, .int .i64 b, .int .i64 n, .int .i64 t]] w' fun e w'' => e = .returned (.agg #[.int .i64 o, .int .i64 d, .int .i64 a, .int .i64 b1, .int .i64 n1, .int .i64 t1]) ∧ New (w.alloc (.cells #[.int .i64 o, .int .i64 d, .int .i64 a, .int .i64 b, .int .i64 n, .int .i64 t] 79)) w'')) :
    Calls Tryz.prog 55 #[.agg #[.int .i64 o, .int .i64 d, .int .i64 a, .int .i64 b, .int .i64 n, .int .i64 t], .int .i64 m] w fun e w' => e = .returned (.int .i64 1) ∧ New w w' := by
  have e2 := bneq_of e1
  obtain ⟨q0, q1, q2, q3, q4, q5⟩ := cells_all (Has.box w ⟨o, d, a, b, n, t⟩)
  dsimp only at q0 q1 q2 q3 q4 q5
  go_enter Tryz.func55, Tryz.ntmps55
  go_wp2_with fail
  have hne := newW_any (w.alloc (.cells #[.int .i64 o, .int .i64 d, .int .i64 a, .int .i64 b, .int .i64 n, .int .i64 t] 79))
  refine wp_region_new (w0 := w.alloc (.cells #[.int .i64 o, .int .i64 d, .int .i64 a, .int .i64 b, .int .i64 n, .int .i64 t] 79)) (New.refl _) (by kernel_rfl) (by kernel_rfl) ?_
  repeat (go_big_quiet_step (first | (go_at_call 84; exact quiet_new (H.out _ (Subtype.property _)))))
  refine wpQuiet_nil ?_
  intro w2 h2
  clear q0 q1 q2 q3 q4 q5
  go_wp2
  go_ret
  exact ⟨rfl, (alloc_new _ _).trans h2⟩
set_option maxHeartbeats 2000000 in
set_option maxRecDepth 100000 in
theorem rchk_diff_n (o d a b n t m n1 t1 : Int) (k1 : decide (o < 1) = false) (k2 : decide (18 < o) = false) (e1 : ¬ n1 = n) (w : World)
    (H : Hid (∀ w', New (w.alloc (.cells #[.int .i64 o, .int .i64 d, .int .i64 a, .int .i64 b, .int .i64 n, .int .i64 t] 79)) w' → Calls Tryz.prog 84 #[.agg #[.int .i64 o, .int .i64 d, .int .i64 a, .int .i64 b, .int .i64 n, .int .i64 t]] w' fun e w'' => e = .returned (.agg #[.int .i64 o, .int .i64 d, .int .i64 a, .int .i64 b, .int .i64 n1, .int .i64 t1]) ∧ New (w.alloc (.cells #[.int .i64 o, .int .i64 d, .int .i64 a, .int .i64 b, .int .i64 n, .int .i64 t] 79)) w'')) :
    Calls Tryz.prog 55 #[.agg #[.int .i64 o, .int .i64 d, .int .i64 a, .int .i64 b, .int .i64 n, .int .i64 t], .int .i64 m] w fun e w' => e = .returned (.int .i64 1) ∧ New w w' := by
  have e2 := bneq_of e1
  obtain ⟨q0, q1, q2, q3, q4, q5⟩ := cells_all (Has.box w ⟨o, d, a, b, n, t⟩)
  dsimp only at q0 q1 q2 q3 q4 q5
  go_enter Tryz.func55, Tryz.ntmps55
  go_wp2_with fail
  have hne := newW_any (w.alloc (.cells #[.int .i64 o, .int .i64 d, .int .i64 a, .int .i64 b, .int .i64 n, .int .i64 t] 79))
  refine wp_region_new (w0 := w.alloc (.cells #[.int .i64 o, .int .i64 d, .int .i64 a, .int .i64 b, .int .i64 n, .int .i64 t] 79)) (New.refl _) (by kernel_rfl) (by kernel_rfl) ?_
  repeat (go_big_quiet_step (first | (go_at_call 84; exact quiet_new (H.out _ (Subtype.property _)))))
  refine wpQuiet_nil ?_
  intro w2 h2
  clear q0 q1 q2 q3 q4 q5
  go_wp2
  go_ret
  exact ⟨rfl, (alloc_new _ _).trans h2⟩
set_option maxHeartbeats 2000000 in
set_option maxRecDepth 100000 in
theorem rchk_diff_t (o d a b n t m t1 : Int) (k1 : decide (o < 1) = false) (k2 : decide (18 < o) = false) (e1 : ¬ t1 = t) (w : World)
    (H : Hid (∀ w', New (w.alloc (.cells #[.int .i64 o, .int .i64 d, .int .i64 a, .int .i64 b, .int .i64 n, .int .i64 t] 79)) w' → Calls Tryz.prog 84 #[.agg #[.int .i64 o, .int .i64 d, .int .i64 a, .int .i64 b, .int .i64 n, .int .i64 t]] w' fun e w'' => e = .returned (.agg #[.int .i64 o, .int .i64 d, .int .i64 a, .int .i64 b, .int .i64 n, .int .i64 t1]) ∧ New (w.alloc (.cells #[.int .i64 o, .int .i64 d, .int .i64 a, .int .i64 b, .int .i64 n, .int .i64 t] 79)) w'')) :
    Calls Tryz.prog 55 #[.agg #[.int .i64 o, .int .i64 d, .int .i64 a, .int .i64 b, .int .i64 n, .int .i64 t], .int .i64 m] w fun e w' => e = .returned (.int .i64 1) ∧ New w w' := by
  have e2 := bneq_of e1
  obtain ⟨q0, q1, q2, q3, q4, q5⟩ := cells_all (Has.box w ⟨o, d, a, b, n, t⟩)
  dsimp only at q0 q1 q2 q3 q4 q5
  go_enter Tryz.func55, Tryz.ntmps55
  go_wp2_with fail
  have hne := newW_any (w.alloc (.cells #[.int .i64 o, .int .i64 d, .int .i64 a, .int .i64 b, .int .i64 n, .int .i64 t] 79))
  refine wp_region_new (w0 := w.alloc (.cells #[.int .i64 o, .int .i64 d, .int .i64 a, .int .i64 b, .int .i64 n, .int .i64 t] 79)) (New.refl _) (by kernel_rfl) (by kernel_rfl) ?_
  repeat (go_big_quiet_step (first | (go_at_call 84; exact quiet_new (H.out _ (Subtype.property _)))))
  refine wpQuiet_nil ?_
  intro w2 h2
  clear q0 q1 q2 q3 q4 q5
  go_wp2
  go_ret
  exact ⟨rfl, (alloc_new _ _).trans h2⟩
set_option maxHeartbeats 2000000 in
set_option maxRecDepth 100000 in
theorem rchk_call_low (d a b n t m : Int) (e1 : n < 0) (w : World)
    (H : Hid (∀ w', New (w.alloc (.cells #[.int .i64 15, .int .i64 d, .int .i64 a, .int .i64 b, .int .i64 n, .int .i64 t] 79)) w' → Calls Tryz.prog 84 #[.agg #[.int .i64 15, .int .i64 d, .int .i64 a, .int .i64 b, .int .i64 n, .int .i64 t]] w' fun e w'' => e = .returned (.agg #[.int .i64 15, .int .i64 d, .int .i64 a, .int .i64 b, .int .i64 n, .int .i64 t]) ∧ New (w.alloc (.cells #[.int .i64 15, .int .i64 d, .int .i64 a, .int .i64 b, .int .i64 n, .int .i64 t] 79)) w'')) :
    Calls Tryz.prog 55 #[.agg #[.int .i64 15, .int .i64 d, .int .i64 a, .int .i64 b, .int .i64 n, .int .i64 t], .int .i64 m] w fun e w' => e = .returned (.int .i64 1) ∧ New w w' := by
  obtain ⟨q0, q1, q2, q3, q4, q5⟩ := cells_all (Has.box w ⟨15, d, a, b, n, t⟩)
  dsimp only at q0 q1 q2 q3 q4 q5
  go_enter Tryz.func55, Tryz.ntmps55
  go_wp2_with fail
  have hne := newW_any (w.alloc (.cells #[.int .i64 15, .int .i64 d, .int .i64 a, .int .i64 b, .int .i64 n, .int .i64 t] 79))
  refine wp_region_new (w0 := w.alloc (.cells #[.int .i64 15, .int .i64 d, .int .i64 a, .int .i64 b, .int .i64 n, .int .i64 t] 79)) (New.refl _) (by kernel_rfl) (by kernel_rfl) ?_
  repeat (go_big_quiet_step (first | (go_at_call 84; exact quiet_new (H.out _ (Subtype.property _)))))
  refine wpQuiet_nil ?_
  intro w2 h2
  clear q0 q1 q2 q3 q4 q5
  go_wp2
  go_ret
  exact ⟨rfl, (alloc_new _ _).trans h2⟩
set_option maxHeartbeats 2000000 in
set_option maxRecDepth 100000 in
theorem rchk_call_high (d a b n t m : Int) (e1 : decide (n < 0) = false) (e2 : 99 < n) (w : World)
    (H : Hid (∀ w', New (w.alloc (.cells #[.int .i64 15, .int .i64 d, .int .i64 a, .int .i64 b, .int .i64 n, .int .i64 t] 79)) w' → Calls Tryz.prog 84 #[.agg #[.int .i64 15, .int .i64 d, .int .i64 a, .int .i64 b, .int .i64 n, .int .i64 t]] w' fun e w'' => e = .returned (.agg #[.int .i64 15, .int .i64 d, .int .i64 a, .int .i64 b, .int .i64 n, .int .i64 t]) ∧ New (w.alloc (.cells #[.int .i64 15, .int .i64 d, .int .i64 a, .int .i64 b, .int .i64 n, .int .i64 t] 79)) w'')) :
    Calls Tryz.prog 55 #[.agg #[.int .i64 15, .int .i64 d, .int .i64 a, .int .i64 b, .int .i64 n, .int .i64 t], .int .i64 m] w fun e w' => e = .returned (.int .i64 1) ∧ New w w' := by
  obtain ⟨q0, q1, q2, q3, q4, q5⟩ := cells_all (Has.box w ⟨15, d, a, b, n, t⟩)
  dsimp only at q0 q1 q2 q3 q4 q5
  go_enter Tryz.func55, Tryz.ntmps55
  go_wp2_with fail
  have hne := newW_any (w.alloc (.cells #[.int .i64 15, .int .i64 d, .int .i64 a, .int .i64 b, .int .i64 n, .int .i64 t] 79))
  refine wp_region_new (w0 := w.alloc (.cells #[.int .i64 15, .int .i64 d, .int .i64 a, .int .i64 b, .int .i64 n, .int .i64 t] 79)) (New.refl _) (by kernel_rfl) (by kernel_rfl) ?_
  repeat (go_big_quiet_step (first | (go_at_call 84; exact quiet_new (H.out _ (Subtype.property _)))))
  refine wpQuiet_nil ?_
  intro w2 h2
  clear q0 q1 q2 q3 q4 q5
  go_wp2
  go_ret
  exact ⟨rfl, (alloc_new _ _).trans h2⟩
set_option maxHeartbeats 2000000 in
set_option maxRecDepth 100000 in
theorem rchk_call_in (d a b n t m : Int) (e1 : decide (n < 0) = false) (e2 : decide (99 < n) = false) (w : World)
    (H : Hid (∀ w', New (w.alloc (.cells #[.int .i64 15, .int .i64 d, .int .i64 a, .int .i64 b, .int .i64 n, .int .i64 t] 79)) w' → Calls Tryz.prog 84 #[.agg #[.int .i64 15, .int .i64 d, .int .i64 a, .int .i64 b, .int .i64 n, .int .i64 t]] w' fun e w'' => e = .returned (.agg #[.int .i64 15, .int .i64 d, .int .i64 a, .int .i64 b, .int .i64 n, .int .i64 t]) ∧ New (w.alloc (.cells #[.int .i64 15, .int .i64 d, .int .i64 a, .int .i64 b, .int .i64 n, .int .i64 t] 79)) w'')) :
    Calls Tryz.prog 55 #[.agg #[.int .i64 15, .int .i64 d, .int .i64 a, .int .i64 b, .int .i64 n, .int .i64 t], .int .i64 m] w fun e w' => e = .returned (.int .i64 (refV ⟨15, d, a, b, n, t⟩ m)) ∧ New w w' := by
  have e3 : 0 ≤ n := by simpa using e1
  have e4 : n ≤ 99 := by simpa using e2
  obtain ⟨q0, q1, q2, q3, q4, q5⟩ := cells_all (Has.box w ⟨15, d, a, b, n, t⟩)
  dsimp only at q0 q1 q2 q3 q4 q5
  go_enter Tryz.func55, Tryz.ntmps55
  go_wp2_with fail
  have hne := newW_any (w.alloc (.cells #[.int .i64 15, .int .i64 d, .int .i64 a, .int .i64 b, .int .i64 n, .int .i64 t] 79))
  refine wp_region_new (w0 := w.alloc (.cells #[.int .i64 15, .int .i64 d, .int .i64 a, .int .i64 b, .int .i64 n, .int .i64 t] 79)) (New.refl _) (by kernel_rfl) (by kernel_rfl) ?_
  repeat (go_big_quiet_step (first | (go_at_call 84; exact quiet_new (H.out _ (Subtype.property _)))))
  refine wpQuiet_nil ?_
  intro w2 h2
  have hx := (Has.box w ⟨15, d, a, b, n, t⟩).new h2
  obtain ⟨c0, c1, c2, c3⟩ := hx.cell
  have c5 : w2.cell? ⟨w.heap.size, 5, none⟩ = some (.int .i64 t) := q5 ⟨w2, h2⟩
  dsimp only at c0 c1 c2 c3
  clear q0 q1 q2 q3 q4 q5 hx
  go_wp2_with (first | (go_at_call 85; refine (rplace_any _ _).mono ?_; rintro e w3 ⟨rfl, rfl⟩) | (go_at_call 86; refine (rreg_any _ _).mono ?_; rintro e w3 ⟨rfl, rfl⟩))
  all_goals
    go_ret
    refine ⟨?_, (alloc_new _ _).trans h2⟩
    refine congrArg (fun z => Ending.returned (.int .i64 z)) ?_
    go_light
    simp only [regB, Bool.not_eq_true', Bool.not_eq_false', decide_eq_true_eq, decide_eq_false_iff_not] at *
    dsimp only [refV]
    repeat' split
    all_goals first | rfl | (exfalso; omega)
set_option maxHeartbeats 2000000 in
set_option maxRecDepth 100000 in
theorem rchk_in (o d a b n t m : Int) (k1 : decide (o < 1) = false) (k2 : decide (18 < o) = false) (k3 : (o == 15) = false) (w : World)
    (H : Hid (∀ w', New (w.alloc (.cells #[.int .i64 o, .int .i64 d, .int .i64 a, .int .i64 b, .int .i64 n, .int .i64 t] 79)) w' → Calls Tryz.prog 84 #[.agg #[.int .i64 o, .int .i64 d, .int .i64 a, .int .i64 b, .int .i64 n, .int .i64 t]] w' fun e w'' => e = .returned (.agg #[.int .i64 o, .int .i64 d, .int .i64 a, .int .i64 b, .int .i64 n, .int .i64 t]) ∧ New (w.alloc (.cells #[.int .i64 o, .int .i64 d, .int .i64 a, .int .i64 b, .int .i64 n, .int .i64 t] 79)) w'')) :
    Calls Tryz.prog 55 #[.agg #[.int .i64 o, .int .i64 d, .int .i64 a, .int .i64 b, .int .i64 n, .int .i64 t], .int .i64 m] w fun e w' => e = .returned (.int .i64 (refV ⟨o, d, a, b, n, t⟩ m)) ∧ New w w' := by
  have k4 : o ≠ 15 := by simpa using k3
  obtain ⟨q0, q1, q2, q3, q4, q5⟩ := cells_all (Has.box w ⟨o, d, a, b, n, t⟩)
  dsimp only at q0 q1 q2 q3 q4 q5
  go_enter Tryz.func55, Tryz.ntmps55
  go_wp2_with fail
  have hne := newW_any (w.alloc (.cells #[.int .i64 o, .int .i64 d, .int .i64 a, .int .i64 b, .int .i64 n, .int .i64 t] 79))
  refine wp_region_new (w0 := w.alloc (.cells #[.int .i64 o, .int .i64 d, .int .i64 a, .int .i64 b, .int .i64 n, .int .i64 t] 79)) (New.refl _) (by kernel_rfl) (by kernel_rfl) ?_
  repeat (go_big_quiet_step (first | (go_at_call 84; exact quiet_new (H.out _ (Subtype.property _)))))
  refine wpQuiet_nil ?_
  intro w2 h2
  have hx := (Has.box w ⟨o, d, a, b, n, t⟩).new h2
  obtain ⟨c0, c1, c2, c3⟩ := hx.cell
  have c5 : w2.cell? ⟨w.heap.size, 5, none⟩ = some (.int .i64 t) := q5 ⟨w2, h2⟩
  dsimp only at c0 c1 c2 c3
  clear q0 q1 q2 q3 q4 q5 hx
  go_wp2_with (first | (go_at_call 85; refine (rplace_any _ _).mono ?_; rintro e w3 ⟨rfl, rfl⟩) | (go_at_call 86; refine (rreg_any _ _).mono ?_; rintro e w3 ⟨rfl, rfl⟩))
  all_goals
    go_ret
    refine ⟨?_, (alloc_new _ _).trans h2⟩
    refine congrArg (fun z => Ending.returned (.int .i64 z)) ?_
    go_light
    simp only [rightB, regB, Bool.not_eq_true', Bool.not_eq_false', decide_eq_true_eq, decide_eq_false_iff_not] at *
    dsimp only [refV]
    repeat' split
    all_goals first | rfl | (exfalso; omega)
end Go.Proofs.YtphopkjgfkaihaaGreatDoor
namespace Go.Proofs.YtphopkjgfkaihaaGreatDoor
open Go.RowKit

theorem only_op (x : I) : (onlyV x).op = x.op := put_op _ _
theorem refCheck_any (o d a b n t m : Int) (w : World) :
    Calls Tryz.prog 55 #[.agg #[.int .i64 o, .int .i64 d, .int .i64 a, .int .i64 b, .int .i64 n, .int .i64 t], .int .i64 m] w fun e w' => e = .returned (.int .i64 (chkV ⟨o, d, a, b, n, t⟩ m)) ∧ New w w' := by
  cases hk : knownB o with
  | false =>
    rw [chk_unknown hk]
    by_cases h1 : o < 1
    · exact rchk_low o d a b n t m h1 w
    · have h2 : 18 < o := by
        by_cases h : 18 < o
        · exact h
        · have := known_iff.mpr ⟨show 1 ≤ o by omega, show o ≤ 18 by omega⟩
          rw [this] at hk; cases hk
      exact rchk_high o d a b n t m (by simpa using h1) h2 w
  | true =>
    have hk' := known_iff.mp hk
    have k1 : decide (o < 1) = false := by simp; omega
    have k2 : decide (18 < o) = false := by simp; omega
    have H : ∀ w', New (w.alloc (.cells #[.int .i64 o, .int .i64 d, .int .i64 a, .int .i64 b, .int .i64 n, .int .i64 t] 79)) w' → Calls Tryz.prog 84 #[.agg #[.int .i64 o, .int .i64 d, .int .i64 a, .int .i64 b, .int .i64 n, .int .i64 t]] w' fun e w'' => e = .returned (.agg #[.int .i64 (onlyV ⟨o, d, a, b, n, t⟩).op, .int .i64 (onlyV ⟨o, d, a, b, n, t⟩).d, .int .i64 (onlyV ⟨o, d, a, b, n, t⟩).a, .int .i64 (onlyV ⟨o, d, a, b, n, t⟩).b, .int .i64 (onlyV ⟨o, d, a, b, n, t⟩).n, .int .i64 (onlyV ⟨o, d, a, b, n, t⟩).t]) ∧ New (w.alloc (.cells #[.int .i64 o, .int .i64 d, .int .i64 a, .int .i64 b, .int .i64 n, .int .i64 t] 79)) w'' :=
      fun w' hn => only_from o d a b n t hk w' hn
    by_cases hs : onlyV ⟨o, d, a, b, n, t⟩ = ⟨o, d, a, b, n, t⟩
    · rw [chk_refV hk hs]
      rw [hs] at H
      by_cases h15 : o = 15
      · subst h15
        by_cases n0 : n < 0
        · rw [show refV ⟨15, d, a, b, n, t⟩ m = 1 from if_pos ⟨rfl, .inl n0⟩]
          exact rchk_call_low d a b n t m n0 w (Lib.hid H)
        · by_cases n9 : 99 < n
          · rw [show refV ⟨15, d, a, b, n, t⟩ m = 1 from if_pos ⟨rfl, .inr n9⟩]
            exact rchk_call_high d a b n t m (by simpa using n0) n9 w (Lib.hid H)
          · exact rchk_call_in d a b n t m (by simpa using n0) (by simpa using n9) w (Lib.hid H)
      · exact rchk_in o d a b n t m k1 k2 (bneq_of h15) w (Lib.hid H)
    · rw [chk_spare hk hs]
      have hop := only_op ⟨o, d, a, b, n, t⟩
      rw [eq_six] at hs
      generalize onlyV ⟨o, d, a, b, n, t⟩ = y at *
      obtain ⟨o1, d1, a1, b1, n1, t1⟩ := y
      simp only at hop hs H
      subst hop
      by_cases e1 : d1 = d
      · subst e1
        by_cases e2 : a1 = a
        · subst e2
          by_cases e3 : b1 = b
          · subst e3
            by_cases e4 : n1 = n
            · subst e4
              by_cases e5 : t1 = t
              · exact absurd ⟨rfl, rfl, rfl, rfl, rfl, e5⟩ hs
              · exact rchk_diff_t _ _ _ _ _ t m t1 k1 k2 e5 w (Lib.hid H)
            · exact rchk_diff_n _ _ _ _ n t m n1 t1 k1 k2 e4 w (Lib.hid H)
          · exact rchk_diff_b _ _ _ b n t m b1 n1 t1 k1 k2 e3 w (Lib.hid H)
        · exact rchk_diff_a _ _ a b n t m a1 b1 n1 t1 k1 k2 e2 w (Lib.hid H)
      · exact rchk_diff_d _ d a b n t m d1 a1 b1 n1 t1 k1 k2 e1 w (Lib.hid H)
theorem refCheck_from {w0 : World} (o d a b n t m : Int) (w : World) (h : New w0 w) :
    Calls Tryz.prog 55 #[.agg #[.int .i64 o, .int .i64 d, .int .i64 a, .int .i64 b, .int .i64 n, .int .i64 t], .int .i64 m] w fun e w' => e = .returned (.int .i64 (chkV ⟨o, d, a, b, n, t⟩ m)) ∧ New w0 w' :=
  (refCheck_any o d a b n t m w).mono fun _ _ ⟨he, hw⟩ => ⟨he, h.trans hw⟩
end Go.Proofs.YtphopkjgfkaihaaGreatDoor
