/-
  The law InsGrows: true at every input.
-/
import Derived.Test.YtlebmmlkckilfaaDoorInsKnows
namespace Go.Proofs.YtlebmmlkckilfaaDoor
open Go.RowKit

/-- The cells of an instruction that lies in a block of 'a', in every later world. -/
theorem cells_new {a : World} {g : Nat} {x : I} (h : Has a g x) :
    (∀ y : NewW a, y.val.cell? ⟨g, 0, none⟩ = some (.int .i64 x.op)) ∧ (∀ y : NewW a, y.val.cell? ⟨g, 1, none⟩ = some (.int .i64 x.d)) ∧ (∀ y : NewW a, y.val.cell? ⟨g, 2, none⟩ = some (.int .i64 x.a)) ∧
    (∀ y : NewW a, y.val.cell? ⟨g, 3, none⟩ = some (.int .i64 x.b)) ∧ (∀ y : NewW a, y.val.cell? ⟨g, 4, none⟩ = some (.int .i64 x.n)) ∧ (∀ y : NewW a, y.val.cell? ⟨g, 5, none⟩ = some (.int .i64 x.t)) := by
  refine ⟨fun y => ?_, fun y => ?_, fun y => ?_, fun y => ?_, fun y => ?_, fun y => ?_⟩ <;> exact cell_of_row y.val g _ _ _ _ (h.new y.property)
theorem no84 : ∀ k < 19, k ≠ 16 → k ≠ 17 → (84 : UInt8) ∉ fldsL k := by decide +kernel
theorem letters84 {op : Int} (h1 : op ≠ 16) (h2 : op ≠ 17) : ∀ c ∈ letters op, c ≠ 84 := by
  intro c hc
  unfold letters lettersOf at hc
  obtain ⟨u, hu, rfl⟩ := List.mem_map.mp hc
  unfold fieldsL at hu
  split at hu
  · rename_i hk
    have hk' := known_iff.mp hk
    have := no84 op.toNat (by omega) (by omega) (by omega)
    intro h
    have hu84 : u = 84 := by
      have : u.toNat = 84 := by omega
      exact UInt8.toNat_inj.mp (by rw [this]; rfl)
    rw [hu84] at hu
    exact this hu
  · cases hu
theorem fault_other {c : Int} (h : c ≠ 84) (v n m : Int) : faultV c v n = faultV c v m := by
  unfold faultV
  rw [if_neg h, if_neg h]
theorem any_same {α : Type} {L : List α} {p q : α → Bool} (h : ∀ c ∈ L, p c = q c) : L.any p = L.any q := by
  induction L with
  | nil => rfl
  | cons c L ih =>
    rw [List.any_cons, List.any_cons, h c (List.mem_cons_self ..), ih (fun d hd => h d (List.mem_cons_of_mem _ hd))]
theorem chk_other {x : I} (h1 : x.op ≠ 16) (h2 : x.op ≠ 17) (n m : Int) : chkV x n = chkV x m := by
  have hh : ∀ e, hitB (letters x.op) x n e = hitB (letters x.op) x m e := fun e =>
    any_same fun c hc => by rw [fault_other (letters84 h1 h2 c hc) _ n m]
  unfold chkV
  rw [hh 1, hh 6, hh 4]
theorem chk_more {x : I} {n m : Int} (h : n ≤ m) (hc : chkV x n = 0) : chkV x m = 0 := by
  obtain ⟨h1, h2, h3⟩ := chk_zero hc
  refine zero_chk h1 h2 fun c hc => ?_
  have := h3 c hc
  by_cases h84 : c = 84
  · subst h84
    unfold faultV at this ⊢
    rw [if_neg (by decide), if_neg (by decide), if_neg (by decide), if_pos rfl] at this ⊢
    split at this
    · omega
    · rw [if_neg (by omega)]
  · rw [fault_other h84 _ m n]; exact this

set_option maxHeartbeats 1000000 in
set_option maxRecDepth 100000 in
theorem insGrows_long (o d a b n t m k : Int) (h : (1099511627776 : Int) < m) (w : World) (hl : Laid w) :
    Calls Tryd.prog 9 #[.agg #[.int .i64 o, .int .i64 d, .int .i64 a, .int .i64 b, .int .i64 n, .int .i64 t], .int .i64 m, .int .u8 k] w fun e w' => e = .returned (.bool true) ∧ New w w' := by
  have HL := Lib.hid hl
  clear hl
  go_enter Tryd.func9, Tryd.ntmps9
  go_wp2_with (go_at_call 14; refine (knows_from _ HL (alloc_new _ _)).mono ?_; rintro e w1 ⟨rfl, h1⟩)
  go_ret
  exact ⟨rfl, h1⟩

set_option maxHeartbeats 2000000 in
set_option maxRecDepth 100000 in
theorem insGrows_short (o d a b n t m k : Int) (hm : In64 m) (h : ¬ (1099511627776 : Int) < m) (hk : 0 ≤ k ∧ k ≤ 255) (w : World) (hl : Laid w) :
    Calls Tryd.prog 9 #[.agg #[.int .i64 o, .int .i64 d, .int .i64 a, .int .i64 b, .int .i64 n, .int .i64 t], .int .i64 m, .int .u8 k] w fun e w' => e = .returned (.bool true) ∧ New w w' := by
  have HL := Lib.hid hl
  have hsum : wrap64 (m + k) = m + k := by unfold In64 at hm; unfold wrap64; omega
  have hsum' : IntKind.i64.wrap (m + k) = m + k := by rw [IntKind.wrap_i64]; unfold In64 at hm; omega
  have hx0 := Has.box w ⟨o, d, a, b, n, t⟩
  obtain ⟨q0, q1, q2, q3, q4, q5⟩ := cells_new hx0
  dsimp only at q0 q1 q2 q3 q4 q5
  have HX := Lib.hid hx0
  have HM : Hid (chkV ⟨o, d, a, b, n, t⟩ m = 0 → chkV ⟨o, d, a, b, n, t⟩ (m + k) = 0) := Lib.hid (chk_more (by omega))
  have HO : Hid (o ≠ 16 → o ≠ 17 → chkV ⟨o, d, a, b, n, t⟩ m = chkV ⟨o, d, a, b, n, t⟩ (m + k)) := Lib.hid fun h1 h2 => chk_other h1 h2 _ _
  clear hl hm hx0
  go_enter Tryd.func9, Tryd.ntmps9
  go_wp2_with fail
  have hne := newW_any (w.alloc (.cells #[.int .i64 o, .int .i64 d, .int .i64 a, .int .i64 b, .int .i64 n, .int .i64 t] 23))
  refine wp_region_new (w0 := w.alloc (.cells #[.int .i64 o, .int .i64 d, .int .i64 a, .int .i64 b, .int .i64 n, .int .i64 t] 23)) (New.refl _) (by kernel_rfl) (by kernel_rfl) ?_
  repeat (go_big_quiet_step (first | (go_at_call 12; exact quiet_new (check_from _ _ _ _ _ _ _ _ (Lib.hid (HL.out.alloc _)) (Subtype.property _)))))
  refine wpQuiet_nil ?_
  intro w2 h2
  have hc0 := (HX.out.new h2).cell.1
  dsimp only at hc0
  have hcur := (alloc_new w (.cells #[.int .i64 o, .int .i64 d, .int .i64 a, .int .i64 b, .int .i64 n, .int .i64 t] 23)).trans h2
  clear q0 q1 q2 q3 q4 q5
  go_wp2_with (go_at_call 14; refine (knows_from _ HL hcur).mono ?_; rintro e w3 ⟨rfl, h3⟩)
  all_goals first
    | (go_ret; exact ⟨rfl, h3⟩)
    | (exfalso; have h1 := HM.out; have h2 := HO.out; simp_all; done)
theorem insGrows_law (o d a b n t m k : Int) (_hx : In64I ⟨o, d, a, b, n, t⟩) (hm : In64 m) (hk : 0 ≤ k ∧ k ≤ 255) (w : World) (hl : Laid w) :
    Calls Tryd.prog 9 #[.agg #[.int .i64 o, .int .i64 d, .int .i64 a, .int .i64 b, .int .i64 n, .int .i64 t], .int .i64 m, .int .u8 k] w fun e w' => e = .returned (.bool true) ∧ New w w' := by
  by_cases h : (1099511627776 : Int) < m
  · exact insGrows_long o d a b n t m k h w hl
  · exact insGrows_short o d a b n t m k hm h hk w hl
end Go.Proofs.YtlebmmlkckilfaaDoor
