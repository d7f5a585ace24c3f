/-
  The law InsTells: true at every input.
-/
import Derived.Test.YtlebmmlkckilfaaDoorRefTell
import Derived.Test.YtlebmmlkckilfaaDoorInsKnows
import Derived.Deep.CutRange
namespace Go.Proofs.YtlebmmlkckilfaaDoor
open Go.RowKit

theorem has_six {w : World} {g : Nat} {x : I} (h : Has w g x) :
    w.cell? ⟨g, 0, none⟩ = some (.int .i64 x.op) ∧ w.cell? ⟨g, 1, none⟩ = some (.int .i64 x.d) ∧ w.cell? ⟨g, 2, none⟩ = some (.int .i64 x.a) ∧ w.cell? ⟨g, 3, none⟩ = some (.int .i64 x.b) ∧ w.cell? ⟨g, 4, none⟩ = some (.int .i64 x.n) ∧ w.cell? ⟨g, 5, none⟩ = some (.int .i64 x.t) := by
  refine ⟨?_, ?_, ?_, ?_, ?_, ?_⟩ <;> exact cell_of_row w g _ _ _ _ h
theorem six_new {a : World} {g : Nat} {x : I} (h : Has a g x) :
    (∀ y : NewW a, y.val.cell? ⟨g, 0, none⟩ = some (.int .i64 x.op)) ∧ (∀ y : NewW a, y.val.cell? ⟨g, 1, none⟩ = some (.int .i64 x.d)) ∧ (∀ y : NewW a, y.val.cell? ⟨g, 2, none⟩ = some (.int .i64 x.a)) ∧
    (∀ y : NewW a, y.val.cell? ⟨g, 3, none⟩ = some (.int .i64 x.b)) ∧ (∀ y : NewW a, y.val.cell? ⟨g, 4, none⟩ = some (.int .i64 x.n)) ∧ (∀ y : NewW a, y.val.cell? ⟨g, 5, none⟩ = some (.int .i64 x.t)) := by
  refine ⟨fun y => ?_, fun y => ?_, fun y => ?_, fun y => ?_, fun y => ?_, fun y => ?_⟩ <;> exact cell_of_row y.val g _ _ _ _ (h.new y.property)
/-- A slice value that holds these numbers. -/
def Lists (w : World) (l : List Int) (m : Nat) (v : Value) : Prop :=
  ∃ (p : Option Addr) (cap : Nat), v = .slice p m cap ∧ ∀ k < m, ∃ g, p = some ⟨g, 0, none⟩ ∧ w.cell? ⟨g, k, none⟩ = some (.int .i64 (l.getD k 0))
theorem lists_of {w : World} {base e m : Nat} {v : Value} {l : List Int} (h : w.ownsRow base e 1 v l.length (l.map (Value.int .i64))) (hn : l.length = m) : Lists w l m v := by
  subst hn
  rcases h.2 with ⟨rfl, h0⟩ | ⟨g, cap, cur, rfl, hg, hb, h1, h2, h3, h4⟩
  · exact ⟨none, 0, by rw [h0], fun k hk => by omega⟩
  · refine ⟨some ⟨g, 0, none⟩, cap, rfl, fun k hk => ⟨g, rfl, ?_⟩⟩
    rw [cell_of_row w g k cur e _ hb]
    have h5 : (cur.toList.take (l.length * 1))[k]? = (l.map (Value.int .i64))[k]? := by rw [h4]
    rw [List.getElem?_take, if_pos (by omega), List.getElem?_map] at h5
    rw [← Array.getElem?_toList, h5, List.getD_eq_getElem?_getD, List.getElem?_eq_getElem hk]
    rfl
theorem Lists.new {w w' : World} {l : List Int} {m : Nat} {v : Value} (h : Lists w l m v) (n : New w w') : Lists w' l m v := by
  obtain ⟨p, cap, hv, hc⟩ := h
  refine ⟨p, cap, hv, fun k hk => ?_⟩
  obtain ⟨g, hg, hcell⟩ := hc k hk
  exact ⟨g, hg, (n.cell (World.block_lt_of_cell? _ _ hcell)).trans hcell⟩
theorem moves_from {w0 : World} (o d a b n t : Int) (w : World) (h : New w0 w) :
    Calls Tryd.prog 23 #[.agg #[.int .i64 o, .int .i64 d, .int .i64 a, .int .i64 b, .int .i64 n, .int .i64 t]] w fun e w' => e = .returned (.bool (movesB o)) ∧ New w0 w' :=
  (moves_any o d a b n t w).mono fun _ _ ⟨he, hw⟩ => ⟨he, h.trans hw⟩
theorem refMoves_from {w0 : World} (o d a b n t : Int) (w : World) (h : New w0 w) :
    Calls Tryd.prog 24 #[.agg #[.int .i64 o, .int .i64 d, .int .i64 a, .int .i64 b, .int .i64 n, .int .i64 t]] w fun e w' => e = .returned (.bool (movesB o)) ∧ New w0 w' :=
  (refMoves_any o d a b n t w).mono fun _ _ ⟨he, hw⟩ => ⟨he, h.trans hw⟩
theorem uses_le (x : I) : (usesL x).length ≤ 2 := by
  rw [uses_class]
  split
  · simp
  · split <;> simp

set_option maxHeartbeats 4000000 in
set_option maxRecDepth 100000 in
theorem insTells_law (o d a b n t : Int) (_hx : In64I ⟨o, d, a, b, n, t⟩) (w : World) (hl : Laid w) :
    Calls Tryd.prog 6 #[.agg #[.int .i64 o, .int .i64 d, .int .i64 a, .int .i64 b, .int .i64 n, .int .i64 t]] w fun e w' => e = .returned (.bool true) ∧ New w w' := by
  have HL := Lib.hid hl
  have hx0 := Lib.hid (Has.box w ⟨o, d, a, b, n, t⟩)
  obtain ⟨m, hm⟩ : ∃ m, (usesL ⟨o, d, a, b, n, t⟩).length = m := ⟨_, rfl⟩
  have hm2 : m ≤ 2 := by rw [← hm]; exact uses_le _
  have HM := Lib.hid hm
  clear hl hm _hx
  go_enter Tryd.func6, Tryd.ntmps6
  go_upto_region 1 with fail
  go_cut [3, 4] from 10 to 13 (fun s3 s4 wx => Has wx w.heap.size ⟨o, d, a, b, n, t⟩ ∧ New w wx ∧ Lists wx (usesL ⟨o, d, a, b, n, t⟩) m s3 ∧ Lists wx (usesL ⟨o, d, a, b, n, t⟩) m s4)
  case first =>
    go_region_with (first
      | (go_at_call 19; refine (uses_any o d a b n t _ (HL.out.new (alloc_new _ _).drew)).mono ?_; rintro e w2 ⟨v, rfl, hown1, hn1⟩; have hx2 : Has w2 w.heap.size ⟨o, d, a, b, n, t⟩ := (hx0.out.new (New.refl _).drew).new hn1; obtain ⟨f0, f1, f2, f3, f4, f5⟩ := has_six hx2; dsimp only at f0 f1 f2 f3 f4 f5)
      | (go_at_call 20; refine (refUses_any o d a b n t _).mono ?_; rintro e w3 ⟨v', rfl, hown2, hn2⟩))
    all_goals
      go_wp2_with fail
      go_meet
      exact ⟨hx2.new hn2, ((alloc_new _ _).drew.trans hn1).trans hn2, (lists_of hown1 HM.out).new hn2, lists_of hown2 HM.out⟩
  case rest =>
  obtain ⟨hx, hcur, hl1, hl2⟩ := hcut
  obtain ⟨p1, c1, rfl, hc1⟩ := hl1
  obtain ⟨p2, c2, rfl, hc2⟩ := hl2
  have L1 := Lib.hid hc1
  have L2 := Lib.hid hc2
  clear hc1 hc2
  go_wp2_with (first
    | (refine wpList_ldI rfl (.tmp 1) rfl _ rfl hx ?_)
    | (go_at_call 21; refine (sets_any o d a b n t _ (HL.out.new hcur)).mono ?_; rintro e w4 ⟨rfl, hn4⟩; have hcur := hcur.trans hn4; have hx := hx.new hn4)
    | (go_at_call 22; refine (refSets_any o d a b n t _).mono ?_; rintro e w5 ⟨rfl, hn5⟩; have hcur := hcur.trans hn5; have hx := hx.new hn5))
  obtain ⟨q0, q1, q2, q3, q4, q5⟩ := six_new hx
  dsimp only at q0 q1 q2 q3 q4 q5
  have hne := newW_any w5
  refine wp_region_new (w0 := w5) (New.refl _) (by kernel_rfl) (by kernel_rfl) ?_
  repeat (go_big_quiet_step (first
    | (go_at_call 23; exact quiet_new (moves_from _ _ _ _ _ _ _ (Subtype.property _)))
    | (go_at_call 24; exact quiet_new (refMoves_from _ _ _ _ _ _ _ (Subtype.property _)))))
  refine wpQuiet_nil ?_
  intro w6 h6
  have hcur := hcur.trans h6
  have K1 : Hid (∀ k < m, ∃ g, p1 = some ⟨g, 0, none⟩ ∧ w6.cell? ⟨g, k, none⟩ = some (.int .i64 ((usesL ⟨o, d, a, b, n, t⟩).getD k 0))) := Lib.hid fun k hk => by
    obtain ⟨g, h1, h2⟩ := L1.out k hk
    exact ⟨g, h1, (((hn4.trans hn5).trans h6).cell (World.block_lt_of_cell? _ _ h2)).trans h2⟩
  have K2 : Hid (∀ k < m, ∃ g, p2 = some ⟨g, 0, none⟩ ∧ w6.cell? ⟨g, k, none⟩ = some (.int .i64 ((usesL ⟨o, d, a, b, n, t⟩).getD k 0))) := Lib.hid fun k hk => by
    obtain ⟨g, h1, h2⟩ := L2.out k hk
    exact ⟨g, h1, (((hn4.trans hn5).trans h6).cell (World.block_lt_of_cell? _ _ h2)).trans h2⟩
  clear q0 q1 q2 q3 q4 q5 L1 L2
  go_wp2
  go_loopw [9] (fun v wr => ∃ k : Nat, k ≤ m ∧ v = .int .i64 k ∧ New w6 wr) (fun v _ => m - (intOf v).toNat)
  case atStart => exact ⟨0, Nat.zero_le _, rfl, New.refl _⟩
  case round =>
    obtain ⟨k, hk, rfl, hwr⟩ := hrel
    by_cases hlt : k < m
    · obtain ⟨g1, rfl, hcg1⟩ := K1.out k hlt
      obtain ⟨g2, rfl, hcg2⟩ := K2.out k hlt
      have hcg1 := (hwr.cell (World.block_lt_of_cell? _ _ hcg1)).trans hcg1
      have hcg2 := (hwr.cell (World.block_lt_of_cell? _ _ hcg2)).trans hcg2
      generalize (usesL ⟨o, d, a, b, n, t⟩).getD k 0 = u at *
      go_wp2
      go_region
      go_wp2
      go_roundw
      case rel => exact ⟨k + 1, by omega, by go_num, hwr.drew⟩
      case measure => simp [intOf]; omega
    · go_wp2_with (go_at_call 14; refine (knows_from _ HL (hcur.trans hwr)).mono ?_; rintro e w7 ⟨rfl, h7⟩)
      go_ret
      exact ⟨rfl, h7⟩
end Go.Proofs.YtlebmmlkckilfaaDoor
