/-
  The walks of layer 1's laws on arithmetic: each answers true, whatever the numbers; nothing that was in memory has turned.
-/
import Derived.Test.YthcjhcofcjmmbaaDoorNumText
namespace Go.Proofs.YthcjhcofcjmmbaaDoor
open Go.RowKit

theorem do_from {w0 : World} (op a b : Int) (w : World) (h : New w0 w) :
    Calls Tryd.prog 10 #[.int .i64 op, .int .i64 a, .int .i64 b] w fun e w' => e = .returned (.tuple #[.int .i64 (doV op a b), .int .i64 (doH op b)]) ∧ New w0 w' :=
  (do_any op a b w).mono fun _ _ ⟨he, hw⟩ => ⟨he, hw ▸ h.alloc _⟩
theorem has_from {w0 : World} (op : Int) (w : World) (h : New w0 w) :
    Calls Tryd.prog 12 #[.int .i64 op] w fun e w' => e = .returned (.bool (hasB op)) ∧ New w0 w' :=
  (has_any op w).mono fun _ _ ⟨he, hw⟩ => ⟨he, hw ▸ h.alloc _⟩
theorem knows_from {w0 : World} (hl : Hid (Laid w0)) (w : World) (h : New w0 w) :
    Calls Tryd.prog 14 #[] w fun e w' => e = .returned (.bool true) ∧ New w0 w' :=
  (knows_any w (hl.out.new h)).mono fun _ _ ⟨he, hw⟩ => ⟨he, h.trans hw⟩

theorem beq_of {a b : Int} (h : a = b) : (a == b) = true := by simp [h]

set_option maxHeartbeats 1000000 in
theorem numLaws_law (a b : Int) (ha : In64 a) (_hb : In64 b) (w : World) (hl : Laid w) :
    Calls Tryd.prog 6 #[.int .i64 a, .int .i64 b] w fun e w' => e = .returned (.bool true) ∧ New w w' := by
  have e1 := beq_of (add_comm' a b)
  have e2 := beq_of (sub_back (b := b) ha)
  have e3 := beq_of (mul_comm' a b)
  have e4 := beq_of (and_self' ha)
  have e5 := beq_of (or_self' ha)
  have e6 := beq_of (tri a b)
  have b1 := less01 a b
  have b2 := less01 b a
  have b3 := same01 a b
  have H := Lib.hid hl
  have h0 := New.refl w
  clear hl ha _hb
  go_enter Tryd.func6, Tryd.ntmps6
  go_wp2_with (first | (go_at_call 10; refine (do_from (w0 := w) _ _ _ _ (by assumption)).mono ?_; rintro e w1 ⟨rfl, h1⟩) | (go_at_call 14; refine (knows_from H _ (by assumption)).mono ?_; rintro e w1 ⟨rfl, h1⟩))
  go_ret
  exact ⟨rfl, by assumption⟩

set_option maxHeartbeats 1000000 in
theorem numOrders_law (a b c : Int) (_ha : In64 a) (_hb : In64 b) (_hc : In64 c) (w : World) (hl : Laid w) :
    Calls Tryd.prog 7 #[.int .i64 a, .int .i64 b, .int .i64 c] w fun e w' => e = .returned (.bool true) ∧ New w w' := by
  have e1 := beq_of (add_assoc' a b c)
  have e2 := beq_of (mul_add' a b c)
  have e3 := beq_of (mul_assoc' a b c)
  have H := Lib.hid hl
  have h0 := New.refl w
  clear hl
  go_enter Tryd.func7, Tryd.ntmps7
  go_wp2_with (first | (go_at_call 10; refine (do_from (w0 := w) _ _ _ _ (by assumption)).mono ?_; rintro e w1 ⟨rfl, h1⟩) | (go_at_call 14; refine (knows_from H _ (by assumption)).mono ?_; rintro e w1 ⟨rfl, h1⟩))
  go_ret
  exact ⟨rfl, by assumption⟩

set_option maxHeartbeats 1000000 in
theorem numBits_law (a b : Int) (ha : In64 a) (_hb : In64 b) (w : World) (hl : Laid w) :
    Calls Tryd.prog 9 #[.int .i64 a, .int .i64 b] w fun e w' => e = .returned (.bool true) ∧ New w w' := by
  have e1 := beq_of (and_or' (a := a) (b := b))
  have e2 := beq_of (or_and' (a := a) (b := b))
  have e3 := beq_of (xor_back (b := b) ha)
  have H := Lib.hid hl
  have h0 := New.refl w
  clear hl ha
  go_enter Tryd.func9, Tryd.ntmps9
  go_wp2_with (first | (go_at_call 10; refine (do_from (w0 := w) _ _ _ _ (by assumption)).mono ?_; rintro e w1 ⟨rfl, h1⟩) | (go_at_call 14; refine (knows_from H _ (by assumption)).mono ?_; rintro e w1 ⟨rfl, h1⟩))
  go_ret
  exact ⟨rfl, by assumption⟩

set_option maxHeartbeats 1000000 in
theorem numDivides_skip (a b : Int) (h : (b == 0) = true ∨ (b == 0) = false ∧ (a == -9223372036854775808) = true ∨ (b == 0) = false ∧ (a == -9223372036854775808) = false ∧ (b == -9223372036854775808) = true) (w : World) (hl : Laid w) :
    Calls Tryd.prog 8 #[.int .i64 a, .int .i64 b] w fun e w' => e = .returned (.bool true) ∧ New w w' := by
  have H := Lib.hid hl
  have h0 := New.refl w
  clear hl
  rcases h with h | ⟨h, h'⟩ | ⟨h, h', h''⟩
  all_goals
    go_enter Tryd.func8, Tryd.ntmps8
    go_wp2_with (go_at_call 14; refine (knows_from H _ (by assumption)).mono ?_; rintro e w1 ⟨rfl, h1⟩)
    go_ret
    exact ⟨rfl, by assumption⟩
set_option maxHeartbeats 1000000 in
theorem numDivides_do (a b : Int) (ha : In64 a) (hb : In64 b) (h : (b == 0) = false) (h' : (a == -9223372036854775808) = false) (h'' : (b == -9223372036854775808) = false) (w : World) (hl : Laid w) :
    Calls Tryd.prog 8 #[.int .i64 a, .int .i64 b] w fun e w' => e = .returned (.bool true) ∧ New w w' := by
  have hb0 : b ≠ 0 := by simpa using h
  have hR := rem_eq ha hb0
  have hlt := rem_lt (a := a) hb0
  have hp := rem_pos (a := a) (b := b)
  have hn := rem_neg (a := a) (b := b)
  rw [← hR] at hlt hp hn
  clear hR
  have hb1 : b ≠ -9223372036854775808 := by simpa using h''
  have ha1 : a ≠ -9223372036854775808 := by simpa using h'
  have e1 : doH 7 b = 0 := by simp [doH, hb0]
  unfold remV at *
  unfold In64 at *
  have H := Lib.hid hl
  have h0 := New.refl w
  clear hl
  go_enter Tryd.func8, Tryd.ntmps8
  go_wp2_with (first | (go_at_call 10; refine (do_from (w0 := w) _ _ _ _ (by assumption)).mono ?_; rintro e w1 ⟨rfl, h1⟩) | (go_at_call 14; refine (knows_from H _ (by assumption)).mono ?_; rintro e w1 ⟨rfl, h1⟩))
  all_goals first | (go_ret; exact ⟨rfl, by assumption⟩) | (exfalso; omega)
theorem numDivides_law (a b : Int) (ha : In64 a) (hb : In64 b) (w : World) (hl : Laid w) :
    Calls Tryd.prog 8 #[.int .i64 a, .int .i64 b] w fun e w' => e = .returned (.bool true) ∧ New w w' := by
  cases h1 : (b == 0) with
  | true => exact numDivides_skip a b (.inl h1) w hl
  | false =>
    cases h2 : (a == -9223372036854775808) with
    | true => exact numDivides_skip a b (.inr (.inl ⟨h1, h2⟩)) w hl
    | false =>
      cases h3 : (b == -9223372036854775808) with
      | true => exact numDivides_skip a b (.inr (.inr ⟨h1, h2, h3⟩)) w hl
      | false => exact numDivides_do a b ha hb h1 h2 h3 w hl
end Go.Proofs.YthcjhcofcjmmbaaDoor
