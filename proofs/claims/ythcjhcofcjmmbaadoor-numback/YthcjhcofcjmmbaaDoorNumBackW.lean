/-
  The law NumBack: digits are read as the number, and what was read has just these digits.
-/
import Derived.Test.YthcjhcofcjmmbaaDoorNumLawsW
import Derived.Test.YthcjhcofcjmmbaaDoorNumTextMath
namespace Go.Proofs.YthcjhcofcjmmbaaDoor
open Go.RowKit

theorem parseV_itoa {n : Int} (h : In64 n) : parseV (Lib.itoa n) = some n := by
  unfold parseV; rw [parse_itoa h]; simp
theorem parseV_some {l : List UInt8} {v : Int} (h : parseV l = some v) : In64 v ∧ Lib.itoa v = l := by
  unfold parseV at h
  split at h
  · rename_i u hu
    split at h
    · rename_i e
      cases h
      exact ⟨parseIntB_in hu, e⟩
    · cases h
  · cases h
theorem textB_size {n : Int} (h : In64 n) : (textB n).size ≤ 20 := by
  have := itoa_len h
  show (Lib.itoa n).toArray.size ≤ 20
  simpa using this

theorem parse_text {w0 : World} (hl : Hid (Laid w0)) (n : Int) (h : Hid (In64 n)) (w : World) (hn : New w0 w) :
    Calls Tryd.prog 15 #[.string (textB n)] w fun e w' => e = .returned (.tuple #[.int .i64 n, .int .i64 0]) ∧ New w0 w' := by
  have hp := parse_any (textB n) (by have := textB_size h.out; omega) w (hl.out.new hn)
  have e : parseV (textB n).data.toList = some n := by rw [textB_toList]; exact parseV_itoa h.out
  rw [show parN (textB n).data.toList = n from by unfold parN; rw [e]; rfl, show parE (textB n).data.toList = 0 from by unfold parE; rw [e]; rfl] at hp
  exact hp.mono fun _ _ ⟨a, b⟩ => ⟨a, hn.trans b⟩
theorem parse_some {w0 : World} (hl : Hid (Laid w0)) (s : ByteArray) (hs : Hid (s.size ≤ 1000)) (v : Int) (h : Hid (parseV s.data.toList = some v)) (w : World) (hn : New w0 w) :
    Calls Tryd.prog 15 #[.string s] w fun e w' => e = .returned (.tuple #[.int .i64 v, .int .i64 0]) ∧ New w0 w' := by
  have hp := parse_any s (Nat.le_trans hs.out (by decide)) w (hl.out.new hn)
  rw [show parN s.data.toList = v from by unfold parN; rw [h.out]; rfl, show parE s.data.toList = 0 from by unfold parE; rw [h.out]; rfl] at hp
  exact hp.mono fun _ _ ⟨a, b⟩ => ⟨a, hn.trans b⟩
theorem parse_none {w0 : World} (hl : Hid (Laid w0)) (s : ByteArray) (hs : Hid (s.size ≤ 1000)) (h : Hid (parseV s.data.toList = none)) (w : World) (hn : New w0 w) :
    Calls Tryd.prog 15 #[.string s] w fun e w' => e = .returned (.tuple #[.int .i64 0, .int .i64 2]) ∧ New w0 w' := by
  have hp := parse_any s (Nat.le_trans hs.out (by decide)) w (hl.out.new hn)
  rw [show parN s.data.toList = 0 from by unfold parN; rw [h.out]; rfl, show parE s.data.toList = 2 from by unfold parE; rw [h.out]; rfl] at hp
  exact hp.mono fun _ _ ⟨a, b⟩ => ⟨a, hn.trans b⟩
theorem text_from {w0 : World} (hl : Hid (Laid w0)) (n : Int) (h : Hid (In64 n)) (w : World) (hn : New w0 w) :
    Calls Tryd.prog 17 #[.int .i64 n] w fun e w' => e = .returned (.string (textB n)) ∧ New w0 w' :=
  (text_any n h.out w (hl.out.new hn)).mono fun _ _ ⟨a, b⟩ => ⟨a, hn.trans b⟩

theorem numBack_long (n : Int) (s : ByteArray) (h : (1000 : Int) < (s.size : Int)) (w : World) (hl : Laid w) :
    Calls Tryd.prog 5 #[.int .i64 n, .string s] w fun e w' => e = .returned (.bool true) ∧ New w w' := by
  have H := Lib.hid hl
  have h0 := New.refl w
  clear hl
  go_enter Tryd.func5, Tryd.ntmps5
  go_wp2_with (go_at_call 14; refine (knows_from H _ (by assumption)).mono ?_; rintro e w1 ⟨rfl, h1⟩)
  go_ret
  exact ⟨rfl, by assumption⟩
set_option maxHeartbeats 1000000 in
theorem numBack_none (n : Int) (hn : In64 n) (s : ByteArray) (h : s.size ≤ 1000) (hp : parseV s.data.toList = none) (w : World) (hl : Laid w) :
    Calls Tryd.prog 5 #[.int .i64 n, .string s] w fun e w' => e = .returned (.bool true) ∧ New w w' := by
  have H := Lib.hid hl
  have HN := Lib.hid hn
  have HS := Lib.hid h
  have HP := Lib.hid hp
  have h0 := New.refl w
  have hlen : ¬ (1000 : Int) < (s.size : Int) := by omega
  clear hl hn hp h
  go_enter Tryd.func5, Tryd.ntmps5
  go_wp2_with (go_at_call 17; refine (text_from H _ HN _ (by assumption)).mono ?_; rintro e w1 ⟨rfl, h1⟩)
  refine (parse_text H _ HN _ (by assumption)).mono ?_
  rintro e w2 ⟨rfl, h2⟩
  go_wp2_with fail
  refine (parse_none H _ HS HP _ (by assumption)).mono ?_
  rintro e w3 ⟨rfl, h3⟩
  go_wp2_with (go_at_call 14; refine (knows_from H _ (by assumption)).mono ?_; rintro e w4 ⟨rfl, h4⟩)
  go_ret
  exact ⟨rfl, by assumption⟩
set_option maxHeartbeats 1000000 in
theorem numBack_some (n : Int) (hn : In64 n) (s : ByteArray) (h : s.size ≤ 1000) (v : Int) (hp : parseV s.data.toList = some v) (w : World) (hl : Laid w) :
    Calls Tryd.prog 5 #[.int .i64 n, .string s] w fun e w' => e = .returned (.bool true) ∧ New w w' := by
  have H := Lib.hid hl
  have HN := Lib.hid hn
  have HS := Lib.hid h
  have HP := Lib.hid hp
  obtain ⟨hv, hi⟩ := parseV_some hp
  have HV := Lib.hid hv
  have ht : ((textB v).toList == s.toList) = true := str_beq (decide_eq_true (by rw [textB_toList]; exact hi))
  have h0 := New.refl w
  have hlen : ¬ (1000 : Int) < (s.size : Int) := by omega
  clear hl hn hp h hv hi
  go_enter Tryd.func5, Tryd.ntmps5
  go_wp2_with (go_at_call 17; refine (text_from H _ HN _ (by assumption)).mono ?_; rintro e w1 ⟨rfl, h1⟩)
  refine (parse_text H _ HN _ (by assumption)).mono ?_
  rintro e w2 ⟨rfl, h2⟩
  go_wp2_with fail
  refine (parse_some H _ HS _ HP _ (by assumption)).mono ?_
  rintro e w3 ⟨rfl, h3⟩
  go_wp2_with (first | (go_at_call 17; refine (text_from H _ HV _ (by assumption)).mono ?_; rintro e w4 ⟨rfl, h4⟩) | (go_at_call 14; refine (knows_from H _ (by assumption)).mono ?_; rintro e w4 ⟨rfl, h4⟩))
  go_ret
  exact ⟨rfl, by assumption⟩
theorem numBack_law (n : Int) (s : ByteArray) (hn : In64 n) (_hs : s.size ≤ maxLen) (w : World) (hl : Laid w) :
    Calls Tryd.prog 5 #[.int .i64 n, .string s] w fun e w' => e = .returned (.bool true) ∧ New w w' := by
  by_cases h : s.size ≤ 1000
  · cases hp : parseV s.data.toList with
    | none => exact numBack_none n hn s h hp w hl
    | some v => exact numBack_some n hn s h v hp w hl
  · exact numBack_long n s (by omega) w hl
end Go.Proofs.YthcjhcofcjmmbaaDoor
