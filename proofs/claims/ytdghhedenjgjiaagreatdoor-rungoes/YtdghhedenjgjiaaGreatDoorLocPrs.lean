/-
  The contract of loc.Parse: for every text; nothing that was in memory has turned.
-/
import Derived.Test.YtdghhedenjgjiaaGreatDoorLocRR
namespace Go.Proofs.YtdghhedenjgjiaaGreatDoor
open Go.RowKit

theorem group_any (r : Int) (w : World) :
    Calls Tryz.prog 95 #[.int .i32 r] w fun e w' => e = .returned (.tuple #[.int .i64 (grpF r), .int .i64 (grpC r)]) ∧ w' = w := by
  unfold grpF grpC
  by_cases h1 : r = 114
  · subst h1
    go_enter Tryz.func95, Tryz.ntmps95
    go_wp2
    go_ret2
    exact ⟨rfl, rfl⟩
  · have e1 := bneq_of h1
    rw [if_neg h1, if_neg h1]
    by_cases h2 : r = 115
    · subst h2
      go_enter Tryz.func95, Tryz.ntmps95
      go_wp2
      go_ret2
      exact ⟨rfl, rfl⟩
    · have e2 := bneq_of h2
      rw [if_neg h2, if_neg h2]
      clear h1 h2
      go_enter Tryz.func95, Tryz.ntmps95
      go_wp2
      go_ret2
      exact ⟨rfl, rfl⟩

set_option maxHeartbeats 1000000 in
theorem appended_any (n r : Int) (hn : -1 ≤ n ∧ n < 16) (hr : 0 ≤ r ∧ r ≤ 2147483647) (w : World) :
    Calls Tryz.prog 96 #[.int .i64 n, .int .i32 r] w fun e w' => e = .returned (.tuple #[.int .i64 (appV n r), .bool (appB n r)]) ∧ w' = w := by
  by_cases h : 48 ≤ r ∧ r ≤ 57 ∧ n ≠ 0
  · have e1 : appB n r = true := by simp only [appB, decide_eq_true_iff]; exact h
    have e2 : appV n r = max n 0 * 10 + (r - 48) := if_pos h
    rw [e1, e2]
    clear e1 e2
    obtain ⟨h1, h2, h3⟩ := h
    have h3' := bneq_of h3
    go_enter Tryz.func96, Tryz.ntmps96
    go_wp2
    go_ret2
    exact ⟨rfl, rfl⟩
  · have e1 : appB n r = false := by simp only [appB, decide_eq_false_iff_not]; exact h
    have e2 : appV n r = 0 := if_neg h
    rw [e1, e2]
    clear e1 e2
    have h' : ¬ ((48 ≤ r ∧ r ≤ 57) ∧ (n == 0) = false) := fun k => h ⟨k.1.1, k.1.2, by simpa using k.2⟩
    have H := Lib.hid h'
    clear h h'
    go_enter Tryz.func96, Tryz.ntmps96
    go_wp2
    all_goals first | (go_ret2; exact ⟨rfl, rfl⟩) | (exfalso; exact H.out (by simp_all)) | trace_state

theorem width_pos (s : ByteArray) (pos : Nat) (h : pos < s.size) : 1 ≤ (Utf8.decode s pos).2 := by
  by_cases hb : (s[pos]'h).toNat < 128
  · rw [decode_ascii s pos h hb]; exact Nat.le_refl _
  · exact (decode_high s pos h (by omega)).2

set_option maxHeartbeats 2000000 in
set_option maxRecDepth 100000 in
theorem parse_scan (s : ByteArray) (_hs : s.size ≤ 281474976710656) (w : World) :
    Calls Tryz.prog 78 #[.string s] w fun e w' => e = .returned (.tuple #[.int .i64 (scan s s.size 0 0 0 (-1)).1, .int .i64 (scan s s.size 0 0 0 (-1)).2]) ∧ New w w' := by
  go_enter Tryz.func78, Tryz.ntmps78
  go_wp2
  go_loopw [4, 5, 6] (fun fv cv nv wr => ∃ (pos fuel : Nat) (f c n : Int), wr = w.iter s pos ∧ fv = .int .i64 f ∧ cv = .int .i64 c ∧ nv = .int .i64 n ∧ Hid (scan s fuel pos f c n = scan s s.size 0 0 0 (-1)) ∧ s.size ≤ pos + fuel ∧ Hid ((0 ≤ f ∧ f ≤ 8) ∧ (0 ≤ c ∧ c ≤ 16) ∧ (-1 ≤ n ∧ n < 16))) (fun _ _ _ wr => s.size - wr.iterPos w.heap.size)
  case atStart => exact ⟨0, s.size, 0, 0, -1, rfl, rfl, rfl, rfl, Lib.hid rfl, by omega, Lib.hid (by omega)⟩
  case round =>
    obtain ⟨pos, fuel, f, c, n, rfl, rfl, rfl, rfl, HS, hb, HB⟩ := hrel
    by_cases hp : pos < s.size
    · have hnx : ∀ ty, (Instr.next (.pointer (some ⟨w.heap.size, 0, none⟩)) true ty).run Tryz.prog (w.iter s pos) = _ := fun ty => run_next_any w s pos ty hp
      have hwd := width_pos s pos hp
      have hle := decode_le s pos
      obtain ⟨fuel, rfl⟩ : ∃ f', fuel = f' + 1 := ⟨fuel - 1, by omega⟩
      go_wp2_with (first | (go_at_call 95; refine (group_any _ _).mono ?_; rintro e w1 ⟨rfl, rfl⟩) | (go_at_call 96; refine (appended_any _ _ HB.out.2.2 ⟨by omega, by omega⟩ _).mono ?_; rintro e w1 ⟨rfl, rfl⟩))
      · go_roundw
        case rel => exact ⟨_, fuel, _, _, n, rfl, rfl, rfl, rfl, Lib.hid ((scan_first hp (by assumption)).symm.trans HS.out), by omega, Lib.hid ⟨(grp_in _).1, (grp_in _).2, HB.out.2.2⟩⟩
        case measure => simp; omega
      · have e : scan s s.size 0 0 0 (-1) = (0, 2) := HS.out.symm.trans (scan_bad hp (by assumption) (fun h => by have h2 := h.2; omega))
        rw [e]
        go_ret2
        exact ⟨rfl, New.iter _ _ _⟩
      · go_roundw
        case rel =>
          have hv : appV n (Utf8.decode s pos).1 < c := by omega
          exact ⟨_, fuel, f, c, _, rfl, rfl, rfl, rfl, Lib.hid ((scan_more hp (by assumption) (by assumption) hv).symm.trans HS.out), by omega, Lib.hid ⟨HB.out.1, HB.out.2.1, appV_in HB.out.2.2.1, by have := HB.out.2.1.2; omega⟩⟩
        case measure => simp; omega
      · have hf : ¬ appB n (Utf8.decode s pos).1 = true := by assumption
        have e : scan s s.size 0 0 0 (-1) = (0, 2) := HS.out.symm.trans (scan_bad hp (by assumption) (fun h => hf h.1))
        rw [e]
        go_ret2
        exact ⟨rfl, New.iter _ _ _⟩
    · have hnx : ∀ ty, (Instr.next (.pointer (some ⟨w.heap.size, 0, none⟩)) true ty).run Tryz.prog (w.iter s pos) = _ := fun ty => run_next_end w s pos ty hp
      have e : scan s s.size 0 0 0 (-1) = fin f n := HS.out.symm.trans (scan_end s _ _ f c n hp)
      have HB' := HB.out
      by_cases hn : n < 0
      · have ef : fin f n = (0, 2) := if_pos hn
        rw [ef] at e
        go_wp2
        try rw [e]
        go_ret2
        exact ⟨rfl, New.iter _ _ _⟩
      · have ef : fin f n = (f + n, 0) := if_neg hn
        rw [ef] at e
        go_wp2
        try rw [e]
        go_ret2
        exact ⟨rfl, New.iter _ _ _⟩
/-- loc.Parse, at every text: the place whose text it is, and 0; or 0 and 2. -/
theorem parse_any (s : ByteArray) (hs : s.size ≤ 281474976710656) (w : World) :
    Calls Tryz.prog 78 #[.string s] w fun e w' => e = .returned (.tuple #[.int .i64 (locN s.data.toList), .int .i64 (locE s.data.toList)]) ∧ New w w' := by
  have h := parse_scan s hs w
  rw [scan_is] at h
  exact h

theorem parse_from {w0 : World} (s : ByteArray) (hs : s.size ≤ 281474976710656) (w : World) (h : New w0 w) :
    Calls Tryz.prog 78 #[.string s] w fun e w' => e = .returned (.tuple #[.int .i64 (locN s.data.toList), .int .i64 (locE s.data.toList)]) ∧ New w0 w' :=
  (parse_any s hs w).mono fun _ _ ⟨he, hw⟩ => ⟨he, h.trans hw⟩
theorem parse_is {w0 : World} (l : List UInt8) (hs : l.length ≤ 1000) (n e : Int) (hn : locN l = n) (he : locE l = e) (w : World) (h : New w0 w) :
    Calls Tryz.prog 78 #[.string ⟨l.toArray⟩] w fun x w' => x = .returned (.tuple #[.int .i64 n, .int .i64 e]) ∧ New w0 w' := by
  have := parse_from (w0 := w0) ⟨l.toArray⟩ (by show l.toArray.size ≤ _; simp; omega) w h
  rw [show (⟨l.toArray⟩ : ByteArray).data.toList = l from by simp, hn, he] at this
  exact this
end Go.Proofs.YtdghhedenjgjiaaGreatDoor
