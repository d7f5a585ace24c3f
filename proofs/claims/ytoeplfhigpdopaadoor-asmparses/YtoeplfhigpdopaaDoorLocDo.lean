/-
  The contracts of loc.Right, loc.Reg, loc.Text and loc.Parse, and of the law's own examples ('knows'): for every number and every text; nothing that was in memory has turned.
-/
import Derived.Test.YtoeplfhigpdopaaDoorProg
import Derived.Test.YtoeplfhigpdopaaDoorShelf
import Derived.Test.YtoeplfhigpdopaaDoorLocMath
namespace Go.Proofs.YtoeplfhigpdopaaDoor
open Go.RowKit

def rightB (l : Int) : Bool := decide (0 ≤ l ∧ l < 24)
def regB (l : Int) : Bool := decide (0 ≤ l ∧ l < 8)

theorem right_any (l : Int) (w : World) :
    Calls Tryd.prog 53 #[.int .i64 l] w fun e w' => e = .returned (.bool (rightB l)) ∧ w' = w := by
  by_cases h0 : 0 ≤ l
  · by_cases h1 : l < 24
    · have e : rightB l = true := by simp [rightB, h0, h1]
      rw [e]
      go_enter Tryd.func53, Tryd.ntmps53
      go_wp2
      go_ret
      simp [*]
    · have e : rightB l = false := by simp [rightB, h1]
      rw [e]
      go_enter Tryd.func53, Tryd.ntmps53
      go_wp2
      go_ret
      simp [*]
  · have e : rightB l = false := by simp [rightB, h0]
    rw [e]
    go_enter Tryd.func53, Tryd.ntmps53
    go_wp2
    go_ret
    simp [*]
theorem reg_any (l : Int) (w : World) :
    Calls Tryd.prog 54 #[.int .i64 l] w fun e w' => e = .returned (.bool (regB l)) ∧ w' = w := by
  by_cases h0 : 0 ≤ l
  · by_cases h1 : l < 8
    · have e : regB l = true := by simp [regB, h0, h1]
      rw [e]
      go_enter Tryd.func54, Tryd.ntmps54
      go_wp2
      go_ret
      simp [*]
    · have e : regB l = false := by simp [regB, h1]
      rw [e]
      go_enter Tryd.func54, Tryd.ntmps54
      go_wp2
      go_ret
      simp [*]
  · have e : regB l = false := by simp [regB, h0]
    rw [e]
    go_enter Tryd.func54, Tryd.ntmps54
    go_wp2
    go_ret
    simp [*]

def textV (l : Int) : ByteArray := if 0 ≤ l ∧ l < 24 then locB l.toNat else ⟨#[]⟩
def textE (l : Int) : Int := if 0 ≤ l ∧ l < 24 then 0 else 1
theorem textV_in {l : Int} (h : 0 ≤ l ∧ l < 24) : textV l = locB l.toNat := if_pos h
theorem textE_in {l : Int} (h : 0 ≤ l ∧ l < 24) : textE l = 0 := if_pos h
theorem textV_out {l : Int} (h : ¬ (0 ≤ l ∧ l < 24)) : textV l = ⟨#[]⟩ := if_neg h
theorem textE_out {l : Int} (h : ¬ (0 ≤ l ∧ l < 24)) : textE l = 1 := if_neg h

theorem ret_text {a b : ByteArray} {j : IntKind} {c d : Int} (h : a.data.toList = b.data.toList) (h' : c = d) : Ending.returned (.tuple #[.string a, .int j c]) = .returned (.tuple #[.string b, .int j d]) := by rw [bytes_eq h, h']
theorem digs_small {k : Nat} (h : k < 100) : ¬ 9223372036854775807 < 1 + (Lib.decDigits k).length := by
  by_cases h1 : k < 10
  · rw [Lib.decDigits_one h1]; simp
  · rw [Lib.decDigits_two h1 h]; simp

theorem text_out (l : Int) (h : ¬ (0 ≤ l ∧ l < 24)) (w : World) :
    Calls Tryd.prog 57 #[.int .i64 l] w fun e w' => e = .returned (.tuple #[.string (textV l), .int .i64 (textE l)]) ∧ w' = w := by
  have hr : rightB l = false := by simp only [rightB, decide_eq_false_iff_not]; exact h
  rw [textV_out h, textE_out h]
  clear h
  go_enter Tryd.func57, Tryd.ntmps57
  go_wp2_with (go_at_call 53; refine (right_any _ _).mono ?_; rintro e w1 ⟨rfl, rfl⟩)
  go_ret2
  exact ⟨rfl, rfl⟩
theorem text_reg (k : Nat) (h : k < 8) (w : World) :
    Calls Tryd.prog 57 #[.int .i64 k] w fun e w' => e = .returned (.tuple #[.string (textV k), .int .i64 (textE k)]) ∧ w' = w := by
  have hr : rightB k = true := by simp only [rightB, decide_eq_true_iff]; omega
  have hg : regB k = true := by simp only [regB, decide_eq_true_iff]; omega
  have hz := digs_small (k := k) (by omega)
  rw [textV_in (by omega), textE_in (by omega)]
  go_enter Tryd.func57, Tryd.ntmps57
  go_wp2_with (first | (go_at_call 53; refine (right_any _ _).mono ?_; rintro e w1 ⟨rfl, rfl⟩) | (go_at_call 54; refine (reg_any _ _).mono ?_; rintro e w1 ⟨rfl, rfl⟩) | (go_at_call 64; refine (Tryd.strconv_Itoa_small k (by omega) _).mono ?_; rintro e w1 ⟨rfl, rfl⟩))
  go_ret2
  refine ⟨ret_text ?_ rfl, rfl⟩
  rw [ByteArray.data_append, Array.toList_append, locB_toList, locL, if_pos (by omega)]
  simp
theorem text_slot (k : Nat) (h : k < 16) (w : World) :
    Calls Tryd.prog 57 #[.int .i64 ((k : Int) + 8)] w fun e w' => e = .returned (.tuple #[.string (textV ((k : Int) + 8)), .int .i64 (textE ((k : Int) + 8))]) ∧ w' = w := by
  have hr : rightB ((k : Int) + 8) = true := by simp only [rightB, decide_eq_true_iff]; omega
  have hg : regB ((k : Int) + 8) = false := by simp only [regB, decide_eq_false_iff_not]; omega
  have hz := digs_small (k := k) (by omega)
  have hs : wrap64 ((k : Int) + 8 - 8) = (k : Int) := by unfold wrap64; omega
  have hs' : IntKind.i64.wrap ((k : Int) + 8 - 8) = (k : Int) := by rw [IntKind.wrap_i64]; omega
  rw [textV_in (by omega), textE_in (by omega)]
  go_enter Tryd.func57, Tryd.ntmps57
  go_wp2_with (first | (go_at_call 53; refine (right_any _ _).mono ?_; rintro e w1 ⟨rfl, rfl⟩) | (go_at_call 54; refine (reg_any _ _).mono ?_; rintro e w1 ⟨rfl, rfl⟩) | (go_at_call 64; refine (Tryd.strconv_Itoa_small k (by omega) _).mono ?_; rintro e w1 ⟨rfl, rfl⟩))
  go_ret2
  refine ⟨ret_text ?_ rfl, rfl⟩
  rw [ByteArray.data_append, Array.toList_append, locB_toList, locL, if_neg (by omega), show (((k : Int) + 8).toNat - 8) = k from by omega]
  simp
/-- loc.Text, at every number. -/
theorem text_any (l : Int) (w : World) :
    Calls Tryd.prog 57 #[.int .i64 l] w fun e w' => e = .returned (.tuple #[.string (textV l), .int .i64 (textE l)]) ∧ w' = w := by
  by_cases h : 0 ≤ l ∧ l < 24
  · by_cases h8 : l < 8
    · obtain ⟨k, rfl⟩ : ∃ k : Nat, l = k := ⟨l.toNat, by omega⟩
      exact text_reg k (by omega) w
    · obtain ⟨k, rfl⟩ : ∃ k : Nat, l = (k : Int) + 8 := ⟨(l - 8).toNat, by omega⟩
      exact text_slot k (by omega) w
  · exact text_out l h w

theorem group_any (r : Int) (w : World) :
    Calls Tryd.prog 67 #[.int .i32 r] w fun e w' => e = .returned (.tuple #[.int .i64 (grpF r), .int .i64 (grpC r)]) ∧ w' = w := by
  unfold grpF grpC
  by_cases h1 : r = 114
  · subst h1
    go_enter Tryd.func67, Tryd.ntmps67
    go_wp2
    go_ret2
    exact ⟨rfl, rfl⟩
  · have e1 := bneq_of h1
    rw [if_neg h1, if_neg h1]
    by_cases h2 : r = 115
    · subst h2
      go_enter Tryd.func67, Tryd.ntmps67
      go_wp2
      go_ret2
      exact ⟨rfl, rfl⟩
    · have e2 := bneq_of h2
      rw [if_neg h2, if_neg h2]
      clear h1 h2
      go_enter Tryd.func67, Tryd.ntmps67
      go_wp2
      go_ret2
      exact ⟨rfl, rfl⟩

set_option maxHeartbeats 1000000 in
theorem appended_any (n r : Int) (hn : -1 ≤ n ∧ n < 16) (hr : 0 ≤ r ∧ r ≤ 2147483647) (w : World) :
    Calls Tryd.prog 68 #[.int .i64 n, .int .i32 r] w fun e w' => e = .returned (.tuple #[.int .i64 (appV n r), .bool (appB n r)]) ∧ w' = w := by
  by_cases h : 48 ≤ r ∧ r ≤ 57 ∧ n ≠ 0
  · have e1 : appB n r = true := by simp only [appB, decide_eq_true_iff]; exact h
    have e2 : appV n r = max n 0 * 10 + (r - 48) := if_pos h
    rw [e1, e2]
    clear e1 e2
    obtain ⟨h1, h2, h3⟩ := h
    have h3' := bneq_of h3
    go_enter Tryd.func68, Tryd.ntmps68
    go_wp2
    go_ret2
    exact ⟨rfl, rfl⟩
  · have e1 : appB n r = false := by simp only [appB, decide_eq_false_iff_not]; exact h
    have e2 : appV n r = 0 := if_neg h
    rw [e1, e2]
    clear e1 e2
    have h' : ¬ ((48 ≤ r ∧ r ≤ 57) ∧ (n == 0) = false) := fun k => h ⟨k.1.1, k.1.2, by simpa using k.2⟩
    have H := Lib.hid h'
    clear h h'
    go_enter Tryd.func68, Tryd.ntmps68
    go_wp2
    all_goals first | (go_ret2; exact ⟨rfl, rfl⟩) | (exfalso; exact H.out (by simp_all)) | trace_state

theorem width_pos (s : ByteArray) (pos : Nat) (h : pos < s.size) : 1 ≤ (Utf8.decode s pos).2 := by
  by_cases hb : (s[pos]'h).toNat < 128
  · rw [decode_ascii s pos h hb]; exact Nat.le_refl _
  · exact (decode_high s pos h (by omega)).2

set_option maxHeartbeats 2000000 in
set_option maxRecDepth 100000 in
theorem parse_scan (s : ByteArray) (_hs : s.size ≤ 281474976710656) (w : World) :
    Calls Tryd.prog 62 #[.string s] w fun e w' => e = .returned (.tuple #[.int .i64 (scan s s.size 0 0 0 (-1)).1, .int .i64 (scan s s.size 0 0 0 (-1)).2]) ∧ New w w' := by
  go_enter Tryd.func62, Tryd.ntmps62
  go_wp2
  go_loopw [4, 5, 6] (fun fv cv nv wr => ∃ (pos fuel : Nat) (f c n : Int), wr = w.iter s pos ∧ fv = .int .i64 f ∧ cv = .int .i64 c ∧ nv = .int .i64 n ∧ Hid (scan s fuel pos f c n = scan s s.size 0 0 0 (-1)) ∧ s.size ≤ pos + fuel ∧ Hid ((0 ≤ f ∧ f ≤ 8) ∧ (0 ≤ c ∧ c ≤ 16) ∧ (-1 ≤ n ∧ n < 16))) (fun _ _ _ wr => s.size - wr.iterPos w.heap.size)
  case atStart => exact ⟨0, s.size, 0, 0, -1, rfl, rfl, rfl, rfl, Lib.hid rfl, by omega, Lib.hid (by omega)⟩
  case round =>
    obtain ⟨pos, fuel, f, c, n, rfl, rfl, rfl, rfl, HS, hb, HB⟩ := hrel
    by_cases hp : pos < s.size
    · have hnx : ∀ ty, (Instr.next (.pointer (some ⟨w.heap.size, 0, none⟩)) true ty).run Tryd.prog (w.iter s pos) = _ := fun ty => run_next_any w s pos ty hp
      have hwd := width_pos s pos hp
      have hle := decode_le s pos
      obtain ⟨fuel, rfl⟩ : ∃ f', fuel = f' + 1 := ⟨fuel - 1, by omega⟩
      go_wp2_with (first | (go_at_call 67; refine (group_any _ _).mono ?_; rintro e w1 ⟨rfl, rfl⟩) | (go_at_call 68; refine (appended_any _ _ HB.out.2.2 ⟨by omega, by omega⟩ _).mono ?_; rintro e w1 ⟨rfl, rfl⟩))
      · go_roundw
        case rel => exact ⟨_, fuel, _, _, n, rfl, rfl, rfl, rfl, Lib.hid ((scan_first hp (by assumption)).symm.trans HS.out), by omega, Lib.hid ⟨(grp_in _).1, (grp_in _).2, HB.out.2.2⟩⟩
        case measure => simp; omega
      · have e : scan s s.size 0 0 0 (-1) = (0, 2) := HS.out.symm.trans (scan_bad hp (by assumption) (fun h => by have h2 := h.2; omega))
        rw [e]
        go_ret2
        exact ⟨rfl, New.iter _ _ _⟩
      · go_roundw
        case rel =>
          have hv : appV n (Utf8.decode s pos).1 < c := by omega
          exact ⟨_, fuel, f, c, _, rfl, rfl, rfl, rfl, Lib.hid ((scan_more hp (by assumption) (by assumption) hv).symm.trans HS.out), by omega, Lib.hid ⟨HB.out.1, HB.out.2.1, appV_in HB.out.2.2.1, by have := HB.out.2.1.2; omega⟩⟩
        case measure => simp; omega
      · have hf : ¬ appB n (Utf8.decode s pos).1 = true := by assumption
        have e : scan s s.size 0 0 0 (-1) = (0, 2) := HS.out.symm.trans (scan_bad hp (by assumption) (fun h => hf h.1))
        rw [e]
        go_ret2
        exact ⟨rfl, New.iter _ _ _⟩
    · have hnx : ∀ ty, (Instr.next (.pointer (some ⟨w.heap.size, 0, none⟩)) true ty).run Tryd.prog (w.iter s pos) = _ := fun ty => run_next_end w s pos ty hp
      have e : scan s s.size 0 0 0 (-1) = fin f n := HS.out.symm.trans (scan_end s _ _ f c n hp)
      have HB' := HB.out
      by_cases hn : n < 0
      · have ef : fin f n = (0, 2) := if_pos hn
        rw [ef] at e
        go_wp2
        try rw [e]
        go_ret2
        exact ⟨rfl, New.iter _ _ _⟩
      · have ef : fin f n = (f + n, 0) := if_neg hn
        rw [ef] at e
        go_wp2
        try rw [e]
        go_ret2
        exact ⟨rfl, New.iter _ _ _⟩
/-- loc.Parse, at every text: the place whose text it is, and 0; or 0 and 2. -/
theorem parse_any (s : ByteArray) (hs : s.size ≤ 281474976710656) (w : World) :
    Calls Tryd.prog 62 #[.string s] w fun e w' => e = .returned (.tuple #[.int .i64 (locN s.data.toList), .int .i64 (locE s.data.toList)]) ∧ New w w' := by
  have h := parse_scan s hs w
  rw [scan_is] at h
  exact h

-- seen from an earlier world
theorem right_from {w0 : World} (l : Int) (w : World) (h : New w0 w) :
    Calls Tryd.prog 53 #[.int .i64 l] w fun e w' => e = .returned (.bool (rightB l)) ∧ New w0 w' :=
  (right_any l w).mono fun _ _ ⟨he, hw⟩ => ⟨he, hw ▸ h⟩
theorem reg_from {w0 : World} (l : Int) (w : World) (h : New w0 w) :
    Calls Tryd.prog 54 #[.int .i64 l] w fun e w' => e = .returned (.bool (regB l)) ∧ New w0 w' :=
  (reg_any l w).mono fun _ _ ⟨he, hw⟩ => ⟨he, hw ▸ h⟩
theorem text_from {w0 : World} (l : Int) (w : World) (h : New w0 w) :
    Calls Tryd.prog 57 #[.int .i64 l] w fun e w' => e = .returned (.tuple #[.string (textV l), .int .i64 (textE l)]) ∧ New w0 w' :=
  (text_any l w).mono fun _ _ ⟨he, hw⟩ => ⟨he, hw ▸ h⟩
theorem parse_from {w0 : World} (s : ByteArray) (hs : s.size ≤ 281474976710656) (w : World) (h : New w0 w) :
    Calls Tryd.prog 62 #[.string s] w fun e w' => e = .returned (.tuple #[.int .i64 (locN s.data.toList), .int .i64 (locE s.data.toList)]) ∧ New w0 w' :=
  (parse_any s hs w).mono fun _ _ ⟨he, hw⟩ => ⟨he, h.trans hw⟩
theorem parse_is {w0 : World} (l : List UInt8) (hs : l.length ≤ 1000) (n e : Int) (hn : locN l = n) (he : locE l = e) (w : World) (h : New w0 w) :
    Calls Tryd.prog 62 #[.string ⟨l.toArray⟩] w fun x w' => x = .returned (.tuple #[.int .i64 n, .int .i64 e]) ∧ New w0 w' := by
  have := parse_from (w0 := w0) ⟨l.toArray⟩ (by show l.toArray.size ≤ _; simp; omega) w h
  rw [show (⟨l.toArray⟩ : ByteArray).data.toList = l from by simp, hn, he] at this
  exact this
end Go.Proofs.YtoeplfhigpdopaaDoor
