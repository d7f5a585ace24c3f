/-
  The walks of layer 2's laws LocBack, LocApart and LocFew.
-/
import Derived.Test.YtjdhhpbgabdheaaDoorLocLawsW
namespace Go.Proofs.YtjdhhpbgabdheaaDoor
open Go.RowKit

theorem locB_size {k : Nat} (h : k < 24) : (locB k).size ≤ 3 := by
  show (locL k).toArray.size ≤ 3
  have := (locL_size k h).2
  simpa using this
theorem locB_parse {w0 : World} (k : Nat) (h : k < 24) (w : World) (hw : New w0 w) :
    Calls Tryd.prog 13 #[.string (locB k)] w fun e w' => e = .returned (.tuple #[.int .i64 k, .int .i64 0]) ∧ New w0 w' := by
  have hc := parse_from (w0 := w0) (locB k) (by have := locB_size h; omega) w hw
  rw [locB_toList, locN_of (locOf_text k h), locE_of (locOf_text k h)] at hc
  exact hc

set_option maxHeartbeats 2000000 in
theorem locBack_big (l : Int) (s : ByteArray) (hz : 1000 < (s.size : Int)) (w : World) :
    Calls Tryd.prog 5 #[.int .i64 l, .string s] w fun e w' => e = .returned (.bool true) ∧ New w w' := by
  have h0 := New.refl w
  go_enter Tryd.func5, Tryd.ntmps5
  go_wp2_with (go_at_call 11; refine (knows_from _ (by assumption)).mono ?_; rintro e w1 ⟨rfl, h1⟩)
  go_ret
  exact ⟨rfl, by assumption⟩

set_option maxHeartbeats 2000000 in
theorem locBack_out (l : Int) (hl : ¬ (0 ≤ l ∧ l < 24)) (s : ByteArray) (hz : ¬ 1000 < (s.size : Int)) (w : World) :
    Calls Tryd.prog 5 #[.int .i64 l, .string s] w fun e w' => e = .returned (.bool true) ∧ New w w' := by
  have h0 := New.refl w
  have hc := parse_from (w0 := w) s (by omega)
  have H := Lib.hid hc
  have hE := textE_out hl
  clear hc hl
  cases ho : locOf s.data.toList with
  | none =>
    have e1 := locE_of ho
    have e2 := locN_of ho
    simp only [Option.isSome_none, Bool.false_eq_true, if_false, Option.getD_none] at e1 e2
    clear ho
    go_enter Tryd.func5, Tryd.ntmps5
    go_wp2_with (first
      | (go_at_call 8; refine (text_from _ _ (by assumption)).mono ?_; rintro e w1 ⟨rfl, h1⟩)
      | (go_at_call 13; refine (H.out _ (by assumption)).mono ?_; rintro e w1 ⟨rfl, h1⟩)
      | (go_at_call 11; refine (knows_from _ (by assumption)).mono ?_; rintro e w1 ⟨rfl, h1⟩))
    go_ret
    exact ⟨rfl, by assumption⟩
  | some k =>
    obtain ⟨hk, hL⟩ := locOf_some ho
    have e1 := locE_of ho
    have e2 := locN_of ho
    simp only [Option.isSome_some, if_true, Option.getD_some] at e1 e2
    have hV := textV_in (l := (k : Int)) (by omega)
    have hE2 := textE_in (l := (k : Int)) (by omega)
    have hsame : locB k = s := bytes_eq (by rw [locB_toList, hL])
    rw [Int.toNat_natCast, hsame] at hV
    have ht : (s.toList == s.toList) = true := by simp
    clear ho hL hsame
    go_enter Tryd.func5, Tryd.ntmps5
    go_wp2_with (first
      | (go_at_call 8; refine (text_from _ _ (by assumption)).mono ?_; rintro e w1 ⟨rfl, h1⟩)
      | (go_at_call 13; refine (H.out _ (by assumption)).mono ?_; rintro e w1 ⟨rfl, h1⟩)
      | (go_at_call 11; refine (knows_from _ (by assumption)).mono ?_; rintro e w1 ⟨rfl, h1⟩))
    go_ret
    exact ⟨rfl, by assumption⟩

set_option maxHeartbeats 2000000 in
theorem locBack_in (j : Nat) (hj : j < 24) (s : ByteArray) (hz : ¬ 1000 < (s.size : Int)) (w : World) :
    Calls Tryd.prog 5 #[.int .i64 j, .string s] w fun e w' => e = .returned (.bool true) ∧ New w w' := by
  have h0 := New.refl w
  have hc := parse_from (w0 := w) s (by omega)
  have H := Lib.hid hc
  have hc2 := locB_parse (w0 := w) j hj
  have H2 := Lib.hid hc2
  have hEj := textE_in (l := (j : Int)) (by omega)
  have hVj := textV_in (l := (j : Int)) (by omega)
  rw [Int.toNat_natCast] at hVj
  clear hc hc2
  cases ho : locOf s.data.toList with
  | none =>
    have e1 := locE_of ho
    have e2 := locN_of ho
    simp only [Option.isSome_none, Bool.false_eq_true, if_false, Option.getD_none] at e1 e2
    clear ho
    go_enter Tryd.func5, Tryd.ntmps5
    go_wp2_with (go_at_call 8; refine (text_from _ _ (by assumption)).mono ?_; rintro e w1 ⟨rfl, h1⟩)
    refine (H2.out _ (by assumption)).mono ?_
    rintro e w1 ⟨rfl, h1⟩
    go_wp2_with (first
      | (go_at_call 13; refine (H.out _ (by assumption)).mono ?_; rintro e w1 ⟨rfl, h1⟩)
      | (go_at_call 11; refine (knows_from _ (by assumption)).mono ?_; rintro e w1 ⟨rfl, h1⟩))
    go_ret
    exact ⟨rfl, by assumption⟩
  | some k =>
    obtain ⟨hk, hL⟩ := locOf_some ho
    have e1 := locE_of ho
    have e2 := locN_of ho
    simp only [Option.isSome_some, if_true, Option.getD_some] at e1 e2
    have hV := textV_in (l := (k : Int)) (by omega)
    have hE2 := textE_in (l := (k : Int)) (by omega)
    have hsame : locB k = s := bytes_eq (by rw [locB_toList, hL])
    rw [Int.toNat_natCast, hsame] at hV
    have ht : (s.toList == s.toList) = true := by simp
    have HV := Lib.hid hV
    clear ho hL hsame hV
    go_enter Tryd.func5, Tryd.ntmps5
    go_wp2_with (go_at_call 8; refine (text_from _ _ (by assumption)).mono ?_; rintro e w1 ⟨rfl, h1⟩)
    refine (H2.out _ (by assumption)).mono ?_
    rintro e w1 ⟨rfl, h1⟩
    have hV := HV.out
    clear hVj
    go_wp2_with (first
      | (go_at_call 8; refine (text_from _ _ (by assumption)).mono ?_; rintro e w1 ⟨rfl, h1⟩)
      | (go_at_call 13; refine (H.out _ (by assumption)).mono ?_; rintro e w1 ⟨rfl, h1⟩)
      | (go_at_call 11; refine (knows_from _ (by assumption)).mono ?_; rintro e w1 ⟨rfl, h1⟩))
    go_ret
    exact ⟨rfl, by assumption⟩

theorem locBack_law (l : Int) (s : ByteArray) (_hl : In64 l) (_hs : s.size ≤ maxLen) (w : World) :
    Calls Tryd.prog 5 #[.int .i64 l, .string s] w fun e w' => e = .returned (.bool true) ∧ New w w' := by
  by_cases hz : 1000 < (s.size : Int)
  · exact locBack_big l s hz w
  · by_cases h : 0 ≤ l ∧ l < 24
    · obtain ⟨k, rfl⟩ : ∃ k : Nat, l = k := ⟨l.toNat, by omega⟩
      exact locBack_in k (by omega) s hz w
    · exact locBack_out l h s hz w

set_option maxHeartbeats 2000000 in
theorem locApart_out (a b : Int) (h : ¬ (0 ≤ a ∧ a < 24) ∨ (0 ≤ a ∧ a < 24) ∧ ¬ (0 ≤ b ∧ b < 24)) (w : World) :
    Calls Tryd.prog 6 #[.int .i64 a, .int .i64 b] w fun e w' => e = .returned (.bool true) ∧ New w w' := by
  have h0 := New.refl w
  rcases h with h | ⟨h, h'⟩
  · have e1 := textE_out h
    have r1 : rightB a = false := by simp only [rightB, decide_eq_false_iff_not]; exact h
    clear h
    go_enter Tryd.func6, Tryd.ntmps6
    go_wp2_with (first
      | (go_at_call 8; refine (text_from _ _ (by assumption)).mono ?_; rintro e w1 ⟨rfl, h1⟩)
      | (go_at_call 9; refine (right_from _ _ (by assumption)).mono ?_; rintro e w1 ⟨rfl, h1⟩)
      | (go_at_call 11; refine (knows_from _ (by assumption)).mono ?_; rintro e w1 ⟨rfl, h1⟩))
    go_ret
    exact ⟨rfl, by assumption⟩
  · have e1 := textE_in h
    have e2 := textE_out h'
    have r1 : rightB a = true := by simp only [rightB, decide_eq_true_iff]; exact h
    have r2 : rightB b = false := by simp only [rightB, decide_eq_false_iff_not]; exact h'
    clear h h'
    go_enter Tryd.func6, Tryd.ntmps6
    go_wp2_with (first
      | (go_at_call 8; refine (text_from _ _ (by assumption)).mono ?_; rintro e w1 ⟨rfl, h1⟩)
      | (go_at_call 9; refine (right_from _ _ (by assumption)).mono ?_; rintro e w1 ⟨rfl, h1⟩)
      | (go_at_call 11; refine (knows_from _ (by assumption)).mono ?_; rintro e w1 ⟨rfl, h1⟩))
    go_ret
    exact ⟨rfl, by assumption⟩

theorem locL_inj : ∀ a < 24, ∀ b < 24, locL a = locL b → a = b := by decide +kernel
theorem locB_beq {a b : Nat} (ha : a < 24) (hb : b < 24) : ((locB a).toList == (locB b).toList) = ((a : Int) == (b : Int)) := by
  apply str_beq
  rw [locB_toList, locB_toList]
  by_cases h : a = b
  · subst h; simp
  · have h1 : locL a ≠ locL b := fun e => h (locL_inj a ha b hb e)
    have h2 : ¬ (a : Int) = (b : Int) := by omega
    simp [h1, h2]
set_option maxHeartbeats 2000000 in
theorem locApart_in (a b : Nat) (ha : a < 24) (hb : b < 24) (w : World) :
    Calls Tryd.prog 6 #[.int .i64 a, .int .i64 b] w fun e w' => e = .returned (.bool true) ∧ New w w' := by
  have h0 := New.refl w
  have e1 := textE_in (l := (a : Int)) (by omega)
  have e2 := textE_in (l := (b : Int)) (by omega)
  have v1 := textV_in (l := (a : Int)) (by omega)
  have v2 := textV_in (l := (b : Int)) (by omega)
  rw [Int.toNat_natCast] at v1 v2
  have hq := locB_beq ha hb
  have hG : regB a = decide (a < 8) := by unfold regB; rw [decide_eq_decide]; omega
  have hz : 0 < ((locB a).size : Int) := by
    have := (locL_size a ha).1
    have h2 : (locB a).size = (locL a).length := by show (locL a).toArray.size = _; simp
    omega
  have hz2 : 0 < (locB a).size := by omega
  have hi : ((locB a)[0]'hz2).toNat = if a < 8 then 114 else 115 := by
    have h3 : (locB a)[0]? = some (if a < 8 then 114 else 115) := by
      show (locB a).data[0]? = _
      rw [← Array.getElem?_toList, locB_toList]
      unfold locL
      split <;> rfl
    rw [getElem?_pos (locB a) 0 hz2] at h3
    rw [Option.some.inj h3]
    split <;> rfl
  by_cases h8 : a < 8
  all_goals
    simp only [h8, decide_true, decide_false, if_true, if_false] at hG hi
    have hi0 : ∀ w, (Instr.index 9 (.string (locB a)) (.int .i64 0)).run Tryd.prog w = .ok (.int .u8 ((locB a)[0]'hz2).toNat) w := fun w => by
      rw [run_index_string w _ _ _ _ (by kernel_rfl), dif_pos (by omega)]; rfl
    rw [hi] at hi0
    go_enter Tryd.func6, Tryd.ntmps6
    go_wp2_with (first
      | (go_at_call 8; refine (text_from _ _ (by assumption)).mono ?_; rintro e w1 ⟨rfl, h1⟩))
    have hne := newW_any w
    refine wp_region_new (w0 := w) (by assumption) (by kernel_rfl) (by kernel_rfl) ?_
    repeat (go_big_quiet_step (first | (go_at_call 10; exact quiet_new (reg_from _ _ (Subtype.property _))) | (go_at_call 11; exact quiet_new (knows_from _ (Subtype.property _)))))
    refine wpQuiet_nil ?_
    intro w2 h2
    go_wp2
    go_ret
    exact ⟨rfl, h2⟩
end Go.Proofs.YtjdhhpbgabdheaaDoor
