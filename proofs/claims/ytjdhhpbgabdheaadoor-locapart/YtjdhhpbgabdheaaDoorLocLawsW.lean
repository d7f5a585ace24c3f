/-
  The walks of layer 2's laws: each answers true, whatever is handed in; nothing that was in memory has turned.
-/
import Derived.Test.YtjdhhpbgabdheaaDoorLocKnows
import Derived.Test.YtjdhhpbgabdheaaDoorLocRef
namespace Go.Proofs.YtjdhhpbgabdheaaDoor
open Go.RowKit

theorem locE_of {l : List UInt8} {o : Option Nat} (h : locOf l = o) : locE l = (if o.isSome then 0 else 2) := by unfold locE; rw [h]
theorem locN_of {l : List UInt8} {o : Option Nat} (h : locOf l = o) : locN l = ((o.getD 0 : Nat) : Int) := by unfold locN; rw [h]

set_option maxHeartbeats 1000000 in
theorem locTexts_law (l : Int) (hl : In64 l) (w : World) :
    Calls Tryd.prog 3 #[.int .i64 l] w fun e w' => e = .returned (.bool true) ∧ New w w' := by
  have h0 := New.refl w
  by_cases h : 0 ≤ l ∧ l < 24
  · have hR : rightB l = true := by simp only [rightB, decide_eq_true_iff]; exact h
    have hG : regB l = decide (l < 8) := by unfold regB; simp [h.1]
    have hV := textV_in h
    have hE := textE_in h
    obtain ⟨k, rfl⟩ : ∃ k : Nat, l = k := ⟨l.toNat, by omega⟩
    have hc := refLoc_from (w0 := w) k (by omega)
    have H := Lib.hid hc
    rw [Int.toNat_natCast] at hV
    have ht : ((locB k).toList == (locB k).toList) = true := by simp
    clear hc hl
    obtain ⟨ha, hb⟩ := h
    by_cases h8 : (k : Int) < 8
    all_goals
      simp only [h8, decide_true, decide_false] at hG
      go_enter Tryd.func3, Tryd.ntmps3
      go_wp2_with (first
        | (go_at_call 8; refine (text_from _ _ (by assumption)).mono ?_; rintro e w1 ⟨rfl, h1⟩)
        | (go_at_call 9; refine (right_from _ _ (by assumption)).mono ?_; rintro e w1 ⟨rfl, h1⟩)
        | (go_at_call 10; refine (reg_from _ _ (by assumption)).mono ?_; rintro e w1 ⟨rfl, h1⟩)
        | (go_at_call 12; refine (H.out _ (by assumption)).mono ?_; rintro e w1 ⟨rfl, h1⟩)
        | (go_at_call 11; refine (knows_from _ (by assumption)).mono ?_; rintro e w1 ⟨rfl, h1⟩))
      go_ret
      exact ⟨rfl, by assumption⟩
  · have hR : rightB l = false := by simp only [rightB, decide_eq_false_iff_not]; exact h
    have hG : regB l = false := by simp only [regB, decide_eq_false_iff_not]; omega
    have hV := textV_out h
    have hE := textE_out h
    clear hl
    by_cases ha : l < 0
    · have ha' : ¬ 0 ≤ l := by omega
      clear h
      go_enter Tryd.func3, Tryd.ntmps3
      go_wp2_with (first
        | (go_at_call 8; refine (text_from _ _ (by assumption)).mono ?_; rintro e w1 ⟨rfl, h1⟩)
        | (go_at_call 9; refine (right_from _ _ (by assumption)).mono ?_; rintro e w1 ⟨rfl, h1⟩)
        | (go_at_call 10; refine (reg_from _ _ (by assumption)).mono ?_; rintro e w1 ⟨rfl, h1⟩)
        | (go_at_call 11; refine (knows_from _ (by assumption)).mono ?_; rintro e w1 ⟨rfl, h1⟩))
      go_ret
      exact ⟨rfl, by assumption⟩
    · have ha' : 0 ≤ l := by omega
      have hb' : ¬ l < 24 := by omega
      have hc' : ¬ l < 8 := by omega
      have hd' : 23 < l := by omega
      clear h
      go_enter Tryd.func3, Tryd.ntmps3
      go_wp2_with (first
        | (go_at_call 8; refine (text_from _ _ (by assumption)).mono ?_; rintro e w1 ⟨rfl, h1⟩)
        | (go_at_call 9; refine (right_from _ _ (by assumption)).mono ?_; rintro e w1 ⟨rfl, h1⟩)
        | (go_at_call 10; refine (reg_from _ _ (by assumption)).mono ?_; rintro e w1 ⟨rfl, h1⟩)
        | (go_at_call 11; refine (knows_from _ (by assumption)).mono ?_; rintro e w1 ⟨rfl, h1⟩))
      go_ret
      exact ⟨rfl, by assumption⟩

set_option maxHeartbeats 1000000 in
theorem locParses_law (s : ByteArray) (_hs : s.size ≤ maxLen) (w : World) :
    Calls Tryd.prog 4 #[.string s] w fun e w' => e = .returned (.bool true) ∧ New w w' := by
  have h0 := New.refl w
  by_cases hz : 1000 < s.size
  · have hz' : 1000 < (s.size : Int) := by omega
    clear hz
    go_enter Tryd.func4, Tryd.ntmps4
    go_wp2_with (go_at_call 11; refine (knows_from _ (by assumption)).mono ?_; rintro e w1 ⟨rfl, h1⟩)
    go_ret
    exact ⟨rfl, by assumption⟩
  · have hz' : ¬ 1000 < (s.size : Int) := by omega
    have hc := parse_from (w0 := w) s (by omega)
    have H := Lib.hid hc
    have hc2 := refParse_from (w0 := w) s
    have H2 := Lib.hid hc2
    clear hc hc2 _hs hz
    cases ho : locOf s.data.toList with
    | none =>
      have e1 := locE_of ho
      have e2 := locN_of ho
      have e3 : (locOf s.data.toList).isSome = false := by rw [ho]; rfl
      simp only [Option.isSome_none, Bool.false_eq_true, if_false, Option.getD_none] at e1 e2
      clear ho
      go_enter Tryd.func4, Tryd.ntmps4
      go_wp2_with (first
        | (go_at_call 13; refine (H.out _ (by assumption)).mono ?_; rintro e w1 ⟨rfl, h1⟩)
        | (go_at_call 14; refine (H2.out _ (by assumption)).mono ?_; rintro e w1 ⟨rfl, h1⟩)
        | (go_at_call 11; refine (knows_from _ (by assumption)).mono ?_; rintro e w1 ⟨rfl, h1⟩))
      go_ret
      exact ⟨rfl, by assumption⟩
    | some k =>
      have e1 := locE_of ho
      have e3 : (locOf s.data.toList).isSome = true := by rw [ho]; rfl
      simp only [Option.isSome_some, if_true] at e1
      clear ho
      go_enter Tryd.func4, Tryd.ntmps4
      go_wp2_with (first
        | (go_at_call 13; refine (H.out _ (by assumption)).mono ?_; rintro e w1 ⟨rfl, h1⟩)
        | (go_at_call 14; refine (H2.out _ (by assumption)).mono ?_; rintro e w1 ⟨rfl, h1⟩)
        | (go_at_call 11; refine (knows_from _ (by assumption)).mono ?_; rintro e w1 ⟨rfl, h1⟩))
      go_ret
      exact ⟨rfl, by assumption⟩
end Go.Proofs.YtjdhhpbgabdheaaDoor
