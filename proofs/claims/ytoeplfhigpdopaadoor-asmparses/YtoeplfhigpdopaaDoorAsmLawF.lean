/-
  'AsmParses': a text is the function that the document says, or the place and the error are told; the place is not beyond the text's end: true, for every input.
-/
import Derived.Test.YtoeplfhigpdopaaDoorAsmKnows
import Derived.Test.YtoeplfhigpdopaaDoorRefAsmB
import Derived.Test.YtoeplfhigpdopaaDoorRefAsmD
namespace Go.Proofs.YtoeplfhigpdopaaDoor
open Go.RowKit

theorem begins_lt : ∀ (l cur : List UInt8) (b : Nat) (f : List I) (bs : List Nat), (∀ p ∈ bs, p ≤ b) → ∀ p ∈ (rdF l cur b f bs).2.2, p ≤ b + cur.length + l.length
  | [], cur, b, f, bs, h, p, hp => by
    rw [rdF] at hp
    have := h p hp
    omega
  | c :: l, cur, b, f, bs, h, p, hp => by
    by_cases hc : c = 10
    · subst hc
      cases hx : prs cur with
      | some x =>
        rw [rd_line hx] at hp
        have := begins_lt l [] (b + cur.length + 1) (f ++ [x]) (bs ++ [b]) (by
          intro q hq
          rcases List.mem_append.mp hq with hq | hq
          · have := h q hq; omega
          · rw [List.mem_singleton.mp hq]; omega) p hp
        simp only [List.length_nil, List.length_cons] at this ⊢
        omega
      | none =>
        rw [rd_stop hx] at hp
        have := h p hp
        omega
    · rw [rdF, if_neg hc] at hp
      have := begins_lt l (cur ++ [c]) b f bs h p hp
      simp only [List.length_append, List.length_cons, List.length_nil] at this ⊢
      omega
theorem place_le (l : List UInt8) : (prsF l).2.1 ≤ l.length := by
  unfold prsF
  split
  · exact Nat.zero_le _
  · split
    · exact (read_text l).2.2.1
    · split
      · exact Nat.zero_le _
      · split
        · exact Nat.zero_le _
        · show (readF l).2.2.getD (chkF (readF l).2.1).1 0 ≤ l.length
          rw [List.getD_eq_getElem?_getD]
          cases e : (readF l).2.2[(chkF (readF l).2.1).1]? with
          | none => exact Nat.zero_le _
          | some p =>
            have := begins_lt l [] 0 [] [] (by simp) p (List.mem_of_getElem? e)
            simpa using this
theorem asmParses_long (s : ByteArray) (h : (25000 : Int) < (s.size : Int)) (w : World) (hl : Laid w) :
    Calls Tryd.prog 5 #[.string s] w fun e w' => e = .returned (.bool true) ∧ New w w' := by
  have HL := Lib.hid hl
  clear hl
  go_enter Tryd.func5, Tryd.ntmps5
  go_wp2_with (go_at_call 10; refine (knows_any _ HL.out).mono ?_; rintro e w1 ⟨rfl, hn1⟩)
  go_ret
  exact ⟨rfl, hn1⟩
set_option maxHeartbeats 2000000 in
theorem asmParses_in (s : ByteArray) (hs : s.size ≤ 25000) (w : World) (hl : Laid w) :
    Calls Tryd.prog 5 #[.string s] w fun e w' => e = .returned (.bool true) ∧ New w w' := by
  have HL := Lib.hid hl
  have q1 : ¬ (25000 : Int) < (s.size : Int) := by omega
  have HP := Lib.hid (fun w hl => asmParse_any s w hl)
  have HR := Lib.hid (rasmParse_any s)
  have hpl := place_le s.data.toList
  rw [size_list] at hpl
  have HF9 : Hid ((prsF s.data.toList).1.length ≤ 1000000) := Lib.hid (by have := prsF_few s.data.toList; omega)
  generalize prsF s.data.toList = R at *
  obtain ⟨f, k, e0⟩ := R
  simp only at HP HR hpl HF9
  have sm : sameF f f = true := sameF_iff.mpr rfl
  have g2 : (k : Int) ≤ (s.size : Int) := by omega
  clear hl hs hpl
  go_enter Tryd.func5, Tryd.ntmps5
  go_wp2_with (first
    | (go_at_call 17; refine (HP.out _ HL.out).mono ?_; rintro e w1 ⟨v1, rfl, hf1, hn1⟩; have HF1 := Lib.hid hf1; clear hf1)
    | (go_at_call 18; refine (HR.out _).mono ?_; rintro e w2 ⟨v2, rfl, hf2, hn2⟩; have HF2 := Lib.hid hf2; clear hf2)
    | (go_at_call 19; refine (same_any v1 v2 f f HF9.out _ (HF1.out.new hn2) HF2.out).mono ?_; rw [sm]; rintro e w3 ⟨rfl, hn3⟩)
    | (go_at_call 10; refine (knows_any _ (((HL.out.new hn1).new hn2).new hn3)).mono ?_; rintro e w4 ⟨rfl, hn4⟩))
  go_ret
  exact ⟨rfl, ((hn1.trans hn2).trans hn3).trans hn4⟩
theorem asmParses_law (s : ByteArray) (_hs : s.size ≤ maxLen) (w : World) (hl : Laid w) :
    Calls Tryd.prog 5 #[.string s] w fun e w' => e = .returned (.bool true) ∧ New w w' := by
  by_cases h2 : s.size ≤ 25000
  · exact asmParses_in s h2 w hl
  · exact asmParses_long s (by omega) w hl
end Go.Proofs.YtoeplfhigpdopaaDoor
