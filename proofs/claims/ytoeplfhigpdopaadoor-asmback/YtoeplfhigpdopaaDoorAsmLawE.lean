/-
  'AsmBack': a function's text is read as it, and what was read has just that text: true, for every input.
-/
import Derived.Test.YtoeplfhigpdopaaDoorAsmKnows
import Derived.Test.YtoeplfhigpdopaaDoorRefAsmB
namespace Go.Proofs.YtoeplfhigpdopaaDoor
open Go.RowKit

theorem asmBack_long1 (ao : Option Addr) (n cap : Nat) (s : ByteArray) (h : (300 : Int) < (n : Int)) (w : World) (hl : Laid w) :
    Calls Tryd.prog 6 #[.slice ao n cap, .string s] w fun e w' => e = .returned (.bool true) ∧ New w w' := by
  have HL := Lib.hid hl
  clear hl
  go_enter Tryd.func6, Tryd.ntmps6
  go_wp2_with (go_at_call 10; refine (knows_any _ HL.out).mono ?_; rintro e w1 ⟨rfl, hn1⟩)
  go_ret
  exact ⟨rfl, hn1⟩
theorem asmBack_long2 (ao : Option Addr) (n cap : Nat) (s : ByteArray) (h : ¬ (300 : Int) < (n : Int)) (h' : (25000 : Int) < (s.size : Int)) (w : World) (hl : Laid w) :
    Calls Tryd.prog 6 #[.slice ao n cap, .string s] w fun e w' => e = .returned (.bool true) ∧ New w w' := by
  have HL := Lib.hid hl
  clear hl
  go_enter Tryd.func6, Tryd.ntmps6
  go_wp2_with (go_at_call 10; refine (knows_any _ HL.out).mono ?_; rintro e w1 ⟨rfl, hn1⟩)
  go_ret
  exact ⟨rfl, hn1⟩
/-- What Parse answers of a function's own text. -/
theorem parse_own {f : List I} (hi : ∀ y ∈ f, In64I y) (h : (chkF f).2 = 0) (w : World) (hl : Laid w) :
    Calls Tryd.prog 17 #[.string (prtFB f)] w fun e w' => ∃ v, e = .returned (.tuple #[v, .int .i64 0, .int .i64 0]) ∧ FunAt w' v f ∧ New w w' :=
  (asmParse_any (prtFB f) w hl).mono fun e w' ⟨v, he, hf, hn⟩ => by
    rw [prtFB_list h, prs_prtF hi h] at he hf
    exact ⟨v, he, hf, hn⟩
/-- .. and of a text that is none's. -/
theorem parse_nones (s : ByteArray) (h : ¬ (prsF s.data.toList).2.2 = 0) (w : World) (hl : Laid w) :
    Calls Tryd.prog 17 #[.string s] w fun e w' => ∃ (ao : Option Addr) (cap : Nat) (k : Int), e = .returned (.tuple #[.slice ao 0 cap, .int .i64 k, .int .i64 (prsF s.data.toList).2.2]) ∧ New w w' :=
  (asmParse_any s w hl).mono fun e w' ⟨v, he, hf, hn⟩ => by
    rw [prsF_bad h] at hf
    obtain ⟨ao, cap, rfl⟩ := hf.form
    exact ⟨ao, cap, _, he, hn⟩
theorem parse_some (s : ByteArray) (h : (prsF s.data.toList).2.2 = 0) (w : World) (hl : Laid w) :
    Calls Tryd.prog 17 #[.string s] w fun e w' => ∃ (v : Value) (k : Int), e = .returned (.tuple #[v, .int .i64 k, .int .i64 0]) ∧ FunAt w' v (prsF s.data.toList).1 ∧ New w w' :=
  (asmParse_any s w hl).mono fun e w' ⟨v, he, hf, hn⟩ => by
    rw [h] at he
    exact ⟨v, _, he, hf, hn⟩
set_option maxHeartbeats 2000000 in
theorem asmBack_in (ao : Option Addr) (n cap : Nat) (s : ByteArray) (f : List I) (hn : n ≤ 300) (hs : s.size ≤ 25000) (hfl : f.length ≤ 1000000) (hi : ∀ y ∈ f, In64I y) (w : World) (hf : FunAt w (.slice ao n cap) f) (hl : Laid w) :
    Calls Tryd.prog 6 #[.slice ao n cap, .string s] w fun e w' => e = .returned (.bool true) ∧ New w w' := by
  have HL := Lib.hid hl
  have HF := Lib.hid hf
  have HI := Lib.hid hi
  have HS := Lib.hid hfl
  have q1 : ¬ (300 : Int) < (n : Int) := by omega
  have q2 : ¬ (25000 : Int) < (s.size : Int) := by omega
  have HP : Hid (∀ w, Laid w → (prsF s.data.toList).2.2 = 0 → Calls Tryd.prog 17 #[.string s] w fun e w' => ∃ (v : Value) (k : Int), e = .returned (.tuple #[v, .int .i64 k, .int .i64 0]) ∧ FunAt w' v (prsF s.data.toList).1 ∧ New w w') := Lib.hid (fun w hl h => parse_some s h w hl)
  have HB : Hid ((prsF s.data.toList).2.2 = 0 → prtFE (prsF s.data.toList).1 = 0 ∧ ((prtFB (prsF s.data.toList).1).toList == s.toList) = true ∧ ((chkF (prsF s.data.toList).1).2 == 0) = true) := Lib.hid (fun h => by
    obtain ⟨p1, p2, _, _⟩ := prt_prsF h
    exact ⟨prtFE_good p1, str_beq (by rw [prtFB_list p1, p2]; simp), by simp [p1]⟩)
  have HQ := Lib.hid (prsF_in s.data.toList)
  have HNN : Hid (¬ (prsF s.data.toList).2.2 = 0 → ∀ w, Laid w → Calls Tryd.prog 17 #[.string s] w fun e w' => ∃ (ao : Option Addr) (cap : Nat) (k : Int), e = .returned (.tuple #[.slice ao 0 cap, .int .i64 k, .int .i64 (prsF s.data.toList).2.2]) ∧ New w w') := Lib.hid (fun h w hl => parse_nones s h w hl)
  clear hl hf hi hn hs hfl
  generalize hR : prsF s.data.toList = R at HP HB HQ HNN
  obtain ⟨g, k, e0⟩ := R
  simp only at HP HB HQ HNN
  clear hR
  by_cases h : (chkF f).2 = 0
  · have e1 := prtFE_good h
    have HO := Lib.hid (parse_own HI.out h)
    have sm : sameF f f = true := sameF_iff.mpr rfl
    clear h
    by_cases h0 : e0 = 0
    · obtain ⟨b1, b2, b3⟩ := HB.out h0
      have HZ := Lib.hid h0
      clear h0
      go_enter Tryd.func6, Tryd.ntmps6
      go_wp2_with fail
      refine (asmPrint_any _ f HI.out _ HL.out HF.out).mono ?_
      rw [e1]
      rintro e w1 ⟨rfl, hn1⟩
      go_wp2_with fail
      refine (HO.out _ (HL.out.new hn1)).mono ?_
      rintro e w2 ⟨v2, rfl, hf2, hn2⟩
      have HF2 := Lib.hid hf2
      clear hf2
      go_wp2_with (go_at_call 19; refine (same_any _ v2 f f HS.out _ ((HF.out.new hn1).new hn2) HF2.out).mono ?_; rw [sm]; rintro e w3 ⟨rfl, hn3⟩)
      refine (HP.out _ (((HL.out.new hn1).new hn2).new hn3) HZ.out).mono ?_
      rintro e w4 ⟨v4, k4, rfl, hf4, hn4⟩
      have HF4 := Lib.hid hf4
      clear hf4
      go_wp2_with (first
        | (go_at_call 14; refine (asmPrint_any v4 g HQ.out _ ((((HL.out.new hn1).new hn2).new hn3).new hn4) HF4.out).mono ?_; rw [b1]; rintro e w5 ⟨rfl, hn5⟩)
        | (go_at_call 13; refine (asmRight_any v4 g _ (((((HL.out.new hn1).new hn2).new hn3).new hn4).new hn5) (HF4.out.new hn5)).mono ?_; rw [b3]; rintro e w6 ⟨rfl, hn6⟩)
        | (go_at_call 10; refine (knows_any _ ((((((HL.out.new hn1).new hn2).new hn3).new hn4).new hn5).new hn6)).mono ?_; rintro e w7 ⟨rfl, hn7⟩))
      go_ret
      exact ⟨rfl, (((((hn1.trans hn2).trans hn3).trans hn4).trans hn5).trans hn6).trans hn7⟩
    · have q3 : (e0 != 0) = true := by simp [h0]
      have HZ := Lib.hid h0
      clear h0
      go_enter Tryd.func6, Tryd.ntmps6
      go_wp2_with fail
      refine (asmPrint_any _ f HI.out _ HL.out HF.out).mono ?_
      rw [e1]
      rintro e w1 ⟨rfl, hn1⟩
      go_wp2_with fail
      refine (HO.out _ (HL.out.new hn1)).mono ?_
      rintro e w2 ⟨v2, rfl, hf2, hn2⟩
      have HF2 := Lib.hid hf2
      clear hf2
      go_wp2_with (go_at_call 19; refine (same_any _ v2 f f HS.out _ ((HF.out.new hn1).new hn2) HF2.out).mono ?_; rw [sm]; rintro e w3 ⟨rfl, hn3⟩)
      refine (HNN.out HZ.out _ (((HL.out.new hn1).new hn2).new hn3)).mono ?_
      rintro e w4 ⟨ao4, cap4, k4, rfl, hn4⟩
      go_wp2_with (go_at_call 10; refine (knows_any _ ((((HL.out.new hn1).new hn2).new hn3).new hn4)).mono ?_; rintro e w5 ⟨rfl, hn5⟩)
      go_ret
      exact ⟨rfl, (((hn1.trans hn2).trans hn3).trans hn4).trans hn5⟩
  · have e1 := prtFE_bad h
    clear h
    by_cases h0 : e0 = 0
    · obtain ⟨b1, b2, b3⟩ := HB.out h0
      have HZ := Lib.hid h0
      clear h0
      go_enter Tryd.func6, Tryd.ntmps6
      go_wp2_with fail
      refine (asmPrint_any _ f HI.out _ HL.out HF.out).mono ?_
      rw [e1]
      rintro e w1 ⟨rfl, hn1⟩
      go_wp2_with fail
      refine (HP.out _ (HL.out.new hn1) HZ.out).mono ?_
      rintro e w4 ⟨v4, k4, rfl, hf4, hn4⟩
      have HF4 := Lib.hid hf4
      clear hf4
      go_wp2_with (first
        | (go_at_call 14; refine (asmPrint_any v4 g HQ.out _ ((HL.out.new hn1).new hn4) HF4.out).mono ?_; rw [b1]; rintro e w5 ⟨rfl, hn5⟩)
        | (go_at_call 13; refine (asmRight_any v4 g _ (((HL.out.new hn1).new hn4).new hn5) (HF4.out.new hn5)).mono ?_; rw [b3]; rintro e w6 ⟨rfl, hn6⟩)
        | (go_at_call 10; refine (knows_any _ ((((HL.out.new hn1).new hn4).new hn5).new hn6)).mono ?_; rintro e w7 ⟨rfl, hn7⟩))
      go_ret
      exact ⟨rfl, (((hn1.trans hn4).trans hn5).trans hn6).trans hn7⟩
    · have q3 : (e0 != 0) = true := by simp [h0]
      have HZ := Lib.hid h0
      clear h0
      go_enter Tryd.func6, Tryd.ntmps6
      go_wp2_with fail
      refine (asmPrint_any _ f HI.out _ HL.out HF.out).mono ?_
      rw [e1]
      rintro e w1 ⟨rfl, hn1⟩
      go_wp2_with fail
      refine (HNN.out HZ.out _ (HL.out.new hn1)).mono ?_
      rintro e w4 ⟨ao4, cap4, k4, rfl, hn4⟩
      go_wp2_with (go_at_call 10; refine (knows_any _ ((HL.out.new hn1).new hn4)).mono ?_; rintro e w5 ⟨rfl, hn5⟩)
      go_ret
      exact ⟨rfl, (hn1.trans hn4).trans hn5⟩
theorem asmBack_law (v : Value) (f : List I) (s : ByteArray) (w : World) (hf : FunAt w v f) (hi : ∀ y ∈ f, In64I y) (_hm : f.length ≤ maxLen) (_hs : s.size ≤ maxLen) (hl : Laid w) :
    Calls Tryd.prog 6 #[v, .string s] w fun e w' => e = .returned (.bool true) ∧ New w w' := by
  obtain ⟨ao, cap, rfl⟩ := hf.form
  by_cases hn : f.length ≤ 300
  · by_cases h2 : s.size ≤ 25000
    · exact asmBack_in ao f.length cap s f hn h2 (by omega) hi w hf hl
    · exact asmBack_long2 ao f.length cap s (by omega) (by omega) w hl
  · exact asmBack_long1 ao f.length cap s (by omega) w hl
end Go.Proofs.YtoeplfhigpdopaaDoor
