/-
  'AsmPrints': a function has the text that the document says, or the error is told: true, for every input.
-/
import Derived.Test.YtoeplfhigpdopaaDoorAsmKnows
import Derived.Test.YtoeplfhigpdopaaDoorRefAsmA
import Derived.Test.YtoeplfhigpdopaaDoorRefAsmC
namespace Go.Proofs.YtoeplfhigpdopaaDoor
open Go.RowKit

theorem asmPrints_long (ao : Option Addr) (n cap : Nat) (h : (300 : Int) < (n : Int)) (w : World) (hl : Laid w) :
    Calls Tryd.prog 4 #[.slice ao n cap] w fun e w' => e = .returned (.bool true) ∧ New w w' := by
  have HL := Lib.hid hl
  clear hl
  go_enter Tryd.func4, Tryd.ntmps4
  go_wp2_with (go_at_call 10; refine (knows_any _ HL.out).mono ?_; rintro e w1 ⟨rfl, hn1⟩)
  go_ret
  exact ⟨rfl, hn1⟩
set_option maxHeartbeats 1000000 in
theorem asmPrints_bad (ao : Option Addr) (n cap : Nat) (f : List I) (hn : n ≤ 300) (hi : ∀ y ∈ f, In64I y) (h : ¬ (chkF f).2 = 0) (w : World) (hf : FunAt w (.slice ao n cap) f) (hl : Laid w) :
    Calls Tryd.prog 4 #[.slice ao n cap] w fun e w' => e = .returned (.bool true) ∧ New w w' := by
  have HL := Lib.hid hl
  have HF := Lib.hid hf
  have HI := Lib.hid hi
  have e1 := prtFE_bad h
  have e2 := prtFB_bad h
  have q : ((chkF f).2 == 0) = false := by simp [h]
  have q1 : ¬ (300 : Int) < (n : Int) := by omega
  clear hl hf hi h hn
  go_enter Tryd.func4, Tryd.ntmps4
  go_wp2_with (first
    | (go_at_call 14; refine (asmPrint_any _ f HI.out _ HL.out HF.out).mono ?_; rw [e1, e2]; rintro e w1 ⟨rfl, hn1⟩)
    | (go_at_call 15; refine (rasmRight_any _ f _ (HF.out.new hn1)).mono ?_; rw [q]; rintro e w2 ⟨rfl, hn2⟩)
    | (go_at_call 10; refine (knows_any _ ((HL.out.new hn1).new hn2)).mono ?_; rintro e w3 ⟨rfl, hn3⟩))
  go_ret
  exact ⟨rfl, (hn1.trans hn2).trans hn3⟩
set_option maxHeartbeats 1000000 in
theorem asmPrints_good (ao : Option Addr) (n cap : Nat) (f : List I) (hn : n ≤ 300) (hi : ∀ y ∈ f, In64I y) (h : (chkF f).2 = 0) (w : World) (hf : FunAt w (.slice ao n cap) f) (hl : Laid w) :
    Calls Tryd.prog 4 #[.slice ao n cap] w fun e w' => e = .returned (.bool true) ∧ New w w' := by
  have HL := Lib.hid hl
  have HF := Lib.hid hf
  have HI := Lib.hid hi
  have HH := Lib.hid h
  have e1 := prtFE_good h
  have q : ((chkF f).2 == 0) = true := by simp [h]
  have q1 : ¬ (300 : Int) < (n : Int) := by omega
  clear hl hf hi h hn
  go_enter Tryd.func4, Tryd.ntmps4
  go_wp2_with (first
    | (go_at_call 14; refine (asmPrint_any _ f HI.out _ HL.out HF.out).mono ?_; rw [e1]; rintro e w1 ⟨rfl, hn1⟩)
    | (go_at_call 15; refine (rasmRight_any _ f _ (HF.out.new hn1)).mono ?_; rw [q]; rintro e w2 ⟨rfl, hn2⟩)
    | (go_at_call 16; refine (rasmPrint_any _ f HH.out HI.out _ ((HF.out.new hn1).new hn2)).mono ?_; rintro e w3 ⟨rfl, hn3⟩)
    | (go_at_call 10; refine (knows_any _ (((HL.out.new hn1).new hn2).new hn3)).mono ?_; rintro e w4 ⟨rfl, hn4⟩))
  go_ret
  exact ⟨rfl, ((hn1.trans hn2).trans hn3).trans hn4⟩
theorem asmPrints_law (v : Value) (f : List I) (w : World) (hf : FunAt w v f) (hi : ∀ y ∈ f, In64I y) (_hm : f.length ≤ maxLen) (hl : Laid w) :
    Calls Tryd.prog 4 #[v] w fun e w' => e = .returned (.bool true) ∧ New w w' := by
  obtain ⟨ao, cap, rfl⟩ := hf.form
  by_cases hn : f.length ≤ 300
  · by_cases h : (chkF f).2 = 0
    · exact asmPrints_good ao f.length cap f hn hi h w hf hl
    · exact asmPrints_bad ao f.length cap f hn hi h w hf hl
  · exact asmPrints_long ao f.length cap (by omega) w hl
end Go.Proofs.YtoeplfhigpdopaaDoor
