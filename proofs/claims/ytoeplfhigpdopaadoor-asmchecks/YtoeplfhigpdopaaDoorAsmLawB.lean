/-
  'AsmChecks': which functions are right, with the place and the error, is what the document says: true, for every input.
-/
import Derived.Test.YtoeplfhigpdopaaDoorAsmKnows
import Derived.Test.YtoeplfhigpdopaaDoorRefAsmA
namespace Go.Proofs.YtoeplfhigpdopaaDoor
open Go.RowKit

theorem asmChecks_long (ao : Option Addr) (n cap : Nat) (h : (300 : Int) < (n : Int)) (w : World) (hl : Laid w) :
    Calls Tryd.prog 3 #[.slice ao n cap] w fun e w' => e = .returned (.bool true) ∧ New w w' := by
  have HL := Lib.hid hl
  clear hl
  go_enter Tryd.func3, Tryd.ntmps3
  go_wp2_with (go_at_call 10; refine (knows_any _ HL.out).mono ?_; rintro e w1 ⟨rfl, hn1⟩)
  go_ret
  exact ⟨rfl, hn1⟩
set_option maxHeartbeats 1000000 in
theorem asmChecks_in (ao : Option Addr) (n cap : Nat) (f : List I) (hn : n ≤ 300) (w : World) (hf : FunAt w (.slice ao n cap) f) (hl : Laid w) :
    Calls Tryd.prog 3 #[.slice ao n cap] w fun e w' => e = .returned (.bool true) ∧ New w w' := by
  have HL := Lib.hid hl
  have HF := Lib.hid hf
  have q1 : ¬ (300 : Int) < (n : Int) := by omega
  clear hl hf hn
  go_enter Tryd.func3, Tryd.ntmps3
  go_wp2_with (first
    | (go_at_call 11; refine (asmCheck_any _ f _ HL.out HF.out).mono ?_; rintro e w1 ⟨rfl, hn1⟩)
    | (go_at_call 12; refine (rasmCheck_any _ f _ (HF.out.new hn1)).mono ?_; rintro e w2 ⟨rfl, hn2⟩)
    | (go_at_call 13; refine (asmRight_any _ f _ ((HL.out.new hn1).new hn2) ((HF.out.new hn1).new hn2)).mono ?_; rintro e w3 ⟨rfl, hn3⟩)
    | (go_at_call 10; refine (knows_any _ (((HL.out.new hn1).new hn2).new hn3)).mono ?_; rintro e w4 ⟨rfl, hn4⟩))
  go_ret
  exact ⟨rfl, ((hn1.trans hn2).trans hn3).trans hn4⟩
theorem asmChecks_law (v : Value) (f : List I) (w : World) (hf : FunAt w v f) (_hi : ∀ y ∈ f, In64I y) (_hm : f.length ≤ maxLen) (hl : Laid w) :
    Calls Tryd.prog 3 #[v] w fun e w' => e = .returned (.bool true) ∧ New w w' := by
  obtain ⟨ao, cap, rfl⟩ := hf.form
  by_cases hn : f.length ≤ 300
  · exact asmChecks_in ao f.length cap f hn w hf hl
  · exact asmChecks_long ao f.length cap (by omega) w hl
end Go.Proofs.YtoeplfhigpdopaaDoor
