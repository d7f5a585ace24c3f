/-
  'AsmApart': unlike functions have unlike texts: true, for every input.
-/
import Derived.Test.YtoeplfhigpdopaaDoorAsmKnows
import Derived.Test.YtoeplfhigpdopaaDoorRefAsmB
namespace Go.Proofs.YtoeplfhigpdopaaDoor
open Go.RowKit

theorem asmApart_long1 (ao bo : Option Addr) (n m cap cap' : Nat) (h : (300 : Int) < (n : Int)) (w : World) (hl : Laid w) :
    Calls Tryd.prog 7 #[.slice ao n cap, .slice bo m cap'] w fun e w' => e = .returned (.bool true) ∧ New w w' := by
  have HL := Lib.hid hl
  clear hl
  go_enter Tryd.func7, Tryd.ntmps7
  go_wp2_with (go_at_call 10; refine (knows_any _ HL.out).mono ?_; rintro e w1 ⟨rfl, hn1⟩)
  go_ret
  exact ⟨rfl, hn1⟩
theorem asmApart_long2 (ao bo : Option Addr) (n m cap cap' : Nat) (h : ¬ (300 : Int) < (n : Int)) (h' : (300 : Int) < (m : Int)) (w : World) (hl : Laid w) :
    Calls Tryd.prog 7 #[.slice ao n cap, .slice bo m cap'] w fun e w' => e = .returned (.bool true) ∧ New w w' := by
  have HL := Lib.hid hl
  clear hl
  go_enter Tryd.func7, Tryd.ntmps7
  go_wp2_with (go_at_call 10; refine (knows_any _ HL.out).mono ?_; rintro e w1 ⟨rfl, hn1⟩)
  go_ret
  exact ⟨rfl, hn1⟩
set_option maxHeartbeats 1000000 in
theorem asmApart_out (ao bo : Option Addr) (n m cap cap' : Nat) (f g : List I) (hn : n ≤ 300) (hm : m ≤ 300) (hi : ∀ y ∈ f, In64I y) (hj : ∀ y ∈ g, In64I y) (h : (prtFE f != 0) = true ∨ (prtFE f != 0) = false ∧ (prtFE g != 0) = true) (w : World) (hf : FunAt w (.slice ao n cap) f) (hg : FunAt w (.slice bo m cap') g) (hl : Laid w) :
    Calls Tryd.prog 7 #[.slice ao n cap, .slice bo m cap'] w fun e w' => e = .returned (.bool true) ∧ New w w' := by
  have HL := Lib.hid hl
  have HF := Lib.hid hf
  have HG := Lib.hid hg
  have HI := Lib.hid hi
  have HJ := Lib.hid hj
  have q1 : ¬ (300 : Int) < (n : Int) := by omega
  have q2 : ¬ (300 : Int) < (m : Int) := by omega
  clear hl hf hi hj hg hn hm
  rcases h with h | ⟨h, h'⟩
  all_goals
    go_enter Tryd.func7, Tryd.ntmps7
    go_wp2_with fail
    refine (asmPrint_any _ f HI.out _ HL.out HF.out).mono ?_
    rintro e w1 ⟨rfl, hn1⟩
    go_wp2_with fail
    refine (asmPrint_any _ g HJ.out _ (HL.out.new hn1) (HG.out.new hn1)).mono ?_
    rintro e w2 ⟨rfl, hn2⟩
    go_wp2_with (go_at_call 10; refine (knows_any _ ((HL.out.new hn1).new hn2)).mono ?_; rintro e w3 ⟨rfl, hn3⟩)
    go_ret
    exact ⟨rfl, (hn1.trans hn2).trans hn3⟩
set_option maxHeartbeats 1000000 in
theorem asmApart_in (ao bo : Option Addr) (n m cap cap' : Nat) (f g : List I) (hn : n ≤ 300) (hm : m ≤ 300) (hfl : f.length ≤ 1000000) (hi : ∀ y ∈ f, In64I y) (hj : ∀ y ∈ g, In64I y) (h : (chkF f).2 = 0) (h' : (chkF g).2 = 0) (w : World) (hf : FunAt w (.slice ao n cap) f) (hg : FunAt w (.slice bo m cap') g) (hl : Laid w) :
    Calls Tryd.prog 7 #[.slice ao n cap, .slice bo m cap'] w fun e w' => e = .returned (.bool true) ∧ New w w' := by
  have HL := Lib.hid hl
  have HF := Lib.hid hf
  have HG := Lib.hid hg
  have HI := Lib.hid hi
  have HJ := Lib.hid hj
  have e1 := prtFE_good h
  have e2 := prtFE_good h'
  have q1 : ¬ (300 : Int) < (n : Int) := by omega
  have q2 : ¬ (300 : Int) < (m : Int) := by omega
  have e3 : ((prtFB f).toList == (prtFB g).toList) = sameF f g := str_beq (by
    rw [prtFB_list h, prtFB_list h', Bool.eq_iff_iff, decide_eq_true_iff, sameF_iff]
    exact ⟨fun e => prtF_inj hi hj h h' e, fun e => by rw [e]⟩)
  have HS := Lib.hid hfl
  clear hl hf hi hj hg hn hm h h' hfl
  go_enter Tryd.func7, Tryd.ntmps7
  go_wp2_with fail
  refine (asmPrint_any _ f HI.out _ HL.out HF.out).mono ?_
  rw [e1]
  rintro e w1 ⟨rfl, hn1⟩
  go_wp2_with fail
  refine (asmPrint_any _ g HJ.out _ (HL.out.new hn1) (HG.out.new hn1)).mono ?_
  rw [e2]
  rintro e w2 ⟨rfl, hn2⟩
  go_wp2_with (first
    | (go_at_call 19; refine (same_any _ _ f g HS.out _ ((HF.out.new hn1).new hn2) ((HG.out.new hn1).new hn2)).mono ?_; rintro e w3 ⟨rfl, hn3⟩)
    | (go_at_call 10; refine (knows_any _ (((HL.out.new hn1).new hn2).new hn3)).mono ?_; rintro e w4 ⟨rfl, hn4⟩))
  go_ret
  exact ⟨rfl, ((hn1.trans hn2).trans hn3).trans hn4⟩
theorem asmApart_law (v : Value) (f : List I) (u : Value) (g : List I) (w : World) (hf : FunAt w v f) (hi : ∀ y ∈ f, In64I y) (_hm : f.length ≤ maxLen) (hg : FunAt w u g) (hj : ∀ y ∈ g, In64I y) (_hk : g.length ≤ maxLen) (hl : Laid w) :
    Calls Tryd.prog 7 #[v, u] w fun e w' => e = .returned (.bool true) ∧ New w w' := by
  obtain ⟨ao, cap, rfl⟩ := hf.form
  obtain ⟨bo, cap', rfl⟩ := hg.form
  by_cases hn : f.length ≤ 300
  · by_cases hm : g.length ≤ 300
    · by_cases h : (chkF f).2 = 0
      · by_cases h' : (chkF g).2 = 0
        · exact asmApart_in ao bo f.length g.length cap cap' f g hn hm (by omega) hi hj h h' w hf hg hl
        · exact asmApart_out ao bo f.length g.length cap cap' f g hn hm hi hj (.inr ⟨by rw [prtFE_good h]; rfl, by rw [prtFE_bad h']; rfl⟩) w hf hg hl
      · exact asmApart_out ao bo f.length g.length cap cap' f g hn hm hi hj (.inl (by rw [prtFE_bad h]; rfl)) w hf hg hl
    · exact asmApart_long2 ao bo f.length g.length cap cap' (by omega) (by omega) w hl
  · exact asmApart_long1 ao bo f.length g.length cap cap' (by omega) w hl
end Go.Proofs.YtoeplfhigpdopaaDoor
