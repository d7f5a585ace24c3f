/-
  The examples at the end of layer 9's laws ('knows'): true.
-/
import Derived.Test.YtfjlglnjonijdaaGreatDoorPathFrom
import Derived.Test.YtfjlglnjonijdaaGreatDoorAsmAll
import Derived.Test.YtfjlglnjonijdaaGreatDoorEnvSrc
namespace Go.Proofs.YtfjlglnjonijdaaGreatDoor
open Go.RowKit

def kP : List I := [⟨2, 1, 0, 0, 0, 0⟩, ⟨16, 0, 0, 0, 0, 2⟩, ⟨18, 0, 1, 0, 0, 0⟩]
def kJ : List I := [⟨16, 0, 0, 0, 0, 0⟩]
theorem kP_in : ∀ x ∈ kP, In64I x := by
  intro x hx
  simp only [kP, List.mem_cons, List.not_mem_nil, or_false] at hx
  rcases hx with rfl | rfl | rfl <;> (unfold In64I In64; simp)
theorem kJ_in : ∀ x ∈ kJ, In64I x := by
  intro x hx
  simp only [kJ, List.mem_cons, List.not_mem_nil, or_false] at hx
  rcases hx with rfl
  unfold In64I In64
  simp
def kPT : List UInt8 := [109, 111, 118, 32, 114, 49, 32, 114, 48, 10, 106, 117, 109, 112, 32, 50, 10, 114, 101, 116, 32, 114, 49, 10]
def kJT : List UInt8 := [106, 117, 109, 112, 32, 48, 10]
theorem kP_right : (chkF kP).2 = 0 := by decide +kernel
theorem kJ_right : (chkF kJ).2 = 0 := by decide +kernel
theorem kP_text : prtF kP = kPT := by decide +kernel
theorem kJ_text : prtF kJ = kJT := by decide +kernel
theorem kP_1 : prsF kPT = (kP, 0, 0) := by rw [← kP_text]; exact prs_prtF kP_in kP_right
theorem kJ_1 : prsF kJT = (kJ, 0, 0) := by rw [← kJ_text]; exact prs_prtF kJ_in kJ_right
theorem kP_at : InF kP 0 := ⟨kP_right, by decide, by decide⟩
theorem kJ_at : InF kJ 0 := ⟨kJ_right, by decide, by decide⟩
theorem kP_wy : Wy kP 0 (some 2) := by
  refine ⟨fun k hk => ?_, by decide +kernel⟩
  have : k = 0 ∨ k = 1 := by omega
  rcases this with rfl | rfl <;> decide +kernel
theorem kJ_wy : Wy kJ 0 none := by
  refine round_never (j := 0) (n := 1) (by omega) (by decide +kernel) fun k hk => ?_
  obtain rfl : k = 0 := by omega
  decide +kernel
def kPt : Tb := tbP kP 0 (some 2)
theorem kPt_1 : kPt 1 = (0, 0) := by decide +kernel
set_option maxHeartbeats 8000000 in
set_option maxRecDepth 100000 in
theorem knows_any (w : World) (hl : Laid w) : Calls Tryz.prog 7 #[] w fun e w' => e = .returned (.bool true) ∧ New w w' := by
  have p1 : ∀ w, Laid w → Calls Tryz.prog 14 #[.string ⟨#[109, 111, 118, 32, 114, 49, 32, 114, 48, 10, 106, 117, 109, 112, 32, 50, 10, 114, 101, 116, 32, 114, 49, 10]⟩] w fun e w' => ∃ ao cap, e = .returned (.tuple #[.slice ao 3 cap, .int .i64 0, .int .i64 0]) ∧ FunAt w' (.slice ao 3 cap) kP ∧ New w w' := fun w hl =>
    (asmParse_any ⟨kPT.toArray⟩ w hl).mono fun e w' ⟨v, he, hf, hn⟩ => by
      rw [arr_list, kP_1] at he hf
      obtain ⟨ao, cap, rfl⟩ := hf.form
      exact ⟨ao, cap, he, hf, hn⟩
  have p2 : ∀ w, Laid w → Calls Tryz.prog 14 #[.string ⟨#[106, 117, 109, 112, 32, 48, 10]⟩] w fun e w' => ∃ ao cap, e = .returned (.tuple #[.slice ao 1 cap, .int .i64 0, .int .i64 0]) ∧ FunAt w' (.slice ao 1 cap) kJ ∧ New w w' := fun w hl =>
    (asmParse_any ⟨kJT.toArray⟩ w hl).mono fun e w' ⟨v, he, hf, hn⟩ => by
      rw [arr_list, kJ_1] at he hf
      obtain ⟨ao, cap, rfl⟩ := hf.form
      exact ⟨ao, cap, he, hf, hn⟩
  have P1 := Lib.hid p1
  have P2 := Lib.hid p2
  have HL := Lib.hid hl
  have T1 : Hid True := Lib.hid trivial
  have T2 : Hid True := Lib.hid trivial
  have T3 : Hid True := Lib.hid trivial
  have T4 : Hid True := Lib.hid trivial
  have T5 : Hid True := Lib.hid trivial
  have T6 : Hid True := Lib.hid trivial
  have T7 : Hid True := Lib.hid trivial
  have T8 : Hid True := Lib.hid trivial
  clear p1 p2 hl
  go_enter Tryz.func7, Tryz.ntmps7
  go_wp2_with (first
    | (clear T1; go_at_call 14; refine (P1.out _ HL.out).mono ?_; rintro e w1 ⟨ao, cap, rfl, hf, hn⟩; have HF := Lib.hid hf; have N1 := Lib.hid hn; clear hf hn)
    | (clear T2; go_at_call 8; refine (path_is (q := 2) (t := kPt) (k := 2) HL.out N1.out HF.out kP_at kP_wy rfl rfl rfl).mono ?_; rintro e w2 ⟨rfl, hn⟩; have N2 := Lib.hid (N1.out.trans hn); clear hn)
    | (clear T3; refine wpList_alX rfl 40 rfl _ zeroP_run _ rfl ?_; intro w3 g4 hg4 hl4 H4 hn; have A4 : Hid (HasP w3 g4 0 noT 0) := Lib.hid H4; have n4 : w.heap.size ≤ g4 := Nat.le_trans N2.out.size hg4; have N3 := Lib.hid (N2.out.trans hn); clear H4 hn)
    | (clear T4; refine wpList_stP rfl rfl (.tmp 4) (.tmp 19) rfl g4 rfl (to := 2) (t := kPt) (n := 2) rfl A4.out ?_; intro w4 B4 k4; have C4 : Hid (HasP w4 g4 2 kPt 2) := Lib.hid B4; have N4 := Lib.hid (k4.below _ n4 N3.out); clear B4 k4)
    | (clear T5; go_at_call 14; refine (P2.out _ (HL.out.new N4.out)).mono ?_; rintro e w5 ⟨bo, dap, rfl, hf, hn⟩; have HF2 := Lib.hid hf; have N5 := Lib.hid (N4.out.trans hn); have D4 : Hid (HasP w5 g4 2 kPt 2) := Lib.hid (HasC.new C4.out hn); clear hf hn)
    | (clear T6; go_at_call 8; refine (path_is (q := -1) (t := newT) (k := 0) HL.out N5.out HF2.out kJ_at kJ_wy rfl rfl rfl).mono ?_; rintro e w6 ⟨rfl, hn⟩; have N6 := Lib.hid (N5.out.trans hn); have E4 : Hid (HasP w6 g4 2 kPt 2) := Lib.hid (HasC.new D4.out hn); clear hn)
    | (clear T7; refine wpList_alX rfl 40 rfl _ zeroP_run _ rfl ?_; intro w7 g9 hg9 hl9 H9 hn; have A9 : Hid (HasP w7 g9 0 noT 0) := Lib.hid H9; have G4 : Hid (HasP w7 g4 2 kPt 2) := Lib.hid (HasC.new E4.out hn); have n9 : w.heap.size ≤ g9 := Nat.le_trans N6.out.size hg9; have d49 : g4 ≠ g9 := Nat.ne_of_lt (Nat.lt_of_lt_of_le (HasC.lt E4.out) hg9); have N7 := Lib.hid (N6.out.trans hn); clear H9 hn)
    | (clear T8; refine wpList_stP rfl rfl (.tmp 9) (.tmp 29) rfl g9 rfl (to := -1) (t := newT) (n := 0) rfl A9.out ?_; intro w8 B9 k9; have C9 : Hid (HasP w8 g9 (-1) newT 0) := Lib.hid B9; have K4 : Hid (HasP w8 g4 2 kPt 2) := Lib.hid (HasC.kept G4.out k9 d49); have N8 := Lib.hid (k9.below _ n9 N7.out); have x1 := HasP.at C9.out; have x2 := HasP.st C9.out; have y1 := HasP.at K4.out; have y2 := HasP.st K4.out; have y3 := HasP.src K4.out (k := 1) (by decide); clear B9 k9)
    | (go_at_call 15; refine (asSource_any (kPt 1) _).mono ?_; rw [kPt_1]; rintro e w9 ⟨rfl, hn⟩; have N9 := Lib.hid (N8.out.trans hn); have x1 := hn.cell x1; have x2 := hn.cell x2; clear hn))
  go_ret
  exact ⟨rfl, N9.out⟩
theorem knows_from {w0 : World} (w : World) (hl : Laid w0) (h : New w0 w) : Calls Tryz.prog 7 #[] w fun e w' => e = .returned (.bool true) ∧ New w0 w' :=
  (knows_any w (hl.new h)).mono fun _ _ ⟨he, hw⟩ => ⟨he, h.trans hw⟩
end Go.Proofs.YtfjlglnjonijdaaGreatDoor
