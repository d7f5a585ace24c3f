/-
  The examples at the end of layer 4's laws ('knows'): true.
-/
import Derived.Test.YtoeplfhigpdopaaDoorAsmC
import Derived.Test.YtoeplfhigpdopaaDoorAsmE
namespace Go.Proofs.YtoeplfhigpdopaaDoor
open Go.RowKit

def kF : List I := [⟨2, 1, 0, 0, 0, 0⟩, ⟨18, 0, 1, 0, 0, 0⟩]
theorem kF_in : ∀ x ∈ kF, In64I x := by
  intro x hx
  simp only [kF, List.mem_cons, List.not_mem_nil, or_false] at hx
  rcases hx with rfl | rfl <;> (unfold In64I In64; simp)
def kT1 : List UInt8 := [109, 111, 118, 32, 114, 49, 32, 114, 48, 10, 114, 101, 116, 32, 114, 49, 10]
def kT2 : List UInt8 := [109, 111, 118, 32, 114, 49, 32, 114, 48, 10, 114, 101, 116, 32, 114, 56, 10]
def kT3 : List UInt8 := [109, 111, 118, 32, 114, 49, 32, 114, 48, 10]
theorem kF_right : (chkF kF).2 = 0 := by decide +kernel
theorem kF_text : prtF kF = kT1 := by decide +kernel
theorem kF_1 : prsF kT1 = (kF, 0, 0) := by rw [← kF_text]; exact prs_prtF kF_in kF_right
theorem kF_2 : (prsF kT2).2 = (10, 2) := by decide +kernel
theorem kF_3 : (prsF kT3).2 = (0, 5) := by decide +kernel
set_option maxHeartbeats 2000000 in
set_option maxRecDepth 100000 in
theorem knows_any (w : World) (hl : Laid w) : Calls Tryd.prog 10 #[] w fun e w' => e = .returned (.bool true) ∧ New w w' := by
  have p1 : ∀ w, Laid w → Calls Tryd.prog 17 #[.string ⟨#[109, 111, 118, 32, 114, 49, 32, 114, 48, 10, 114, 101, 116, 32, 114, 49, 10]⟩] w fun e w' => ∃ ao cap, e = .returned (.tuple #[.slice ao 2 cap, .int .i64 0, .int .i64 0]) ∧ FunAt w' (.slice ao 2 cap) kF ∧ New w w' := fun w hl =>
    (asmParse_any ⟨kT1.toArray⟩ w hl).mono fun e w' ⟨v, he, hf, hn⟩ => by
      rw [arr_list, kF_1] at he hf
      obtain ⟨ao, cap, rfl⟩ := hf.form
      exact ⟨ao, cap, he, hf, hn⟩
  have p2 : ∀ w, Laid w → Calls Tryd.prog 17 #[.string ⟨#[109, 111, 118, 32, 114, 49, 32, 114, 48, 10, 114, 101, 116, 32, 114, 56, 10]⟩] w fun e w' => ∃ v, e = .returned (.tuple #[v, .int .i64 10, .int .i64 2]) ∧ New w w' := fun w hl =>
    (asmParse_any ⟨kT2.toArray⟩ w hl).mono fun e w' ⟨v, he, hf, hn⟩ => by
      rw [arr_list, kF_2] at he
      exact ⟨v, he, hn⟩
  have p3 : ∀ w, Laid w → Calls Tryd.prog 17 #[.string ⟨#[109, 111, 118, 32, 114, 49, 32, 114, 48, 10]⟩] w fun e w' => ∃ v, e = .returned (.tuple #[v, .int .i64 0, .int .i64 5]) ∧ New w w' := fun w hl =>
    (asmParse_any ⟨kT3.toArray⟩ w hl).mono fun e w' ⟨v, he, hf, hn⟩ => by
      rw [arr_list, kF_3] at he
      exact ⟨v, he, hn⟩
  have p4 : ∀ v w, Laid w → FunAt w v kF → Calls Tryd.prog 14 #[v] w fun e w' => e = .returned (.tuple #[.string ⟨#[109, 111, 118, 32, 114, 49, 32, 114, 48, 10, 114, 101, 116, 32, 114, 49, 10]⟩, .int .i64 0]) ∧ New w w' := fun v w hl hf =>
    (asmPrint_any v kF kF_in w hl hf).mono fun e w' ⟨he, hn⟩ => by
      rw [prtFB_good kF_right, prtFE_good kF_right, kF_text] at he
      exact ⟨he, hn⟩
  have p5 : ∀ v w, Laid w → FunAt w v kF → Calls Tryd.prog 13 #[v] w fun e w' => e = .returned (.bool true) ∧ New w w' := fun v w hl hf =>
    (asmRight_any v kF w hl hf).mono fun e w' ⟨he, hn⟩ => by
      rw [kF_right] at he
      exact ⟨he, hn⟩
  have P1 := Lib.hid p1
  have P2 := Lib.hid p2
  have P3 := Lib.hid p3
  have P4 := Lib.hid p4
  have P5 := Lib.hid p5
  have HL := Lib.hid hl
  clear p1 p2 p3 p4 p5 hl
  go_enter Tryd.func10, Tryd.ntmps10
  go_wp2_with fail
  refine (P1.out _ HL.out).mono ?_
  rintro e w1 ⟨ao, cap, rfl, hf, hcur⟩
  have HF := Lib.hid hf
  clear hf
  go_wp2_with (go_at_call 14; refine (P4.out _ _ (HL.out.new hcur) HF.out).mono ?_; rintro e w2 ⟨rfl, hn⟩; have hcur := hcur.trans hn; have HF := Lib.hid (HF.out.new hn))
  refine (P2.out _ (HL.out.new hcur)).mono ?_
  rintro e w3 ⟨v2, rfl, hn⟩
  have hcur := hcur.trans hn
  have HF := Lib.hid (HF.out.new hn)
  go_wp2_with fail
  refine (P3.out _ (HL.out.new hcur)).mono ?_
  rintro e w4 ⟨v3, rfl, hn⟩
  have hcur := hcur.trans hn
  have HF := Lib.hid (HF.out.new hn)
  go_wp2_with (go_at_call 13; refine (P5.out _ _ (HL.out.new hcur) HF.out).mono ?_; rintro e w5 ⟨rfl, hn⟩; have hcur := hcur.trans hn)
  go_ret
  exact ⟨rfl, hcur⟩
theorem knows_from {w0 : World} (w : World) (hl : Hid (Laid w0)) (h : New w0 w) : Calls Tryd.prog 10 #[] w fun e w' => e = .returned (.bool true) ∧ New w0 w' :=
  (knows_any w (hl.out.new h)).mono fun _ _ ⟨he, hw⟩ => ⟨he, h.trans hw⟩
end Go.Proofs.YtoeplfhigpdopaaDoor
