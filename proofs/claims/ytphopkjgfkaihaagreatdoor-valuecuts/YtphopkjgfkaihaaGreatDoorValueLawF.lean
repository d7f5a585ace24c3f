/-
  'ValueCuts': what is cut of a function is what the reference cuts; of one that is not right nothing is, and an error said: true, for every input.
-/
import Derived.Test.YtphopkjgfkaihaaGreatDoorValueKnow
import Derived.Test.YtphopkjgfkaihaaGreatDoorValueP
import Derived.Test.YtphopkjgfkaihaaGreatDoorRefAsmA
namespace Go.Proofs.YtphopkjgfkaihaaGreatDoor
open Go.RowKit

set_option maxHeartbeats 16000000 in
set_option maxRecDepth 100000 in
theorem valueCuts_walk (fv : Value) (f : List I) (w : World) (hf : FunAt w fv f) (hl : Laid w) :
    Calls Tryz.prog 6 #[fv] w fun e w' => e = .returned (.bool true) ∧ New w w' := by
  obtain ⟨fo, fc, rfl⟩ := hf.form
  have HL := Lib.hid hl
  have HF := Lib.hid hf
  obtain ⟨n, HN⟩ : ∃ n, Hid (f.length = n) := ⟨_, Lib.hid rfl⟩
  rw [HN.out] at HF ⊢
  clear hl hf
  cases d6 : decide ((60 : Int) < (n : Int)) with
  | true =>
    go_enter Tryz.func6, Tryz.ntmps6
    go_wp2_with (go_at_call 11; refine (knows_from11 _ HL.out (New.refl w)).mono ?_; rintro e wk ⟨rfl, hnk⟩)
    go_ret
    exact ⟨rfl, hnk⟩
  | false =>
    have hn60 : n ≤ 60 := by have := of_decide_eq_false d6; omega
    by_cases hr : (chkF f).2 = 0
    case neg =>
      have q1 : ((chkF f).2 == 0) = false := bneq_of hr
      have T1 : Hid True := Lib.hid trivial
      have T2 : Hid True := Lib.hid trivial
      have HR := Lib.hid hr
      clear hr
      go_enter Tryz.func6, Tryz.ntmps6
      go_wp2_with (first
        | (clear T1; go_at_call 22; refine (cut_bad HL.out HF.out HR.out).mono ?_; rintro e w1 ⟨rfl, hn0⟩)
        | (clear T2; go_at_call 10; refine (rasmRight_any _ f _ (HF.out.new hn0)).mono ?_; rw [q1]; rintro e w2 ⟨rfl, hn1⟩; replace hn1 := hn0.trans hn1; clear hn0)
        | (go_at_call 11; refine (knows_from11 _ HL.out hn1).mono ?_; rintro e wk ⟨rfl, hnk⟩))
      go_ret
      exact ⟨rfl, hnk⟩
    case pos =>
      have q1 : ((chkF f).2 == 0) = true := beq_of hr
      have HR := Lib.hid hr
      have HS := Lib.hid (Sep.start w)
      have T1 : Hid True := Lib.hid trivial
      have T2 : Hid True := Lib.hid trivial
      have T3 : Hid True := Lib.hid trivial
      clear hr
      go_enter Tryz.func6, Tryz.ntmps6
      go_wp2_with (first
        | (clear T1; go_at_call 22; refine (cut_in fo n fc f _ (HL.out.new HS.out.nw) (HF.out.new HS.out.nw) HR.out).mono ?_; rintro e w1 ⟨ba, ca, hca, rfl, hs⟩; have HCA := Lib.hid hca; replace HS := Lib.hid (HS.out.call hs); clear hs hca)
        | (clear T2; go_at_call 10; refine (rasmRight_any _ f _ (HF.out.new HS.out.nw)).mono ?_; rw [q1]; rintro e w2 ⟨rfl, hn⟩; replace HS := Lib.hid (HS.out.go hn); clear hn)
        | (clear T3; go_at_call 23; refine (rcut_any fo n fc f _ (HF.out.new HS.out.nw) HR.out).mono ?_; rintro e w3 ⟨bb, cb, hcb, rfl, hs⟩; have HCE := Lib.hid (cut_one HCA.out hcb); rw [← HCE.out] at hs; replace HS := Lib.hid (HS.out.call hs); clear hs hcb))
      have HCL : Hid (ca.length = n) := Lib.hid (by
        obtain ⟨k, hk, _⟩ := HCA.out
        rw [cutN_len hk, HN.out])
      go_loopw [6] (fun iv wr => ∃ i : Nat, iv = .int .i64 (i : Int) ∧ i ≤ n ∧ Hid (New w3 wr)) (fun iv _ => n - (intOf iv).toNat)
      case atStart => exact ⟨0, rfl, by omega, Lib.hid (New.refl _)⟩
      case round =>
        obtain ⟨i, rfl, hi, HNW⟩ := hrel
        by_cases hin : i < n
        · obtain ⟨bit, hbit⟩ : ∃ bit, ca[i]? = some bit := ⟨_, List.getElem?_eq_getElem (by rw [HCL.out]; exact hin)⟩
          have HA := Lib.hid (leaf_at (HS.out.rd 0 rfl) hbit)
          have HB := Lib.hid (leaf_at (HS.out.rd 1 rfl) hbit)
          have i1 := fun w => ixRow (P := Tryz.prog) Tryz.underlying23 sizeBo bb i n n hin w
          have i2 := fun w => ixRow (P := Tryz.prog) Tryz.underlying23 sizeBo ba i n n hin w
          have V1 : ∀ z : NewW wr, z.val.cell? ⟨bb, i, none⟩ = some (.bool bit) := fun z => by
            have := HA.out _ (HNW.out.trans z.property) 0 _ rfl
            rw [Nat.add_zero, Nat.mul_one] at this
            exact this
          have V2 : ∀ z : NewW wr, z.val.cell? ⟨ba, i, none⟩ = some (.bool bit) := fun z => by
            have := HB.out _ (HNW.out.trans z.property) 0 _ rfl
            rw [Nat.add_zero, Nat.mul_one] at this
            exact this
          clear hbit
          go_wp2_with fail
          have hne := newW_any wr
          refine wp_region_new (New.refl wr) (by kernel_rfl) (by kernel_rfl) ?_
          repeat (go_big_quiet_step (fail))
          refine wpQuiet_nil ?_
          intro w6 hn6
          go_wp2_with fail
          go_roundw
          case rel => exact ⟨i + 1, by go_num, by omega, Lib.hid (HNW.out.trans hn6)⟩
          case measure => simp [intOf]; omega
        · go_wp2_with (go_at_call 11; refine (knows_from11 _ HL.out (HS.out.nw.trans HNW.out)).mono ?_; rintro e wk ⟨rfl, hnk⟩)
          go_ret
          exact ⟨rfl, hnk⟩
theorem valueCuts_law (fv : Value) (f : List I) (w : World) (hf : FunAt w fv f) (_hi : ∀ x ∈ f, In64I x) (_hn : f.length ≤ maxLen) (hl : Laid w) :
    Calls Tryz.prog 6 #[fv] w fun e w' => e = .returned (.bool true) ∧ New w w' := valueCuts_walk fv f w hf hl
end Go.Proofs.YtphopkjgfkaihaaGreatDoor
