/-
  'ValueNone': of a function that names no slots nothing is cut: true, for every input.
-/
import Derived.Test.YtphopkjgfkaihaaGreatDoorValueKnow
import Derived.Test.YtphopkjgfkaihaaGreatDoorValuePlain
import Derived.Test.YtphopkjgfkaihaaGreatDoorRefAsmA
namespace Go.Proofs.YtphopkjgfkaihaaGreatDoor
open Go.RowKit

set_option maxHeartbeats 16000000 in
set_option maxRecDepth 100000 in
theorem valueNone_walk (fv : Value) (f : List I) (w : World) (hf : FunAt w fv f) (hl : Laid w) :
    Calls Tryz.prog 9 #[fv] w fun e w' => e = .returned (.bool true) ∧ New w w' := by
  obtain ⟨fo, fc, rfl⟩ := hf.form
  have HL := Lib.hid hl
  have HF := Lib.hid hf
  obtain ⟨n, HN⟩ : ∃ n, Hid (f.length = n) := ⟨_, Lib.hid rfl⟩
  rw [HN.out] at HF ⊢
  clear hl hf
  cases d6 : decide ((60 : Int) < (n : Int)) with
  | true =>
    go_enter Tryz.func9, Tryz.ntmps9
    go_wp2_with (go_at_call 11; refine (knows_from11 _ HL.out (New.refl w)).mono ?_; rintro e wk ⟨rfl, hnk⟩)
    go_ret
    exact ⟨rfl, hnk⟩
  | false =>
    have hn60 : n ≤ 60 := by have := of_decide_eq_false d6; omega
    by_cases hr : (chkF f).2 = 0
    case neg =>
      have q1 : ((chkF f).2 == 0) = false := bneq_of hr
      have T1 : Hid True := Lib.hid trivial
      clear hr
      go_enter Tryz.func9, Tryz.ntmps9
      go_wp2_with (first
        | (clear T1; go_at_call 10; refine (rasmRight_any _ f _ HF.out).mono ?_; rw [q1]; rintro e w1 ⟨rfl, hn1⟩)
        | (go_at_call 11; refine (knows_from11 _ HL.out hn1).mono ?_; rintro e wk ⟨rfl, hnk⟩))
      go_ret
      exact ⟨rfl, hnk⟩
    case pos =>
      have q1 : ((chkF f).2 == 0) = true := beq_of hr
      have HR := Lib.hid hr
      clear hr
      go_enter Tryz.func9, Tryz.ntmps9
      go_wp2_with (go_at_call 10; refine (rasmRight_any _ f _ HF.out).mono ?_; rw [q1]; rintro e w1 ⟨rfl, hn1⟩)
      have N1 := Lib.hid hn1
      clear hn1
      go_loopw [3] (fun iv wr => ∃ i : Nat, iv = .int .i64 (i : Int) ∧ i ≤ n ∧ Hid (New w wr) ∧ Hid (∀ x ∈ f.take i, x.d ≤ 7 ∧ x.a ≤ 7)) (fun iv _ => n - (intOf iv).toNat)
      case atStart => exact ⟨0, rfl, by omega, N1, Lib.hid (fun _ h => by simp at h)⟩
      case round =>
        obtain ⟨i, rfl, hi, HNW, HT⟩ := hrel
        by_cases hin : i < n
        · obtain ⟨b, o, x, hx, hix, hrg⟩ := HF.out.ix (i := i) hin
          have HTK : Hid (f.take (i + 1) = f.take i ++ [x]) := Lib.hid (by rw [List.take_add_one, hx]; rfl)
          have x1 : wr.cell? ⟨b, o + 1, none⟩ = some (.int .i64 x.d) := hrg wr HNW.out 1 _ rfl
          have x2 : wr.cell? ⟨b, o + 2, none⟩ = some (.int .i64 x.a) := hrg wr HNW.out 2 _ rfl
          clear hx hrg
          cases dd : decide (7 < x.d) with
          | true =>
            go_wp2_with (go_at_call 11; refine (knows_from11 _ HL.out HNW.out).mono ?_; rintro e wk ⟨rfl, hnk⟩)
            go_ret
            exact ⟨rfl, hnk⟩
          | false =>
            have hd := of_decide_eq_false dd
            cases da : decide (7 < x.a) with
            | true =>
              go_wp2_with (go_at_call 11; refine (knows_from11 _ HL.out HNW.out).mono ?_; rintro e wk ⟨rfl, hnk⟩)
              go_ret
              exact ⟨rfl, hnk⟩
            | false =>
              have ha := of_decide_eq_false da
              have HT2 : Hid (∀ x ∈ f.take (i + 1), x.d ≤ 7 ∧ x.a ≤ 7) := Lib.hid (by
                intro z hz
                rw [HTK.out, List.mem_append] at hz
                rcases hz with hz | hz
                · exact HT.out z hz
                · simp at hz
                  rw [hz]
                  exact ⟨by omega, by omega⟩)
              clear hd ha
              go_wp2_with fail
              go_roundw
              case rel => exact ⟨i + 1, by go_num, by omega, HNW, HT2⟩
              case measure => simp [intOf]; omega
        · have HA : Hid (∀ x ∈ f, x.d ≤ 7 ∧ x.a ≤ 7) := Lib.hid (by
            have := HT.out
            rwa [List.take_of_length_le (by rw [HN.out]; omega)] at this)
          have HU : Hid (∀ x ∈ f, ∀ u ∈ usesL x, 0 ≤ u ∧ u < 8) := Lib.hid fun x hx => needs_reg ((right_iff.mp HR.out).2.2.1 x hx)
          go_wp2_with (go_at_call 22; refine (cut_in fo n fc f _ (HL.out.new HNW.out) (HF.out.new HNW.out) HR.out).mono ?_; rintro e w2 ⟨vb, c, hc, rfl, hs⟩; have HCE := Lib.hid (cut_regs HR.out HA.out HU.out hc); have HS := Lib.hid hs; have N2 := Lib.hid (HNW.out.trans hs.nw); clear hc hs)
          go_loopw [6] (fun jv wq => ∃ j : Nat, jv = .int .i64 (j : Int) ∧ j ≤ n ∧ Hid (New w2 wq)) (fun jv _ => n - (intOf jv).toNat)
          case atStart => exact ⟨0, rfl, by omega, Lib.hid (New.refl _)⟩
          case round =>
            obtain ⟨j, rfl, hj, HQ⟩ := hrel
            by_cases hjn : j < n
            · have hcj : c[j]? = some false := by rw [HCE.out, List.getElem?_replicate, if_pos (by rw [HN.out]; exact hjn)]
              have x3 := leaf_at (HS.out.rd 0 rfl) hcj _ HQ.out 0 _ rfl
              rw [Nat.add_zero, Nat.mul_one] at x3
              have i3 := fun w => ixRow (P := Tryz.prog) Tryz.underlying23 sizeBo vb j n n hjn w
              clear hcj
              go_wp2_with fail
              go_roundw
              case rel => exact ⟨j + 1, by go_num, by omega, HQ⟩
              case measure => simp [intOf]; omega
            · go_wp2_with (go_at_call 11; refine (knows_from11 _ HL.out (N2.out.trans HQ.out)).mono ?_; rintro e wk ⟨rfl, hnk⟩)
              go_ret
              exact ⟨rfl, hnk⟩
theorem valueNone_law (fv : Value) (f : List I) (w : World) (hf : FunAt w fv f) (_hi : ∀ x ∈ f, In64I x) (_hn : f.length ≤ maxLen) (hl : Laid w) :
    Calls Tryz.prog 9 #[fv] w fun e w' => e = .returned (.bool true) ∧ New w w' := valueNone_walk fv f w hf hl
end Go.Proofs.YtphopkjgfkaihaaGreatDoor
