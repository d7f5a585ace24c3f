/-
  The reference's Print of functions (joineryref04), of one that is right: its text.
-/
import Derived.Test.YtoeplfhigpdopaaDoorAsmC
import Derived.Test.YtoeplfhigpdopaaDoorRefPrtJ
namespace Go.Proofs.YtoeplfhigpdopaaDoor
open Go.RowKit

theorem refPrint_I (x : I) (hx : In64I x) (h : chkV x 200 = 0) (w : World) : Calls Tryd.prog 27 #[.agg #[.int .i64 (x).op, .int .i64 (x).d, .int .i64 (x).a, .int .i64 (x).b, .int .i64 (x).n, .int .i64 (x).t]] w fun e w' => e = .returned (.string (prtB x)) ∧ New w w' := refPrint_any x.op x.d x.a x.b x.n x.t hx h w
set_option maxHeartbeats 2000000 in
set_option maxRecDepth 100000 in
theorem rprint_some (b off cap n : Nat) (f : List I) (hn : f.length = n) (h9 : n ≤ 1000000) (hi : ∀ x ∈ f, In64I x ∧ chkV x 200 = 0) (w : World) (hf : Fun w b off f) :
    Calls Tryd.prog 16 #[.slice (some ⟨b, off, none⟩) n cap] w fun e w' => e = .returned (.string ⟨(prtF f).toArray⟩) ∧ New w w' := by
  have HF := Lib.hid hf
  have HN := Lib.hid hn
  have HI := Lib.hid hi
  clear hf hn hi
  go_enter Tryd.func16, Tryd.ntmps16
  go_wp2
  go_loopw [3, 4] (fun sv iv wr => ∃ (k : Nat) (acc : List UInt8), iv = .int .i64 k ∧ sv = .string ⟨acc.toArray⟩ ∧ k ≤ n ∧ New w wr ∧ Hid (acc ++ prtF (f.drop k) = prtF f) ∧ acc.length ≤ 69 * k) (fun _ iv _ => n - (intOf iv).toNat)
  case atStart => exact ⟨0, [], rfl, rfl, Nat.zero_le _, New.refl _, Lib.hid rfl, Nat.le_refl _⟩
  case round =>
    obtain ⟨k, acc, rfl, rfl, hk, hnw, HB, hacc⟩ := hrel
    by_cases hkn : k < n
    · obtain ⟨x, HX⟩ : ∃ x : I, Hid (f[k]'(by rw [HN.out]; exact hkn) = x) := ⟨_, Lib.hid rfl⟩
      have hr : Hid (wr.rangeAt b (off + k * 6) (cells6 x)) := Lib.hid (by have := (HF.out.new hnw) k (by rw [HN.out]; exact hkn); rw [HX.out] at this; exact this)
      have HM : Hid (x ∈ f) := Lib.hid (by rw [← HX.out]; exact List.getElem_mem _)
      have HP : Hid ((acc ++ prtL x ++ [10]) ++ prtF (f.drop (k + 1)) = prtF f) := Lib.hid (by
        have := prtF_drop (f := f) (k := k) (by rw [HN.out]; exact hkn); rw [HX.out] at this; rw [← HB.out, this]; simp)
      have HZ : Hid ((prtL x).length ≤ 68) := Lib.hid (prt_short (HI.out x HM.out).1 (chk_zero (HI.out x HM.out).2).1)
      have hs1 : (⟨acc.toArray⟩ : ByteArray).size = acc.length := by show acc.toArray.size = _; simp
      have hs2 : (prtB x).size ≤ 68 := by rw [← size_list, prtB_toList]; exact HZ.out
      have hs3 : ((⟨acc.toArray⟩ : ByteArray) ++ prtB x).size = acc.length + (prtB x).size := by rw [ByteArray.size_append, hs1]
      have HE : Hid ((⟨acc.toArray⟩ : ByteArray) ++ prtB x ++ ⟨#[10]⟩ = ⟨(acc ++ prtL x ++ [10]).toArray⟩) := Lib.hid (bytes_eq (by
        rw [ByteArray.data_append, Array.toList_append, ByteArray.data_append, Array.toList_append, prtB_toList]))
      go_wp2_with (first
        | (refine wpList_ldE rfl (.tmp 14) rfl b (off + k * 6) rfl hr.out ?_)
        | (go_at_call 27; refine (refPrint_I x (HI.out x HM.out).1 (HI.out x HM.out).2 _).mono ?_; rintro e w1 ⟨rfl, hn1⟩))
      go_roundw
      case rel => exact ⟨k + 1, acc ++ prtL x ++ [10], by go_num, by rw [HE.out], by omega, hnw.trans hn1, Lib.hid HP.out, by have := HZ.out; simp; omega⟩
      case measure => simp [intOf]; omega
    · have HE : Hid (acc = prtF f) := Lib.hid (by rw [← HB.out, List.drop_of_length_le (by rw [HN.out]; omega)]; simp [prtF])
      go_wp2
      have he := HE.out
      rw [he]
      go_ret
      exact ⟨rfl, hnw⟩
theorem rasmPrint_any (v : Value) (f : List I) (h : (chkF f).2 = 0) (hi : ∀ x ∈ f, In64I x) (w : World) (hf : FunAt w v f) :
    Calls Tryd.prog 16 #[v] w fun e w' => e = .returned (.string (prtFB f)) ∧ New w w' := by
  rw [prtFB_good h]
  have h2 := right_200 h
  have hr := (right_iff.mp h).1
  rcases hf with ⟨rfl, ao, cap, rfl⟩ | ⟨b, off, cap, rfl, hf⟩
  · exact absurd h (by decide)
  · exact rprint_some b off cap f.length f rfl (by omega) (fun x hx => ⟨hi x hx, h2 x hx⟩) w hf
end Go.Proofs.YtoeplfhigpdopaaDoor
