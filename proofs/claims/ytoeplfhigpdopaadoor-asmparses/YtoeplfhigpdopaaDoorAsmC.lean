/-
  The contract of asm.Print: for every function of right or wrong instructions, each of which fits its fields.
-/
import Derived.Test.YtoeplfhigpdopaaDoorAsmB
import Derived.Test.YtoeplfhigpdopaaDoorAsmBuild
namespace Go.Proofs.YtoeplfhigpdopaaDoor
open Go.RowKit

def prtFB (f : List I) : ByteArray := ⟨(if (chkF f).2 = 0 then prtF f else []).toArray⟩
def prtFE (f : List I) : Int := if (chkF f).2 = 0 then 0 else 1
theorem prtFB_good {f : List I} (h : (chkF f).2 = 0) : prtFB f = ⟨(prtF f).toArray⟩ := by unfold prtFB; rw [if_pos h]
theorem prtFB_list {f : List I} (h : (chkF f).2 = 0) : (prtFB f).data.toList = prtF f := by rw [prtFB_good h]
theorem prtFB_bad {f : List I} (h : ¬ (chkF f).2 = 0) : prtFB f = ⟨#[]⟩ := by unfold prtFB; rw [if_neg h]
theorem prtFE_good {f : List I} (h : (chkF f).2 = 0) : prtFE f = 0 := if_pos h
theorem prtFE_bad {f : List I} (h : ¬ (chkF f).2 = 0) : prtFE f = 1 := if_neg h
theorem prtF_drop {f : List I} {k : Nat} (h : k < f.length) : prtF (f.drop k) = prtL f[k] ++ [10] ++ prtF (f.drop (k + 1)) := by
  rw [List.drop_eq_getElem_cons h, prtF_cons]
theorem print_I (x : I) (hin : In64I x) (w : World) (hl : Laid w) :
    Calls Tryd.prog 23 #[.agg #[.int .i64 (x).op, .int .i64 (x).d, .int .i64 (x).a, .int .i64 (x).b, .int .i64 (x).n, .int .i64 (x).t]] w fun e w' => e = .returned (.tuple #[.string (prtT x), .int .i64 (prtE x)]) ∧ New w w' := print_any x.op x.d x.a x.b x.n x.t hin w hl
theorem Below.new {b : Nat} {w0 w w' : World} (h : New w0 w) (hb : w0.heap.size ≤ b) (k : Below b w w') : New w0 w' := Below.trans h (Below.mono k hb)
theorem asmPrint_bad (v : Value) (f : List I) (h : ¬ (chkF f).2 = 0) (w : World) (hl : Laid w) (hf : FunAt w v f) :
    Calls Tryd.prog 14 #[v] w fun e w' => e = .returned (.tuple #[.string (prtFB f), .int .i64 (prtFE f)]) ∧ New w w' := by
  rw [prtFB_bad h, prtFE_bad h]
  have q : ((chkF f).2 == 0) = false := by simp [h]
  have HL := Lib.hid hl
  have HF := Lib.hid hf
  clear hl hf h
  go_enter Tryd.func14, Tryd.ntmps14
  go_wp2_with (go_at_call 13; refine (asmRight_any v f _ HL.out HF.out).mono ?_; rw [q]; rintro e w1 ⟨rfl, hn1⟩)
  go_ret2
  exact ⟨rfl, hn1⟩
set_option maxHeartbeats 2000000 in
set_option maxRecDepth 100000 in
theorem asmPrint_good (b off cap n : Nat) (f : List I) (hn : f.length = n) (hi : ∀ x ∈ f, In64I x) (h : (chkF f).2 = 0) (w : World) (hl : Laid w) (hf : Fun w b off f) :
    Calls Tryd.prog 14 #[.slice (some ⟨b, off, none⟩) n cap] w fun e w' => e = .returned (.tuple #[.string ⟨(prtF f).toArray⟩, .int .i64 0]) ∧ New w w' := by
  have q : ((chkF f).2 == 0) = true := by simp [h]
  have hn2 : n ≤ 200 := by rw [← hn]; exact (right_iff.mp h).1
  have HR := Lib.hid (right_200 h)
  have HI := Lib.hid hi
  have HL := Lib.hid hl
  have HF := Lib.hid hf
  have HN := Lib.hid hn
  have HA : Hid (FunAt w (.slice (some ⟨b, off, none⟩) n cap) f) := Lib.hid (.inr ⟨b, off, cap, by rw [HN.out], hf⟩)
  clear hl hf hn h hi
  go_enter Tryd.func14, Tryd.ntmps14
  go_wp2_with (go_at_call 13; refine (asmRight_any _ f _ HL.out HA.out).mono ?_; rw [q]; rintro e w1 ⟨rfl, hn1⟩)
  go_loopw [14] (fun i wr => ∃ (k : Nat) (acc : List UInt8), i = .int .i64 k ∧ k ≤ n ∧ Hid (Bld w1.heap.size acc wr) ∧ New w wr ∧ Hid (acc ++ prtF (f.drop k) = prtF f) ∧ Hid (acc.length ≤ 69 * k)) (fun i _ => n - (intOf i).toNat)
  case atStart => exact ⟨0, [], rfl, Nat.zero_le _, Lib.hid (bld_fresh w1), hn1.alloc _, Lib.hid rfl, Lib.hid (Nat.le_refl _)⟩
  case round =>
    obtain ⟨k, acc, rfl, hk, hbl, hnw, HB, HS⟩ := hrel
    by_cases hkn : k < n
    · obtain ⟨x, HX⟩ : ∃ x : I, Hid (f[k]'(by rw [HN.out]; exact hkn) = x) := ⟨_, Lib.hid rfl⟩
      have hr : Hid (wr.rangeAt b (off + k * 6) (cells6 x)) := Lib.hid (by have := (HF.out.new hnw) k (by rw [HN.out]; exact hkn); rw [HX.out] at this; exact this)
      have HZ := Lib.hid (Has.zero wr)
      have HM : Hid (x ∈ f) := Lib.hid (by rw [← HX.out]; exact List.getElem_mem _)
      have HP : Hid (acc ++ (prtT x).data.toList ++ [10] ++ prtF (f.drop (k + 1)) = prtF f) := Lib.hid (by
        have := prtF_drop (f := f) (k := k) (by rw [HN.out]; exact hkn); rw [HX.out] at this; rw [← HB.out, this, prtT_good (HR.out x HM.out)]; simp)
      have HT : Hid ((prtT x).size ≤ 68) := Lib.hid (by
        rw [← size_list, prtT_good (HR.out x HM.out)]
        exact prt_short (HI.out x HM.out) (chk_zero (HR.out x HM.out)).1)
      have hsz : w.heap.size ≤ w1.heap.size := hn1.size
      have hnx : Hid (New wr (putO (wr.alloc (.cells #[.int .i64 0, .int .i64 0, .int .i64 0, .int .i64 0, .int .i64 0, .int .i64 0] 41)) wr.heap.size (.cells #[.int .i64 x.op, .int .i64 x.d, .int .i64 x.a, .int .i64 x.b, .int .i64 x.n, .int .i64 x.t] 41 (0, 0)))) := Lib.hid (((New.refl _).alloc _).put (Nat.le_refl _) _)
      go_wp2_with (first
        | (refine wpList_ldE rfl (.tmp 16) rfl b (off + k * 6) rfl hr.out ?_)
        | (refine wpList_stI rfl rfl (.tmp 6) (.tmp 17) rfl _ rfl x rfl HZ.out ?_)
        | (refine wpList_ldI rfl (.tmp 6) rfl _ rfl (HZ.out.stored x) ?_)
        | (go_at_call 23; refine (print_I x (HI.out x HM.out) _ ((HL.out.new hnw).new hnx.out)).mono ?_; rintro e w2 ⟨rfl, hn2⟩; have hb2 := Lib.hid ((hbl.out.new hnx.out).new hn2); have hcur := Lib.hid ((hnw.trans hnx.out).trans hn2); clear hn2)
        | (go_at_call 24; refine (writeString_any w1.heap.size acc (prtT x) _ hb2.out (by have := HT.out; have := HS.out; omega)).mono ?_; rintro e w3 ⟨rfl, h31, h32, _⟩; have hb3 := Lib.hid h31; have hcur3 := Lib.hid (Below.new hcur.out hsz h32); clear h31 h32)
        | (go_at_call 25; refine (writeByte_any w1.heap.size _ 10 _ hb3.out (by have := HT.out; have := HS.out; rw [List.length_append, size_list]; omega)).mono ?_; rintro e w4 ⟨rfl, h41, h42, _⟩; have hb4 := Lib.hid h41; have hcur4 := Lib.hid (Below.new hcur3.out hsz h42); clear h41 h42))
      go_roundw
      case rel => exact ⟨k + 1, acc ++ (prtT x).data.toList ++ [10], by go_num, by omega, hb4, hcur4.out, Lib.hid HP.out, Lib.hid (by have := HT.out; have := HS.out; rw [List.length_append, List.length_append, size_list]; simp; omega)⟩
      case measure => simp [intOf]; omega
    · have HE : Hid (acc = prtF f) := Lib.hid (by rw [← HB.out, List.drop_of_length_le (by rw [HN.out]; omega)]; simp [prtF])
      have hsz : w.heap.size ≤ w1.heap.size := hn1.size
      go_wp2_with (go_at_call 26; refine (builderString_any w1.heap.size acc _ hbl.out).mono ?_; rintro e w2 ⟨rfl, h2⟩)
      have he := HE.out
      subst he
      go_ret2
      exact ⟨rfl, Below.new hnw hsz h2⟩
theorem asmPrint_any (v : Value) (f : List I) (hi : ∀ x ∈ f, In64I x) (w : World) (hl : Laid w) (hf : FunAt w v f) :
    Calls Tryd.prog 14 #[v] w fun e w' => e = .returned (.tuple #[.string (prtFB f), .int .i64 (prtFE f)]) ∧ New w w' := by
  by_cases h : (chkF f).2 = 0
  · rcases hf with ⟨rfl, ao, cap, rfl⟩ | ⟨b, off, cap, rfl, hf⟩
    · exact absurd h (by decide)
    · rw [prtFB_good h, prtFE_good h]
      exact asmPrint_good b off cap f.length f rfl hi h w hl hf
  · exact asmPrint_bad v f h w hl hf
theorem asmPrint_from {w0 : World} (v : Value) (f : List I) (hi : Hid (∀ x ∈ f, In64I x)) (w : World) (hl : Hid (Laid w0)) (h : New w0 w) (hf : FunAt w v f) :
    Calls Tryd.prog 14 #[v] w fun e w' => e = .returned (.tuple #[.string (prtFB f), .int .i64 (prtFE f)]) ∧ New w0 w' :=
  (asmPrint_any v f hi.out w (hl.out.new h) hf).mono fun _ _ ⟨he, hw⟩ => ⟨he, h.trans hw⟩
end Go.Proofs.YtoeplfhigpdopaaDoor
