/-
  The contract of ins.Print: for every instruction.
-/
import Derived.Test.YtoeplfhigpdopaaDoorInsC
namespace Go.Proofs.YtoeplfhigpdopaaDoor
open Go.RowKit

def prtT (x : I) : ByteArray := ⟨(if chkV x 200 = 0 then prtL x else []).toArray⟩
def prtE (x : I) : Int := if chkV x 200 = 0 then 0 else 1
theorem prtT_good {x : I} (h : chkV x 200 = 0) : (prtT x).data.toList = prtL x := by unfold prtT; rw [if_pos h]
theorem prtT_bad {x : I} (h : ¬ chkV x 200 = 0) : prtT x = ⟨#[]⟩ := by unfold prtT; rw [if_neg h]
theorem prtE_good {x : I} (h : chkV x 200 = 0) : prtE x = 0 := if_pos h
theorem prtE_bad {x : I} (h : ¬ chkV x 200 = 0) : prtE x = 1 := if_neg h
theorem join_more {L : List Int} {x : I} {pos : Nat} {c : Int} (h : L.drop pos = c :: L.drop (pos + 1)) : joinL (valsOf (L.drop pos) x) = 32 :: (pieceL c (fieldV x c) ++ joinL (valsOf (L.drop (pos + 1)) x)) := by
  rw [h]; rfl

set_option maxHeartbeats 2000000 in
set_option maxRecDepth 100000 in
theorem print_any (o d a b n t : Int) (hin : In64I ⟨o, d, a, b, n, t⟩) (w : World) (hl : Laid w) :
    Calls Tryd.prog 23 #[.agg #[.int .i64 o, .int .i64 d, .int .i64 a, .int .i64 b, .int .i64 n, .int .i64 t]] w fun e w' => e = .returned (.tuple #[.string (prtT ⟨o, d, a, b, n, t⟩), .int .i64 (prtE ⟨o, d, a, b, n, t⟩)]) ∧ New w w' := by
  have HL := Lib.hid hl
  have hx0 := Lib.hid (Has.box w ⟨o, d, a, b, n, t⟩)
  clear hl
  cases hk : decide (chkV ⟨o, d, a, b, n, t⟩ 200 = 0) with
  | false =>
    have h' := of_decide_eq_false hk
    have hq : (chkV ⟨o, d, a, b, n, t⟩ 200 == 0) = false := by simpa using hk
    rw [prtT_bad h', prtE_bad h']
    clear hk h' hin
    go_enter Tryd.func23, Tryd.ntmps23
    go_wp2_with (go_at_call 20; refine (check_any _ _ _ _ _ _ _ _ (HL.out.alloc _)).mono ?_; rintro e w1 ⟨rfl, hn1⟩)
    go_ret2
    exact ⟨rfl, (alloc_new _ _).trans hn1⟩
  | true =>
    have h' := of_decide_eq_true hk
    have hq : (chkV ⟨o, d, a, b, n, t⟩ 200 == 0) = true := by simpa using hk
    obtain ⟨hkn, hsp, hfa⟩ := chk_zero h'
    have hkn' := known_iff.mp hkn
    have hlen := prt_len hin hkn
    have HE := Lib.hid (prtT_good h')
    have HI := Lib.hid hin
    have HN := Lib.hid hlen
    rw [prtE_good h']
    clear hk h' hkn hsp hfa hin hlen
    obtain ⟨k, rfl⟩ : ∃ k : Nat, o = k := ⟨o.toNat, by have : 1 ≤ o ∧ o ≤ 18 := hkn'; omega⟩
    have hk1 : 1 ≤ k ∧ k ≤ 18 := by have : 1 ≤ (k : Int) ∧ (k : Int) ≤ 18 := hkn'; omega
    clear hkn'
    go_enter Tryd.func23, Tryd.ntmps23
    go_wp2_with (first
      | (go_at_call 20; refine (check_any _ _ _ _ _ _ _ _ (HL.out.alloc _)).mono ?_; rintro e w1 ⟨rfl, hn1⟩; have hx1 := hx0.out.new hn1; have hc0 := hx1.cell.1; have hl1 := Lib.hid ((HL.out.alloc _).new hn1); have hsh := hl1.out.cell (k * 2) (by omega))
      | (go_at_call 35; refine (fields_at _ _ hl1.out).mono ?_; rintro e w2 ⟨rfl, rfl⟩))
    go_loopw [4] (fun sv wr => ∃ (pos : Nat) (sb : ByteArray), sv = .string sb ∧ wr.heap[w1.heap.size]? = some (.stringIter (fldB k) pos) ∧ Has wr w.heap.size ⟨k, d, a, b, n, t⟩ ∧ New w wr ∧ Hid (sb.data.toList ++ joinL (valsOf ((letters k).drop pos) ⟨k, d, a, b, n, t⟩) = prtL ⟨k, d, a, b, n, t⟩)) (fun _ wr => (fldB k).size - wr.iterPos w1.heap.size)
    case atStart =>
      refine ⟨0, wordB k, rfl, alloc_at rfl _, hx1.new (alloc_new _ _), ((alloc_new _ _).trans hn1).alloc _, Lib.hid ?_⟩
      rw [wordB_toList]
      rfl
    case round =>
      obtain ⟨pos, sb, rfl, hit, hxi, hni, HB⟩ := hrel
      have hgne : w.heap.size ≠ w1.heap.size := by have := heap_lt hx1; omega
      have hgle : w.heap.size ≤ w1.heap.size := by have := heap_lt hx1; omega
      by_cases hp : pos < (fldB k).size
      · obtain ⟨c, hdec, hc, hdrop⟩ := fld_at hp
        have hnx : ∀ ty, (Instr.next (.pointer (some ⟨w1.heap.size, 0, none⟩)) true ty).run Tryd.prog wr = _ := fun ty => next_at hit hp ty
        rw [hdec] at hnx
        simp only [hc] at hnx
        have HR := Lib.hid (hxi.put (.stringIter (fldB k) (pos + 1)) hgne)
        have HT := Lib.hid (putO_same (o := .stringIter (fldB k) (pos + 1)) hit)
        have HD := Lib.hid hdrop
        have hsz : sb.size + (1 + (pieceB c (fieldV ⟨k, d, a, b, n, t⟩ c)).size) ≤ 100 := by
          have h1 := congrArg List.length HB.out
          rw [join_more hdrop, List.length_append, List.length_cons, List.length_append] at h1
          have h2 := HN.out
          have h3 : (pieceB c (fieldV ⟨k, d, a, b, n, t⟩ c)).size = (pieceL c (fieldV ⟨k, d, a, b, n, t⟩ c)).length := by
            rw [← size_list, pieceB_toList]
          rw [size_list] at h1
          omega
        have hz1 : ¬ 9223372036854775807 < 1 + (pieceB c (fieldV ⟨k, d, a, b, n, t⟩ c)).size := by omega
        have hz2 : ¬ 9223372036854775807 < sb.size + ((⟨#[32]⟩ : ByteArray) ++ pieceB c (fieldV ⟨k, d, a, b, n, t⟩ c)).size := by
          rw [ByteArray.size_append]
          have : (⟨#[32]⟩ : ByteArray).size = 1 := rfl
          omega
        have HP := Lib.hid (field_in HI.out c)
        clear hdec hdrop hc
        go_wp2_with (first | (refine wpList_ldI rfl (.tmp 1) rfl _ rfl HR.out ?_) | (go_at_call 37; refine (field_any k d a b n t c _).mono ?_; rintro e w2 ⟨rfl, hn2⟩) | (go_at_call 41; refine (piece_from c _ HP.out _ (Lib.hid (HL.out.new ((hni.put hgle _).trans hn2))) (New.refl _)).mono ?_; rintro e w3 ⟨rfl, hn3⟩))
        go_roundw
        case rel =>
          refine ⟨pos + 1, _, rfl, hn3.heap (hn2.heap HT.out), (HR.out.new hn2).new hn3, ((hni.put hgle _).trans hn2).trans hn3, Lib.hid ?_⟩
          rw [← HB.out, join_more HD.out, ByteArray.data_append, Array.toList_append, ByteArray.data_append, Array.toList_append, pieceB_toList]
          simp
        case measure => rw [iterPos_at (hn3.heap (hn2.heap HT.out)), iterPos_at hit]; omega
      · have hnx : ∀ ty, (Instr.next (.pointer (some ⟨w1.heap.size, 0, none⟩)) true ty).run Tryd.prog wr = _ := fun ty => next_stop hit hp ty
        have HV : Hid (sb = prtT ⟨k, d, a, b, n, t⟩) := Lib.hid (bytes_eq (by
          rw [HE.out, ← HB.out, List.drop_of_length_le (by rw [← fldB_size]; omega)]
          show _ = _ ++ []
          rw [List.append_nil]))
        go_wp2
        go_ret2
        exact ⟨by rw [← HV.out]; rfl, hni⟩
theorem print_from {w0 : World} (o d a b n t : Int) (hin : Hid (In64I ⟨o, d, a, b, n, t⟩)) (w : World) (hl : Hid (Laid w0)) (h : New w0 w) :
    Calls Tryd.prog 23 #[.agg #[.int .i64 o, .int .i64 d, .int .i64 a, .int .i64 b, .int .i64 n, .int .i64 t]] w fun e w' => e = .returned (.tuple #[.string (prtT ⟨o, d, a, b, n, t⟩), .int .i64 (prtE ⟨o, d, a, b, n, t⟩)]) ∧ New w0 w' :=
  (print_any o d a b n t hin.out w (hl.out.new h)).mono fun _ _ ⟨he, hw⟩ => ⟨he, h.trans hw⟩
end Go.Proofs.YtoeplfhigpdopaaDoor
