/-
  The contract of ins.Parse: for every text.
-/
import Derived.Test.YtdghhedenjgjiaaGreatDoorInsC0
namespace Go.Proofs.YtdghhedenjgjiaaGreatDoor
open Go.RowKit

def prsX (l : List UInt8) : I := (prs l).getD ⟨0, 0, 0, 0, 0, 0⟩
def prsE (l : List UInt8) : Int := if (prs l).isSome then 0 else 2
theorem prsX_none {l : List UInt8} (h : prs l = none) : prsX l = ⟨0, 0, 0, 0, 0, 0⟩ := by unfold prsX; rw [h]; rfl
theorem prsE_none {l : List UInt8} (h : prs l = none) : prsE l = 2 := by unfold prsE; rw [h]; rfl
theorem prsX_some {l : List UInt8} {x : I} (h : prs l = some x) : prsX l = x := by unfold prsX; rw [h]; rfl
theorem prsE_some {l : List UInt8} {x : I} (h : prs l = some x) : prsE l = 0 := by unfold prsE; rw [h]; rfl
theorem cut_len (l : List UInt8) : (cutL l).1.length ≤ l.length ∧ (cutL l).2.1.length ≤ l.length := by
  induction l with
  | nil => simp [cutL]
  | cons c l ih =>
    rw [cutL]
    split
    · simp
    · simp only [List.length_cons]; omega
theorem Has.var {w : World} {g : Nat} {x : I} (h : Has w g x) : (loadVar 72 ⟨g, 0, none⟩).run Tryz.prog w = .ok (.agg #[.int .i64 (x).op, .int .i64 (x).d, .int .i64 (x).a, .int .i64 (x).b, .int .i64 (x).n, .int .i64 (x).t]) w :=
  run_loadVar_row w g _ _ _ _ _ h Tryz.underlying72 rfl infoI
theorem Has.zero (w : World) : Has (w.alloc (.cells #[.int .i64 0, .int .i64 0, .int .i64 0, .int .i64 0, .int .i64 0, .int .i64 0] 72)) w.heap.size ⟨0, 0, 0, 0, 0, 0⟩ := heap_alloc_new _ _
theorem arr_list (l : List UInt8) : (⟨l.toArray⟩ : ByteArray).data.toList = l := by simp

set_option maxHeartbeats 4000000 in
set_option maxRecDepth 100000 in
theorem insParse_any (s : ByteArray) (hs : s.size ≤ 281474976710656) (w : World) (hl : Laid w) :
    Calls Tryz.prog 51 #[.string s] w fun e w' => e = .returned (.tuple #[.agg #[.int .i64 (prsX s.data.toList).op, .int .i64 (prsX s.data.toList).d, .int .i64 (prsX s.data.toList).a, .int .i64 (prsX s.data.toList).b, .int .i64 (prsX s.data.toList).n, .int .i64 (prsX s.data.toList).t], .int .i64 (prsE s.data.toList)]) ∧ New w w' := by
  have HL := Lib.hid hl
  have HS := Lib.hid hs
  have hz0 := Lib.hid (Has.zero w)
  clear hl hs
  cases hk : decide (opOfL (cutL s.data.toList).1 = 0) with
  | true =>
    have h' := of_decide_eq_true hk
    have hp : prs s.data.toList = none := by unfold prs; rw [if_pos h']
    rw [prsX_none hp, prsE_none hp]
    have hkn : knownB ((opOfL (cutL s.data.toList).1 : Nat) : Int) = false := by rw [h']; rfl
    clear hk h' hp
    go_enter Tryz.func51, Tryz.ntmps51
    go_wp2_with (first
      | (go_at_call 61; refine (cut_from s HS.out _ (New.refl _)).mono ?_; rintro e w1 ⟨rfl, hn1⟩)
      | (go_at_call 62; refine (opOf_any _ _ ((HL.out.alloc _).new hn1)).mono ?_; rw [arr_list]; rintro e w2 ⟨rfl, rfl⟩)
      | (go_at_call 63; refine (known_any _ _).mono ?_; rintro e w2 ⟨rfl, rfl⟩)
      | (refine wpList_stI rfl rfl (.tmp 2) (.tmp 25) rfl _ rfl ⟨0, 0, 0, 0, 0, 0⟩ rfl (hz0.out.new hn1) ?_))
    have hv := ((hz0.out.new hn1).stored ⟨0, 0, 0, 0, 0, 0⟩).var
    refine bodyPost_ret (by simp [results, Tryz.results51, asAddr, hv]) rfl ⟨rfl, ?_⟩
    exact ((alloc_new _ _).trans hn1).put (Nat.le_refl _) _
  | false =>
    have h' := of_decide_eq_false hk
    obtain ⟨h1, h2, h3⟩ := opOf_some h'
    have HP : Hid (rdI (letters (opOfL (cutL s.data.toList).1)) (cutL s.data.toList).2.1 (cutL s.data.toList).2.2 (zeroI (opOfL (cutL s.data.toList).1)) = prs s.data.toList) := Lib.hid (by unfold prs; rw [if_neg h'])
    have hlen := cut_len s.data.toList
    clear hk h'
    generalize hkk : opOfL (cutL s.data.toList).1 = k at *
    have hkn : knownB (k : Int) = true := known_iff.mpr (by omega)
    have HK := Lib.hid hkk
    have HLEN := Lib.hid hlen
    clear h3 hkk hlen
    go_enter Tryz.func51, Tryz.ntmps51
    go_wp2_with (first
      | (go_at_call 61; refine (cut_from s HS.out _ (New.refl _)).mono ?_; rintro e w1 ⟨rfl, hn1⟩)
      | (go_at_call 62; refine (opOf_any _ _ ((HL.out.alloc _).new hn1)).mono ?_; rw [arr_list, HK.out]; rintro e w2 ⟨rfl, rfl⟩)
      | (go_at_call 63; refine (known_any _ _).mono ?_; rintro e w2 ⟨rfl, rfl⟩)
      | (go_at_call 64; refine (fields_at _ _ (((HL.out.alloc _).new hn1).alloc _)).mono ?_; rintro e w2 ⟨rfl, rfl⟩))
    go_loopw [5, 6] (fun rv mv wr => ∃ (pos : Nat) (rest : List UInt8) (more : Bool) (x : I), rv = .string ⟨rest.toArray⟩ ∧ mv = .bool more ∧ wr.heap[w2.heap.size + 1]? = some (.stringIter (fldB k) pos) ∧ Has wr w.heap.size ⟨0, 0, 0, 0, 0, 0⟩ ∧ Has wr w2.heap.size x ∧ New w wr ∧ Hid (rdI ((letters k).drop pos) rest more x = prs s.data.toList) ∧ Hid (rest.length ≤ s.size)) (fun _ _ wr => (fldB k).size - wr.iterPos (w2.heap.size + 1))
    case atStart =>
      refine ⟨0, _, _, zeroI k, rfl, rfl, alloc_at (by rw [alloc_size]) _, ?_, ?_, (((alloc_new _ _).trans hn1).alloc _).alloc _, Lib.hid HP.out, Lib.hid HLEN.out.2⟩
      · exact (hz0.out.new hn1).new ((alloc_new _ _).alloc _)
      · exact (Has.box w2 (zeroI k)).new (alloc_new _ _)
    case round =>
      obtain ⟨pos, rest, more, ⟨o', d', a', b', n', t'⟩, rfl, rfl, hit, hz, hx, hni, HB, HR⟩ := hrel
      have hgle : w.heap.size < w2.heap.size := by have := hn1.size; rw [alloc_size] at this; omega
      by_cases hp : pos < (fldB k).size
      · obtain ⟨c, hdec, hc, hdrop⟩ := fld_at hp
        have hnx : ∀ ty, (Instr.next (.pointer (some ⟨w2.heap.size + 1, 0, none⟩)) true ty).run Tryz.prog wr = _ := fun ty => next_at hit hp ty
        rw [hdec] at hnx
        simp only [hc] at hnx
        have HZ := Lib.hid (hz.put (.stringIter (fldB k) (pos + 1)) (k := w2.heap.size + 1) (by omega))
        have HX := Lib.hid (hx.put (.stringIter (fldB k) (pos + 1)) (k := w2.heap.size + 1) (by omega))
        have HT := Lib.hid (putO_same (o := .stringIter (fldB k) (pos + 1)) hit)
        have HNW := Lib.hid (hni.put (g := w2.heap.size + 1) (by omega) (.stringIter (fldB k) (pos + 1)))
        have HB2 : Hid ((if readE c (cutL rest).1 = 0 ∧ faultV c (readV c (cutL rest).1) 200 = 0 then rdI ((letters k).drop (pos + 1)) (cutL rest).2.1 (cutL rest).2.2 (withV ⟨o', d', a', b', n', t'⟩ c (readV c (cutL rest).1)) else none) = prs s.data.toList) := Lib.hid (by rw [← HB.out, hdrop, rdI])
        have HCL := Lib.hid (cut_len rest)
        clear hdec hdrop hc HB
        have hbig1 : Hid ((⟨rest.toArray⟩ : ByteArray).size ≤ 281474976710656) := Lib.hid (by
          show rest.toArray.size ≤ _
          have := HR.out
          have := HS.out
          simp; omega)
        have hbig2 : Hid ((⟨(cutL rest).1.toArray⟩ : ByteArray).size ≤ 281474976710656) := Lib.hid (by
          show (cutL rest).1.toArray.size ≤ _
          have := HR.out
          have := HS.out
          have := HCL.out.1
          simp; omega)
        by_cases hre : readE c (cutL rest).1 = 0
        · by_cases hfa : faultV c (readV c (cutL rest).1) 200 = 0
          · have q2 : (faultV c (readV c (cutL rest).1) 200 != 0) = false := by simpa using hfa
            have HB3 : Hid (rdI ((letters k).drop (pos + 1)) (cutL rest).2.1 (cutL rest).2.2 (withV ⟨o', d', a', b', n', t'⟩ c (readV c (cutL rest).1)) = prs s.data.toList) := Lib.hid (by rw [← HB2.out, if_pos ⟨hre, hfa⟩])
            clear hfa HB2
            go_wp2_with (first
              | (go_at_call 61; refine (cut_from ⟨rest.toArray⟩ hbig1.out _ (New.refl _)).mono ?_; rw [arr_list]; rintro e w3 ⟨rfl, hn3⟩)
              | (go_at_call 65; refine (read_from c ⟨(cutL rest).1.toArray⟩ hbig2.out _ (Lib.hid (HL.out.new (HNW.out.trans hn3))) (New.refl _)).mono ?_; rw [arr_list]; rintro e w4 ⟨rfl, hn4⟩)
              | (go_at_call 66; refine (fault_any _ _ _ _).mono ?_; rintro e w5 ⟨rfl, rfl⟩)
              | (refine wpList_ldI rfl (.tmp 8) rfl _ rfl ((HX.out.new hn3).new hn4) ?_)
              | (go_at_call 67; refine (with_any o' d' a' b' n' t' c _ _).mono ?_; rintro e w6 ⟨rfl, hn6⟩)
              | (refine wpList_stI rfl rfl (.tmp 8) (.tmp 58) rfl _ rfl (withV ⟨o', d', a', b', n', t'⟩ c (readV c (cutL rest).1)) rfl (((HX.out.new hn3).new hn4).new hn6) ?_)
              | (refine wpList_stI rfl rfl (.tmp 2) (.tmp 54) rfl _ rfl ⟨0, 0, 0, 0, 0, 0⟩ rfl ((HZ.out.new hn3).new hn4) ?_))
            have hi6 := hn6.heap (hn4.heap (hn3.heap HT.out))
            have hi7 : (putO w6 w2.heap.size (.cells #[.int .i64 (withV ⟨o', d', a', b', n', t'⟩ c (readV c (cutL rest).1)).op, .int .i64 (withV ⟨o', d', a', b', n', t'⟩ c (readV c (cutL rest).1)).d, .int .i64 (withV ⟨o', d', a', b', n', t'⟩ c (readV c (cutL rest).1)).a, .int .i64 (withV ⟨o', d', a', b', n', t'⟩ c (readV c (cutL rest).1)).b, .int .i64 (withV ⟨o', d', a', b', n', t'⟩ c (readV c (cutL rest).1)).n, .int .i64 (withV ⟨o', d', a', b', n', t'⟩ c (readV c (cutL rest).1)).t] 72 (0, 0))).heap[w2.heap.size + 1]? = some (.stringIter (fldB k) (pos + 1)) := by rw [putO_other (by omega)]; exact hi6
            go_roundw
            case rel =>
              refine ⟨pos + 1, _, _, withV ⟨o', d', a', b', n', t'⟩ c (readV c (cutL rest).1), rfl, rfl, hi7, ?_, ?_, ?_, Lib.hid HB3.out, Lib.hid ?_⟩
              · exact (((HZ.out.new hn3).new hn4).new hn6).put _ (by omega)
              · exact (((HX.out.new hn3).new hn4).new hn6).stored _
              · exact (((HNW.out.trans hn3).trans hn4).trans hn6).put (by omega) _
              · have := HCL.out.2
                have := HR.out
                omega
            case measure => rw [iterPos_at hi7, iterPos_at hit]; omega
          · have q2 : (faultV c (readV c (cutL rest).1) 200 != 0) = true := by simpa using hfa
            have hpn : prs s.data.toList = none := by rw [← HB2.out, if_neg (fun h => hfa h.2)]
            have HXN := Lib.hid (prsX_none hpn)
            have HEN := Lib.hid (prsE_none hpn)
            clear hfa HB2 hpn
            go_wp2_with (first
              | (go_at_call 61; refine (cut_from ⟨rest.toArray⟩ hbig1.out _ (New.refl _)).mono ?_; rw [arr_list]; rintro e w3 ⟨rfl, hn3⟩)
              | (go_at_call 65; refine (read_from c ⟨(cutL rest).1.toArray⟩ hbig2.out _ (Lib.hid (HL.out.new (HNW.out.trans hn3))) (New.refl _)).mono ?_; rw [arr_list]; rintro e w4 ⟨rfl, hn4⟩)
              | (go_at_call 66; refine (fault_any _ _ _ _).mono ?_; rintro e w5 ⟨rfl, rfl⟩)
              | (refine wpList_ldI rfl (.tmp 8) rfl _ rfl ((HX.out.new hn3).new hn4) ?_)
              | (go_at_call 67; refine (with_any o' d' a' b' n' t' c _ _).mono ?_; rintro e w6 ⟨rfl, hn6⟩)
              | (refine wpList_stI rfl rfl (.tmp 8) (.tmp 58) rfl _ rfl (withV ⟨o', d', a', b', n', t'⟩ c (readV c (cutL rest).1)) rfl (((HX.out.new hn3).new hn4).new hn6) ?_)
              | (refine wpList_stI rfl rfl (.tmp 2) (.tmp 54) rfl _ rfl ⟨0, 0, 0, 0, 0, 0⟩ rfl ((HZ.out.new hn3).new hn4) ?_))
            have hv := (((HZ.out.new hn3).new hn4).stored ⟨0, 0, 0, 0, 0, 0⟩).var
            have HXX := HXN.out
            have HEE := HEN.out
            refine bodyPost_ret (by simp [results, Tryz.results51, asAddr, hv]; rfl) rfl ⟨by rw [HXX, HEE], ?_⟩
            exact ((HNW.out.trans hn3).trans hn4).put (Nat.le_refl _) _
        · have hpn : prs s.data.toList = none := by rw [← HB2.out, if_neg (fun h => hre h.1)]
          have HXN := Lib.hid (prsX_none hpn)
          have HEN := Lib.hid (prsE_none hpn)
          clear HB2 hpn
          go_wp2_with (first
            | (go_at_call 61; refine (cut_from ⟨rest.toArray⟩ hbig1.out _ (New.refl _)).mono ?_; rw [arr_list]; rintro e w3 ⟨rfl, hn3⟩)
            | (go_at_call 65; refine (read_from c ⟨(cutL rest).1.toArray⟩ hbig2.out _ (Lib.hid (HL.out.new (HNW.out.trans hn3))) (New.refl _)).mono ?_; rw [arr_list]; rintro e w4 ⟨rfl, hn4⟩)
            | (go_at_call 66; refine (fault_any _ _ _ _).mono ?_; rintro e w5 ⟨rfl, rfl⟩)
            | (refine wpList_ldI rfl (.tmp 8) rfl _ rfl ((HX.out.new hn3).new hn4) ?_)
            | (go_at_call 67; refine (with_any o' d' a' b' n' t' c _ _).mono ?_; rintro e w6 ⟨rfl, hn6⟩)
            | (refine wpList_stI rfl rfl (.tmp 8) (.tmp 58) rfl _ rfl (withV ⟨o', d', a', b', n', t'⟩ c (readV c (cutL rest).1)) rfl (((HX.out.new hn3).new hn4).new hn6) ?_)
            | (refine wpList_stI rfl rfl (.tmp 2) (.tmp 54) rfl _ rfl ⟨0, 0, 0, 0, 0, 0⟩ rfl ((HZ.out.new hn3).new hn4) ?_))
          have hv := (((HZ.out.new hn3).new hn4).stored ⟨0, 0, 0, 0, 0, 0⟩).var
          have HXX := HXN.out
          have HEE := HEN.out
          refine bodyPost_ret (by simp [results, Tryz.results51, asAddr, hv]; rfl) rfl ⟨by rw [HXX, HEE], ?_⟩
          exact ((HNW.out.trans hn3).trans hn4).put (Nat.le_refl _) _
      · have hnx : ∀ ty, (Instr.next (.pointer (some ⟨w2.heap.size + 1, 0, none⟩)) true ty).run Tryz.prog wr = _ := fun ty => next_stop hit hp ty
        have HE : Hid ((if more = true then none else some ⟨o', d', a', b', n', t'⟩) = prs s.data.toList) := Lib.hid (by rw [← HB.out, List.drop_of_length_le (by rw [← fldB_size]; omega), rdI])
        cases more with
        | true =>
          have HXN := Lib.hid (prsX_none (l := s.data.toList) (by rw [← HE.out]; rfl))
          have HEN := Lib.hid (prsE_none (l := s.data.toList) (by rw [← HE.out]; rfl))
          go_wp2_with (refine wpList_stI rfl rfl (.tmp 2) (.tmp 60) rfl _ rfl ⟨0, 0, 0, 0, 0, 0⟩ rfl hz ?_)
          have hv := (hz.stored ⟨0, 0, 0, 0, 0, 0⟩).var
          have HXX := HXN.out
          have HEE := HEN.out
          refine bodyPost_ret (by simp [results, Tryz.results51, asAddr, hv]; rfl) rfl ⟨by rw [HXX, HEE], ?_⟩
          exact hni.put (Nat.le_refl _) _
        | false =>
          have HXN := Lib.hid (prsX_some (l := s.data.toList) (x := ⟨o', d', a', b', n', t'⟩) (by rw [← HE.out]; rfl))
          have HEN := Lib.hid (prsE_some (l := s.data.toList) (x := ⟨o', d', a', b', n', t'⟩) (by rw [← HE.out]; rfl))
          go_wp2_with (first | (refine wpList_ldI rfl (.tmp 8) rfl _ rfl hx ?_) | (refine wpList_stI rfl rfl (.tmp 2) (.tmp 61) rfl _ rfl ⟨o', d', a', b', n', t'⟩ rfl hz ?_))
          have hv := (hz.stored ⟨o', d', a', b', n', t'⟩).var
          have HXX := HXN.out
          have HEE := HEN.out
          refine bodyPost_ret (by simp [results, Tryz.results51, asAddr, hv]; rfl) rfl ⟨by rw [HXX, HEE], ?_⟩
          exact hni.put (Nat.le_refl _) _
theorem insParse_from {w0 : World} (s : ByteArray) (hs : Hid (s.size ≤ 281474976710656)) (w : World) (hl : Hid (Laid w0)) (h : New w0 w) :
    Calls Tryz.prog 51 #[.string s] w fun e w' => e = .returned (.tuple #[.agg #[.int .i64 (prsX s.data.toList).op, .int .i64 (prsX s.data.toList).d, .int .i64 (prsX s.data.toList).a, .int .i64 (prsX s.data.toList).b, .int .i64 (prsX s.data.toList).n, .int .i64 (prsX s.data.toList).t], .int .i64 (prsE s.data.toList)]) ∧ New w0 w' :=
  (insParse_any s hs.out w (hl.out.new h)).mono fun _ _ ⟨he, hw⟩ => ⟨he, h.trans hw⟩
end Go.Proofs.YtdghhedenjgjiaaGreatDoor
