/-
  The contracts of ins.spare and ins.Check: for every instruction and every number.
-/
import Derived.Test.YtdghhedenjgjiaaGreatDoorInsA
import Derived.Test.YtdghhedenjgjiaaGreatDoorInsRead
namespace Go.Proofs.YtdghhedenjgjiaaGreatDoor
open Go.RowKit

def fldB (op : Int) : ByteArray := ⟨(fieldsL op).toArray⟩
theorem fldB_toList (op : Int) : (fldB op).data.toList = fieldsL op := by simp [fldB]
theorem fldB_size (op : Int) : (fldB op).size = (letters op).length := by
  show (fieldsL op).toArray.size = _
  simp [letters, lettersOf]
theorem flds_small : ∀ k < 19, ∀ c ∈ fldsL k, c.toNat < 128 := by decide +kernel
theorem fld_at {op : Int} {pos : Nat} (h : pos < (fldB op).size) : ∃ c : Int, Utf8.decode (fldB op) pos = (c.toNat, 1) ∧ ((c.toNat : Nat) : Int) = c ∧ (letters op).drop pos = c :: (letters op).drop (pos + 1) := by
  obtain ⟨c, hc, hd⟩ := decode_small h (by
    intro c hc
    rw [fldB_toList] at hc
    unfold fieldsL at hc
    split at hc
    · rename_i hk
      have hk' := known_iff.mp hk
      exact flds_small op.toNat (by omega) c hc
    · cases hc)
  refine ⟨c.toNat, by rw [hd]; simp, by simp, ?_⟩
  rw [fldB_toList] at hc
  have hl : (letters op)[pos]? = some (c.toNat : Int) := by
    unfold letters lettersOf
    rw [List.getElem?_map, hc]; rfl
  have hlt : pos < (letters op).length := by rw [← fldB_size]; exact h
  rw [List.drop_eq_getElem_cons hlt]
  rw [List.getElem?_eq_getElem hlt] at hl
  rw [Option.some.inj hl]

theorem fields_at (op : Int) (w : World) (hl : Laid w) :
    Calls Tryz.prog 64 #[.int .i64 op] w fun e w' => e = .returned (.string (fldB op)) ∧ w = w' := (fields_any op w hl).mono fun _ _ ⟨h1, h2⟩ => ⟨h1, h2.symm⟩

set_option maxHeartbeats 1000000 in
set_option maxRecDepth 100000 in
theorem spare_any (o d a b n t : Int) (w : World) (hl : Laid w) :
    Calls Tryz.prog 81 #[.agg #[.int .i64 o, .int .i64 d, .int .i64 a, .int .i64 b, .int .i64 n, .int .i64 t]] w fun e w' => e = .returned (.bool (spareB ⟨o, d, a, b, n, t⟩)) ∧ New w w' := by
  have HL := Lib.hid hl
  clear hl
  go_enter Tryz.func81, Tryz.ntmps81
  go_wp2_with (go_at_call 64; refine (fields_at o _ ((HL.out.alloc _).alloc _)).mono ?_; rintro e w1 ⟨rfl, rfl⟩)
  go_loopw [] (fun wr => ∃ (r : I) (pos : Nat), wr.heap[w.heap.size + 2]? = some (.stringIter (fldB o) pos) ∧ Has wr w.heap.size ⟨o, d, a, b, n, t⟩ ∧ Has wr (w.heap.size + 1) r ∧ New w wr ∧ Hid (bareOf ((letters o).drop pos) r = bareOf (letters o) ⟨o, d, a, b, n, t⟩) ∧ Hid (r.op = o)) (fun wr => (fldB o).size - wr.iterPos (w.heap.size + 2))
  case atStart =>
    refine ⟨⟨o, d, a, b, n, t⟩, 0, alloc_at (by rw [alloc_size, alloc_size]) _, ?_, ?_, ((alloc_new _ _).alloc _).alloc _, Lib.hid rfl, Lib.hid rfl⟩
    · exact (Has.box w ⟨o, d, a, b, n, t⟩).new ((alloc_new _ _).alloc _)
    · have h := (Has.box (w.alloc (.cells #[.int .i64 o, .int .i64 d, .int .i64 a, .int .i64 b, .int .i64 n, .int .i64 t] 72)) ⟨o, d, a, b, n, t⟩).new (alloc_new _ (.stringIter (fldB o) 0))
      rw [alloc_size] at h
      exact h
  case round =>
    obtain ⟨⟨o', d', a', b', n', t'⟩, pos, hit, hx, hr, hnw, HB, HO⟩ := hrel
    by_cases hp : pos < (fldB o).size
    · obtain ⟨c, hdec, hc, hdrop⟩ := fld_at hp
      have hnx : ∀ ty, (Instr.next (.pointer (some ⟨w.heap.size + 2, 0, none⟩)) true ty).run Tryz.prog wr = _ := fun ty => next_at hit hp ty
      rw [hdec] at hnx
      simp only [hc] at hnx
      have hr1 := hr.put (.stringIter (fldB o) (pos + 1)) (k := w.heap.size + 2) (by omega)
      have HR := Lib.hid hr1
      have HD := Lib.hid hdrop
      clear hr1 hdec hdrop hc
      go_wp2_with (first
        | (refine wpList_ldI rfl (.tmp 3) rfl _ rfl HR.out ?_)
        | (go_at_call 67; refine (with_any o' d' a' b' n' t' c 0 _).mono ?_; rintro e w1 ⟨rfl, hn1⟩)
        | (refine wpList_stI rfl rfl (.tmp 3) (.tmp 16) rfl _ rfl (withV ⟨o', d', a', b', n', t'⟩ c 0) rfl (HR.out.new hn1) ?_))
      have hi2 := hn1.heap (putO_same (o := .stringIter (fldB o) (pos + 1)) hit)
      have hi3 : (putO w1 (w.heap.size + 1) (.cells #[.int .i64 (withV ⟨o', d', a', b', n', t'⟩ c 0).op, .int .i64 (withV ⟨o', d', a', b', n', t'⟩ c 0).d, .int .i64 (withV ⟨o', d', a', b', n', t'⟩ c 0).a, .int .i64 (withV ⟨o', d', a', b', n', t'⟩ c 0).b, .int .i64 (withV ⟨o', d', a', b', n', t'⟩ c 0).n, .int .i64 (withV ⟨o', d', a', b', n', t'⟩ c 0).t] 72 (0, 0))).heap[w.heap.size + 2]? = some (.stringIter (fldB o) (pos + 1)) := by rw [putO_other (by omega)]; exact hi2
      go_roundw
      case rel =>
        refine ⟨withV ⟨o', d', a', b', n', t'⟩ c 0, pos + 1, hi3, ?_, ?_, ?_, ?_, ?_⟩
        · exact ((hx.put _ (by omega)).new hn1).put _ (by omega)
        · exact (HR.out.new hn1).stored _
        · exact ((hnw.put (by omega) _).trans hn1).put (by omega) _
        · exact Lib.hid (by rw [← HB.out, HD.out]; rfl)
        · exact Lib.hid (by rw [← HO.out]; unfold withV; repeat' split
                            all_goals rfl)
      case measure => rw [iterPos_at hi3, iterPos_at hit]; omega
    · have hnx : ∀ ty, (Instr.next (.pointer (some ⟨w.heap.size + 2, 0, none⟩)) true ty).run Tryz.prog wr = _ := fun ty => next_stop hit hp ty
      have hd : (letters o).drop pos = [] := List.drop_of_length_le (by rw [← fldB_size]; omega)
      have HE : Hid (spareB ⟨o, d, a, b, n, t⟩ = !sameB ⟨o', d', a', b', n', t'⟩ (zeroI o)) := Lib.hid (by
        have h := HB.out
        rw [hd] at h
        show (!sameB (bareOf (letters o) _) (zeroI o)) = _
        rw [← h]; rfl)
      have hc0 := hx.cell.1
      clear hd
      go_wp2_with (refine wpList_ldI rfl (.tmp 3) rfl _ rfl hr ?_)
      all_goals
        go_ret
        refine ⟨?_, hnw⟩
        rw [HE.out]
        simp_all [sameB, zeroI]

theorem lett_any {op : Int} {x : I} {n e : Int} {pos : Nat} {c : Int} (h : (letters op).drop pos = c :: (letters op).drop (pos + 1)) (hh : faultV c (fieldV x c) n = e) : hitB (letters op) x n e = true := by
  unfold hitB
  rw [List.any_eq_true]
  exact ⟨c, List.mem_of_mem_drop (by rw [h]; exact List.mem_cons_self ..), by simp [hh]⟩
theorem hit_more {op : Int} {x : I} {n e : Int} {pos : Nat} {c : Int} (h : (letters op).drop pos = c :: (letters op).drop (pos + 1)) (hh : ¬ faultV c (fieldV x c) n = e) (hb : hitB ((letters op).drop pos) x n e = hitB (letters op) x n e) : hitB ((letters op).drop (pos + 1)) x n e = hitB (letters op) x n e := by
  rw [← hb, h]
  unfold hitB
  rw [List.any_cons]
  simp [hh]

def errK (k : Nat) : Int := if k = 0 then 1 else if k = 1 then 6 else 4
theorem chk_pick {L : List Int} {x : I} {n : Int} {k : Nat} (hk : k < 3) (hj : ∀ j < k, hitB L x n (errK j) = false) (h : hitB L x n (errK k) = true) :
    (if hitB L x n 1 = true then (1 : Int) else if hitB L x n 6 = true then 6 else if hitB L x n 4 = true then 4 else 0) = errK k := by
  match k, hk with
  | 0, _ =>
    have h : hitB L x n 1 = true := h
    rw [h]; rfl
  | 1, _ =>
    have h0 : hitB L x n 1 = false := hj 0 (by omega)
    have h : hitB L x n 6 = true := h
    rw [h0, h]; rfl
  | 2, _ =>
    have h0 : hitB L x n 1 = false := hj 0 (by omega)
    have h1 : hitB L x n 6 = false := hj 1 (by omega)
    have h : hitB L x n 4 = true := h
    rw [h0, h1, h]; rfl
theorem errK_index {k : Nat} (h : k < 3) (w : World) : (Instr.index 123 (.agg #[.int .i64 1, .int .i64 6, .int .i64 4]) (.int .i64 (k : Int))).run Tryz.prog w = .ok (.int .i64 (errK k)) w := by
  match k, h with
  | 0, _ => simp [Instr.index, go_sem, errK]
  | 1, _ => simp [Instr.index, go_sem, errK]
  | 2, _ => simp [Instr.index, go_sem, errK]

set_option maxHeartbeats 2000000 in
set_option maxRecDepth 100000 in
theorem check_any (o d a b n t m : Int) (w : World) (hl : Laid w) :
    Calls Tryz.prog 68 #[.agg #[.int .i64 o, .int .i64 d, .int .i64 a, .int .i64 b, .int .i64 n, .int .i64 t], .int .i64 m] w fun e w' => e = .returned (.int .i64 (chkV ⟨o, d, a, b, n, t⟩ m)) ∧ New w w' := by
  have HL := Lib.hid hl
  clear hl
  have hx0 := Lib.hid (Has.box w ⟨o, d, a, b, n, t⟩)
  cases hk : knownB o with
  | false =>
    have e1 : chkV ⟨o, d, a, b, n, t⟩ m = 1 := by unfold chkV; rw [if_pos hk]
    rw [e1]
    go_enter Tryz.func68, Tryz.ntmps68
    go_wp2_with (go_at_call 63; refine (known_any _ _).mono ?_; rintro e w1 ⟨rfl, rfl⟩)
    go_ret
    exact ⟨rfl, alloc_new _ _⟩
  | true =>
    cases hsp : spareB ⟨o, d, a, b, n, t⟩ with
    | true =>
      have e1 : chkV ⟨o, d, a, b, n, t⟩ m = 1 := by unfold chkV; rw [if_neg (by rw [hk]; decide), if_pos hsp]
      rw [e1]
      go_enter Tryz.func68, Tryz.ntmps68
      go_wp2_with (first | (go_at_call 63; refine (known_any _ _).mono ?_; rintro e w1 ⟨rfl, rfl⟩) | (go_at_call 81; refine (spare_any _ _ _ _ _ _ _ (HL.out.alloc _)).mono ?_; rintro e w1 ⟨rfl, hn1⟩))
      go_ret
      exact ⟨rfl, (alloc_new _ _).trans hn1⟩
    | false =>
      have e1 : chkV ⟨o, d, a, b, n, t⟩ m = if hitB (letters o) ⟨o, d, a, b, n, t⟩ m 1 = true then 1 else if hitB (letters o) ⟨o, d, a, b, n, t⟩ m 6 = true then 6 else if hitB (letters o) ⟨o, d, a, b, n, t⟩ m 4 = true then 4 else 0 := by
        unfold chkV; rw [if_neg (by rw [hk]; decide), if_neg (by rw [hsp]; decide)]
      have HC := Lib.hid e1
      clear e1
      go_enter Tryz.func68, Tryz.ntmps68
      go_wp2_with (first | (go_at_call 63; refine (known_any _ _).mono ?_; rintro e w1 ⟨rfl, rfl⟩) | (go_at_call 81; refine (spare_any _ _ _ _ _ _ _ (HL.out.alloc _)).mono ?_; rintro e w1 ⟨rfl, hn1⟩))
      go_loopw [18] (fun v wr => ∃ k : Nat, k ≤ 3 ∧ v = .int .i64 k ∧ Has wr w.heap.size ⟨o, d, a, b, n, t⟩ ∧ New w wr ∧ Hid (∀ j < k, hitB (letters o) ⟨o, d, a, b, n, t⟩ m (errK j) = false)) (fun v _ => 3 - (intOf v).toNat)
      case atStart => exact ⟨0, by omega, rfl, hx0.out.new hn1, (alloc_new _ _).trans hn1, Lib.hid (fun j hj => by omega)⟩
      case round =>
        obtain ⟨k, hk3, rfl, hx, hnw, HJ⟩ := hrel
        obtain ⟨wo, rfl⟩ : ∃ wo, wo = wr := ⟨_, rfl⟩
        by_cases hlt : k < 3
        · have hc0 := hx.cell.1
          have hek := errK_index hlt wo
          go_wp2_with (go_at_call 64; refine (fields_at o _ (HL.out.new hnw)).mono ?_; rintro e w1 ⟨rfl, rfl⟩)
          go_loopw [] (fun wr => ∃ pos : Nat, wr.heap[wo.heap.size]? = some (.stringIter (fldB o) pos) ∧ Has wr w.heap.size ⟨o, d, a, b, n, t⟩ ∧ New w wr ∧ Hid (hitB ((letters o).drop pos) ⟨o, d, a, b, n, t⟩ m (errK k) = hitB (letters o) ⟨o, d, a, b, n, t⟩ m (errK k))) (fun wr => (fldB o).size - wr.iterPos wo.heap.size)
          case atStart => exact ⟨0, alloc_at rfl _, hx.new (alloc_new _ _), hnw.alloc _, Lib.hid rfl⟩
          case round =>
            obtain ⟨pos, hit, hxi, hni, HB⟩ := hrel
            have hgne : w.heap.size ≠ wo.heap.size := by have := heap_lt hx; omega
            have hgle : w.heap.size ≤ wo.heap.size := hnw.size
            by_cases hp : pos < (fldB o).size
            · obtain ⟨c, hdec, hc, hdrop⟩ := fld_at hp
              have hnx : ∀ ty, (Instr.next (.pointer (some ⟨wo.heap.size, 0, none⟩)) true ty).run Tryz.prog wr = _ := fun ty => next_at hit hp ty
              rw [hdec] at hnx
              simp only [hc] at hnx
              have HR := Lib.hid (hxi.put (.stringIter (fldB o) (pos + 1)) hgne)
              have HI := Lib.hid (putO_same (o := .stringIter (fldB o) (pos + 1)) hit)
              have HD := Lib.hid hdrop
              clear hdec hdrop hc
              cases hf : decide (faultV c (fieldV ⟨o, d, a, b, n, t⟩ c) m = errK k) with
              | true =>
                have hq : (faultV c (fieldV ⟨o, d, a, b, n, t⟩ c) m == errK k) = true := by simpa using hf
                have HV : Hid (chkV ⟨o, d, a, b, n, t⟩ m = errK k) := Lib.hid (by rw [HC.out]; exact chk_pick hlt HJ.out (lett_any HD.out (of_decide_eq_true hf)))
                clear hf
                go_wp2_with (first | (refine wpList_ldI rfl (.tmp 2) rfl _ rfl HR.out ?_) | (go_at_call 82; refine (field_any o d a b n t c _).mono ?_; rintro e w2 ⟨rfl, hn2⟩) | (go_at_call 66; refine (fault_any _ _ _ _).mono ?_; rintro e w3 ⟨rfl, rfl⟩))
                go_ret
                exact ⟨by rw [HV.out]; rfl, (hni.put hgle _).trans hn2⟩
              | false =>
                have hq : (faultV c (fieldV ⟨o, d, a, b, n, t⟩ c) m == errK k) = false := by simpa using hf
                have HF := Lib.hid (of_decide_eq_false hf)
                clear hf
                go_wp2_with (first | (refine wpList_ldI rfl (.tmp 2) rfl _ rfl HR.out ?_) | (go_at_call 82; refine (field_any o d a b n t c _).mono ?_; rintro e w2 ⟨rfl, hn2⟩) | (go_at_call 66; refine (fault_any _ _ _ _).mono ?_; rintro e w3 ⟨rfl, rfl⟩))
                go_roundw
                case rel => exact ⟨pos + 1, hn2.heap HI.out, HR.out.new hn2, (hni.put hgle _).trans hn2, Lib.hid (hit_more HD.out HF.out HB.out)⟩
                case measure => rw [iterPos_at (hn2.heap HI.out), iterPos_at hit]; omega
            · have hnx : ∀ ty, (Instr.next (.pointer (some ⟨wo.heap.size, 0, none⟩)) true ty).run Tryz.prog wr = _ := fun ty => next_stop hit hp ty
              have HN : Hid (hitB (letters o) ⟨o, d, a, b, n, t⟩ m (errK k) = false) := Lib.hid (by
                rw [← HB.out, List.drop_of_length_le (by rw [← fldB_size]; omega)]; rfl)
              go_wp2
              go_roundw
              case rel =>
                refine ⟨k + 1, by omega, by go_num, hxi, hni, Lib.hid (fun j hj => ?_)⟩
                by_cases hjk : j = k
                · rw [hjk]; exact HN.out
                · exact HJ.out j (by omega)
              case measure => simp [intOf]; omega
        · have HV : Hid (chkV ⟨o, d, a, b, n, t⟩ m = 0) := Lib.hid (by
            have h := HJ.out
            have h0 := h 0 (by omega)
            have h1 := h 1 (by omega)
            have h2 := h 2 (by omega)
            rw [HC.out]
            rw [show errK 0 = 1 from rfl] at h0
            rw [show errK 1 = 6 from rfl] at h1
            rw [show errK 2 = 4 from rfl] at h2
            rw [h0, h1, h2]; rfl)
          go_wp2
          go_ret
          exact ⟨by rw [HV.out]; rfl, hnw⟩
theorem spare_from {w0 : World} (o d a b n t : Int) (w : World) (hl : Hid (Laid w0)) (h : New w0 w) :
    Calls Tryz.prog 81 #[.agg #[.int .i64 o, .int .i64 d, .int .i64 a, .int .i64 b, .int .i64 n, .int .i64 t]] w fun e w' => e = .returned (.bool (spareB ⟨o, d, a, b, n, t⟩)) ∧ New w0 w' :=
  (spare_any o d a b n t w (hl.out.new h)).mono fun _ _ ⟨he, hw⟩ => ⟨he, h.trans hw⟩
theorem check_from {w0 : World} (o d a b n t m : Int) (w : World) (hl : Hid (Laid w0)) (h : New w0 w) :
    Calls Tryz.prog 68 #[.agg #[.int .i64 o, .int .i64 d, .int .i64 a, .int .i64 b, .int .i64 n, .int .i64 t], .int .i64 m] w fun e w' => e = .returned (.int .i64 (chkV ⟨o, d, a, b, n, t⟩ m)) ∧ New w0 w' :=
  (check_any o d a b n t m w (hl.out.new h)).mono fun _ _ ⟨he, hw⟩ => ⟨he, h.trans hw⟩
end Go.Proofs.YtdghhedenjgjiaaGreatDoor
