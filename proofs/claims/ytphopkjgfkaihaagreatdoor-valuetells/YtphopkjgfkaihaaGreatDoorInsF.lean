/-
  The contracts of ins.Moves and ins.Sets: for every instruction.
-/
import Derived.Test.YtphopkjgfkaihaaGreatDoorInsU
import Derived.Test.YtphopkjgfkaihaaGreatDoorInsMv
namespace Go.Proofs.YtphopkjgfkaihaaGreatDoor
open Go.RowKit

set_option maxHeartbeats 1000000 in
set_option maxRecDepth 100000 in
theorem sets_any (o d a b n t : Int) (w : World) (hl : Laid w) :
    Calls Tryz.prog 100 #[.agg #[.int .i64 o, .int .i64 d, .int .i64 a, .int .i64 b, .int .i64 n, .int .i64 t]] w fun e w' => e = .returned (.tuple #[.int .i64 (setsV ⟨o, d, a, b, n, t⟩), .bool (setsB o)]) ∧ New w w' := by
  have HL := Lib.hid hl
  have hx0 := Lib.hid (Has.box w ⟨o, d, a, b, n, t⟩)
  clear hl
  go_enter Tryz.func100, Tryz.ntmps100
  go_wp2_with (go_at_call 90; refine (fields_at o _ (HL.out.alloc _)).mono ?_; rintro e w1 ⟨rfl, rfl⟩)
  go_loopw [] (fun wr => ∃ pos : Nat, wr.heap[w.heap.size + 1]? = some (.stringIter (fldB o) pos) ∧ Has wr w.heap.size ⟨o, d, a, b, n, t⟩ ∧ New w wr ∧ Hid (decide ((68 : Int) ∈ (letters o).drop pos) = setsB o)) (fun wr => (fldB o).size - wr.iterPos (w.heap.size + 1))
  case atStart => exact ⟨0, alloc_at (by rw [alloc_size]) _, hx0.out.new (alloc_new _ _), (alloc_new _ _).alloc _, Lib.hid rfl⟩
  case round =>
    obtain ⟨pos, hit, hx, hni, HB⟩ := hrel
    by_cases hp : pos < (fldB o).size
    · obtain ⟨c, hdec, hc, hdrop⟩ := fld_at hp
      have hnx : ∀ ty, (Instr.next (.pointer (some ⟨w.heap.size + 1, 0, none⟩)) true ty).run Tryz.prog wr = _ := fun ty => next_at hit hp ty
      rw [hdec] at hnx
      simp only [hc] at hnx
      have hx1 := hx.put (.stringIter (fldB o) (pos + 1)) (k := w.heap.size + 1) (by omega)
      have hc1 := hx1.cell.2.1
      have HX := Lib.hid hx1
      have HT := Lib.hid (putO_same (o := .stringIter (fldB o) (pos + 1)) hit)
      have HD := Lib.hid hdrop
      clear hdec hdrop hc hx1
      by_cases h68 : c = 68
      · have HS := Lib.hid (sets_at HD.out h68)
        have q := beq_of h68
        go_wp2
        go_ret2
        refine ⟨?_, hni.put (by omega) _⟩
        rw [HS.out, show setsV ⟨o, d, a, b, n, t⟩ = d from if_pos HS.out]
        rfl
      · have q := bneq_of h68
        have H6 := Lib.hid h68
        clear h68
        go_wp2
        go_roundw
        case rel =>
          refine ⟨pos + 1, HT.out, HX.out, hni.put (by omega) _, Lib.hid ?_⟩
          rw [← HB.out, HD.out]
          have := H6.out
          simp [Ne.symm this]
        case measure => rw [iterPos_at HT.out, iterPos_at hit]; omega
    · have hnx : ∀ ty, (Instr.next (.pointer (some ⟨w.heap.size + 1, 0, none⟩)) true ty).run Tryz.prog wr = _ := fun ty => next_stop hit hp ty
      have HS : Hid (setsB o = false) := Lib.hid (by
        rw [← HB.out, List.drop_of_length_le (by rw [← fldB_size]; omega)]; rfl)
      go_wp2
      go_ret2
      refine ⟨?_, hni⟩
      rw [HS.out, show setsV ⟨o, d, a, b, n, t⟩ = 0 from if_neg (by show ¬ setsB o = true; rw [HS.out]; decide)]
      rfl

end Go.Proofs.YtphopkjgfkaihaaGreatDoor
