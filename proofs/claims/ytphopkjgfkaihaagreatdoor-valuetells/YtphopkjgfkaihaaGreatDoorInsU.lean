/-
  The contract of ins.Uses: for every instruction.
-/
import Derived.Test.YtphopkjgfkaihaaGreatDoorInsAll
import Derived.Test.YtphopkjgfkaihaaGreatDoorPlain
import Derived.OwnWalk
import Derived.Test.YtphopkjgfkaihaaGreatDoorAsmAll
namespace Go.Proofs.YtphopkjgfkaihaaGreatDoor
open Go.RowKit

/-- What an append of one number does to what a round holds. -/
theorem uses_step {w wr w2 : World} {G : Nat} {s : ByteArray} {pos : Nat} {x : I} {e : TypeId} {v v' : Value} {acc : List Int} {y : Int}
    (hit : wr.heap[G]? = some (.stringIter s pos)) (hG : w.heap.size < G) (hx : Has wr w.heap.size x) (hn : New w wr) (hown : wr.ownsRow (G + 1) e 1 v acc.length (acc.map (Value.int .i64)))
    (hown' : w2.ownsRow (G + 1) e 1 v' (acc.length + 1) (acc.map (Value.int .i64) ++ [.int .i64 y])) (hg : (wr.alloc (.cells #[.int .i64 y] e)).grownBy w2 v.ownBlock) :
    w2.heap[G]? = some (.stringIter s pos) ∧ Has w2 w.heap.size x ∧ New w w2 ∧ w2.ownsRow (G + 1) e 1 v' (acc ++ [y]).length ((acc ++ [y]).map (Value.int .i64)) := by
  have hr := owns_row hown
  refine ⟨grown_heap hg ((alloc_new _ _).heap hit) (fun k hk => by have := hr k hk; omega), ?_, ?_, ?_⟩
  · exact grown_heap hg ((alloc_new _ _).heap hx) (fun k hk => by have := hr k hk; omega)
  · refine Below.grown (hn.alloc _) hg ?_ (fun k hk => by have := hr k hk; omega)
    have := (hn.alloc (.cells #[.int .i64 y] e)).size
    exact this
  · simpa using hown'
set_option maxHeartbeats 2000000 in
set_option maxRecDepth 100000 in
theorem uses_any (o d a b n t : Int) (w : World) (hl : Laid w) :
    Calls Tryz.prog 78 #[.agg #[.int .i64 o, .int .i64 d, .int .i64 a, .int .i64 b, .int .i64 n, .int .i64 t]] w fun e w' => ∃ v, e = .returned v ∧ w'.ownsRow (w.heap.size + 2) 3 1 v (usesL ⟨o, d, a, b, n, t⟩).length ((usesL ⟨o, d, a, b, n, t⟩).map (Value.int .i64)) ∧ New w w' := by
  have HL := Lib.hid hl
  have hx0 := Lib.hid (Has.box w ⟨o, d, a, b, n, t⟩)
  obtain ⟨i0, hi, hz0, hz1, hz2⟩ := info_parts infoInt
  clear hl
  go_enter Tryz.func78, Tryz.ntmps78
  go_wp2_with (go_at_call 90; refine (fields_at o _ (HL.out.alloc _)).mono ?_; rintro e w1 ⟨rfl, rfl⟩)
  go_loopw [3] (fun v wr => ∃ (pos : Nat) (acc : List Int), wr.heap[w.heap.size + 1]? = some (.stringIter (fldB o) pos) ∧ Has wr w.heap.size ⟨o, d, a, b, n, t⟩ ∧ New w wr ∧ wr.ownsRow (w.heap.size + 2) 3 1 v acc.length (acc.map (Value.int .i64)) ∧ Hid (acc ++ usesR ⟨o, d, a, b, n, t⟩ ((letters o).drop pos) = usesL ⟨o, d, a, b, n, t⟩) ∧ acc.length ≤ pos) (fun _ wr => (fldB o).size - wr.iterPos (w.heap.size + 1))
  case atStart => exact ⟨0, [], alloc_at (by rw [alloc_size]) _, hx0.out.new (alloc_new _ _), (alloc_new _ _).alloc _, World.ownsRow_nil _ _ _ _, Lib.hid rfl, Nat.le_refl _⟩
  case round =>
    obtain ⟨pos, acc, hit, hx, hni, hown, HB, hacc⟩ := hrel
    by_cases hp : pos < (fldB o).size
    · obtain ⟨c, hdec, hc, hdrop⟩ := fld_at hp
      have hnx : ∀ ty, (Instr.next (.pointer (some ⟨w.heap.size + 1, 0, none⟩)) true ty).run Tryz.prog wr = _ := fun ty => next_at hit hp ty
      rw [hdec] at hnx
      simp only [hc] at hnx
      have hx1 := hx.put (.stringIter (fldB o) (pos + 1)) (k := w.heap.size + 1) (by omega)
      have hc2 := hx1.cell.2.2.1
      have hc3 := hx1.cell.2.2.2
      have HX := Lib.hid hx1
      have HT := Lib.hid (putO_same (o := .stringIter (fldB o) (pos + 1)) hit)
      have HD := Lib.hid hdrop
      have HW := Lib.hid (owns_put hown (g := w.heap.size + 1) (by omega) (.stringIter (fldB o) (pos + 1)))
      have HLT := (show pos < 3 from by
        have h1 := fldB_size o
        have h2 : (letters o).length ≤ 3 := by
          cases hk : knownB o with
          | false => unfold letters fieldsL; rw [hk]; simp [lettersOf]
          | true => rcases letters_of hk with e | e | e | e | e | e | e | e | e <;> rw [e] <;> simp
        omega)
      have hsz := heap_lt hit
      clear hdec hdrop hc hx1 hown
      by_cases h65 : c = 65
      · have q := beq_of h65
        have HU : Hid ((acc ++ [a]) ++ usesR ⟨o, d, a, b, n, t⟩ ((letters o).drop (pos + 1)) = usesL ⟨o, d, a, b, n, t⟩) := Lib.hid (by rw [← HB.out, HD.out, usesR, if_pos h65]; simp)
        go_wp2_with (at_builtin; refine wpList_append_own _ rfl (.tmp 16) (.tmp 19) 101 rfl (w.heap.size + 2) 3 i0 (.int .i64 0) 1 8 Tryz.underlying101 hi hz0 hz1 hz2 rfl (by decide) _ _ _ rfl (HW.out.alloc _) ⟨(putO wr (w.heap.size + 1) (.stringIter (fldB o) (pos + 1))).heap.size, 0, none⟩ 1 1 [.int .i64 a] rfl rfl (one_new _ _ _) (by intro u hu; simp at hu; subst hu; rfl) (by unfold maxLen; omega) (by omega) (by rw [alloc_size, putO_size]; omega) ?_; intro v' w2 hown' hgrow hnil)
        obtain ⟨r1, r2, r3, r4⟩ := uses_step HT.out (by omega) HX.out (hni.put (by omega) _) HW.out hown' hgrow
        clear hown' hgrow hnil
        go_wp2
        go_roundw
        case rel => exact ⟨pos + 1, acc ++ [a], r1, r2, r3, r4, Lib.hid HU.out, by simp; omega⟩
        case measure => rw [iterPos_at r1, iterPos_at hit]; omega
      · by_cases h66 : c = 66
        · have q := beq_of h66
          have q0 := bneq_of h65
          have HU : Hid ((acc ++ [b]) ++ usesR ⟨o, d, a, b, n, t⟩ ((letters o).drop (pos + 1)) = usesL ⟨o, d, a, b, n, t⟩) := Lib.hid (by rw [← HB.out, HD.out, usesR, if_neg h65, if_pos h66]; simp)
          clear h65
          go_wp2_with (at_builtin; refine wpList_append_own _ rfl (.tmp 23) (.tmp 26) 101 rfl (w.heap.size + 2) 3 i0 (.int .i64 0) 1 8 Tryz.underlying101 hi hz0 hz1 hz2 rfl (by decide) _ _ _ rfl (HW.out.alloc _) ⟨(putO wr (w.heap.size + 1) (.stringIter (fldB o) (pos + 1))).heap.size, 0, none⟩ 1 1 [.int .i64 b] rfl rfl (one_new _ _ _) (by intro u hu; simp at hu; subst hu; rfl) (by unfold maxLen; omega) (by omega) (by rw [alloc_size, putO_size]; omega) ?_; intro v' w2 hown' hgrow hnil)
          obtain ⟨r1, r2, r3, r4⟩ := uses_step HT.out (by omega) HX.out (hni.put (by omega) _) HW.out hown' hgrow
          clear hown' hgrow hnil
          go_wp2
          go_roundw
          case rel => exact ⟨pos + 1, acc ++ [b], r1, r2, r3, r4, Lib.hid HU.out, by simp; omega⟩
          case measure => rw [iterPos_at r1, iterPos_at hit]; omega
        · have q := bneq_of h66
          have q0 := bneq_of h65
          have HU : Hid (acc ++ usesR ⟨o, d, a, b, n, t⟩ ((letters o).drop (pos + 1)) = usesL ⟨o, d, a, b, n, t⟩) := Lib.hid (by rw [← HB.out, HD.out, usesR, if_neg h65, if_neg h66])
          clear h65 h66
          go_wp2
          go_roundw
          case rel => exact ⟨pos + 1, acc, HT.out, HX.out, hni.put (by omega) _, HW.out, Lib.hid HU.out, by omega⟩
          case measure => rw [iterPos_at HT.out, iterPos_at hit]; omega
    · have hnx : ∀ ty, (Instr.next (.pointer (some ⟨w.heap.size + 1, 0, none⟩)) true ty).run Tryz.prog wr = _ := fun ty => next_stop hit hp ty
      have HS : Hid (acc = usesL ⟨o, d, a, b, n, t⟩) := Lib.hid (by
        rw [← HB.out, List.drop_of_length_le (by rw [← fldB_size]; omega), usesR, List.append_nil])
      go_wp2
      go_ret
      refine ⟨_, rfl, ?_, hni⟩
      rw [← HS.out]
      exact hown
end Go.Proofs.YtphopkjgfkaihaaGreatDoor
