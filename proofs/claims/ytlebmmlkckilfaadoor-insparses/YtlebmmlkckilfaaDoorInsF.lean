/-
  The contracts of ins.Moves, ins.Sets and ins.Uses: for every instruction.
-/
import Derived.Test.YtlebmmlkckilfaaDoorInsB
import Derived.OwnWalk
namespace Go.Proofs.YtlebmmlkckilfaaDoor
open Go.RowKit

def movesB (op : Int) : Bool := decide (op = 1 ∨ op = 2 ∨ op = 3 ∨ op = 16)
theorem moves_any (o d a b n t : Int) (w : World) :
    Calls Tryd.prog 23 #[.agg #[.int .i64 o, .int .i64 d, .int .i64 a, .int .i64 b, .int .i64 n, .int .i64 t]] w fun e w' => e = .returned (.bool (movesB o)) ∧ New w w' := by
  go_enter Tryd.func23, Tryd.ntmps23
  go_wp2
  all_goals
    go_ret
    exact ⟨by simp_all [movesB], alloc_new _ _⟩

def setsB (op : Int) : Bool := decide ((68 : Int) ∈ letters op)
def setsV (x : I) : Int := if setsB x.op = true then x.d else 0
theorem sets_at {op : Int} {pos : Nat} {c : Int} (h : (letters op).drop pos = c :: (letters op).drop (pos + 1)) (hc : c = 68) : setsB op = true := by
  unfold setsB
  rw [decide_eq_true_iff]
  exact List.mem_of_mem_drop (i := pos) (by rw [h, hc]; exact List.mem_cons_self ..)
set_option maxHeartbeats 1000000 in
set_option maxRecDepth 100000 in
theorem sets_any (o d a b n t : Int) (w : World) (hl : Laid w) :
    Calls Tryd.prog 21 #[.agg #[.int .i64 o, .int .i64 d, .int .i64 a, .int .i64 b, .int .i64 n, .int .i64 t]] w fun e w' => e = .returned (.tuple #[.int .i64 (setsV ⟨o, d, a, b, n, t⟩), .bool (setsB o)]) ∧ New w w' := by
  have HL := Lib.hid hl
  have hx0 := Lib.hid (Has.box w ⟨o, d, a, b, n, t⟩)
  clear hl
  go_enter Tryd.func21, Tryd.ntmps21
  go_wp2_with (go_at_call 27; refine (fields_at o _ (HL.out.alloc _)).mono ?_; rintro e w1 ⟨rfl, rfl⟩)
  go_loopw [] (fun wr => ∃ pos : Nat, wr.heap[w.heap.size + 1]? = some (.stringIter (fldB o) pos) ∧ Has wr w.heap.size ⟨o, d, a, b, n, t⟩ ∧ New w wr ∧ Hid (decide ((68 : Int) ∈ (letters o).drop pos) = setsB o)) (fun wr => (fldB o).size - wr.iterPos (w.heap.size + 1))
  case atStart => exact ⟨0, alloc_at (by rw [alloc_size]) _, hx0.out.new (alloc_new _ _), (alloc_new _ _).alloc _, Lib.hid rfl⟩
  case round =>
    obtain ⟨pos, hit, hx, hni, HB⟩ := hrel
    by_cases hp : pos < (fldB o).size
    · obtain ⟨c, hdec, hc, hdrop⟩ := fld_at hp
      have hnx : ∀ ty, (Instr.next (.pointer (some ⟨w.heap.size + 1, 0, none⟩)) true ty).run Tryd.prog wr = _ := fun ty => next_at hit hp ty
      rw [hdec] at hnx
      simp only [hc] at hnx
      have hx1 := hx.put (.stringIter (fldB o) (pos + 1)) (k := w.heap.size + 1) (by omega)
      have hc1 := hx1.cell.2.1
      have HX := Lib.hid hx1
      have HT := Lib.hid (putO_same (o := .stringIter (fldB o) (pos + 1)) hit)
      have HD := Lib.hid hdrop
      clear hdec hdrop hc hx1
      by_cases h68 : c = 68
      · have HS := Lib.hid (sets_at HD.out h68)
        have q := beq_of h68
        go_wp2
        go_ret2
        refine ⟨?_, hni.put (by omega) _⟩
        rw [HS.out, show setsV ⟨o, d, a, b, n, t⟩ = d from if_pos HS.out]
        rfl
      · have q := bneq_of h68
        have H6 := Lib.hid h68
        clear h68
        go_wp2
        go_roundw
        case rel =>
          refine ⟨pos + 1, HT.out, HX.out, hni.put (by omega) _, Lib.hid ?_⟩
          rw [← HB.out, HD.out]
          have := H6.out
          simp [Ne.symm this]
        case measure => rw [iterPos_at HT.out, iterPos_at hit]; omega
    · have hnx : ∀ ty, (Instr.next (.pointer (some ⟨w.heap.size + 1, 0, none⟩)) true ty).run Tryd.prog wr = _ := fun ty => next_stop hit hp ty
      have HS : Hid (setsB o = false) := Lib.hid (by
        rw [← HB.out, List.drop_of_length_le (by rw [← fldB_size]; omega)]; rfl)
      go_wp2
      go_ret2
      refine ⟨?_, hni⟩
      rw [HS.out, show setsV ⟨o, d, a, b, n, t⟩ = 0 from if_neg (by show ¬ setsB o = true; rw [HS.out]; decide)]
      rfl

/-- The numbers of the places that an instruction needs. -/
def usesR (x : I) : List Int → List Int
  | [] => []
  | c :: L => if c = 65 then x.a :: usesR x L else if c = 66 then x.b :: usesR x L else usesR x L
def usesL (x : I) : List Int := usesR x (letters x.op)
theorem infoInt : (Tryd.prog.info? 3).map (fun i => (i.zero, i.size, i.bytes)) = some (some (.int .i64 0), 1, 8) := by kernel_rfl
theorem owns_put {w : World} {base e size n g : Nat} {v : Value} {xs : List Value} (h : w.ownsRow base e size v n xs) (hg : g < base) (o : Obj) : (putO w g o).ownsRow base e size v n xs :=
  ⟨h.1, h.2.elim .inl fun ⟨k, cap, cur, h1, h2, h3, h4⟩ => .inr ⟨k, cap, cur, h1, h2, by rw [putO_other (by omega)]; exact h3, h4⟩⟩
theorem owns_row {w : World} {base e size n : Nat} {v : Value} {xs : List Value} (h : w.ownsRow base e size v n xs) : ∀ k, v.ownBlock = some k → base ≤ k := fun k hk => (h.lt k hk).1
theorem grown_heap {w w' : World} {row : Option Nat} {g : Nat} {o : Obj} (h : w.grownBy w' row) (hg : w.heap[g]? = some o) (hr : ∀ k, row = some k → g < k) : w'.heap[g]? = some o := by
  rw [h.block g (heap_lt hg) (fun e => by have := hr g e.symm; omega)]; exact hg
theorem one_new (w : World) (x : Value) (t : TypeId) : ∀ (j : Nat) (u : Value), [x][j]? = some u → (w.alloc (.cells #[x] t)).cell? ((⟨w.heap.size, 0, none⟩ : Addr).add j) = some u := by
  intro j u hj
  exact cell_one_new w x t j u hj
/-- What an append of one number does to what a round holds. -/
theorem uses_step {w wr w2 : World} {G : Nat} {s : ByteArray} {pos : Nat} {x : I} {e : TypeId} {v v' : Value} {acc : List Int} {y : Int}
    (hit : wr.heap[G]? = some (.stringIter s pos)) (hG : w.heap.size < G) (hx : Has wr w.heap.size x) (hn : New w wr) (hown : wr.ownsRow (G + 1) e 1 v acc.length (acc.map (Value.int .i64)))
    (hown' : w2.ownsRow (G + 1) e 1 v' (acc.length + 1) (acc.map (Value.int .i64) ++ [.int .i64 y])) (hg : (wr.alloc (.cells #[.int .i64 y] e)).grownBy w2 v.ownBlock) :
    w2.heap[G]? = some (.stringIter s pos) ∧ Has w2 w.heap.size x ∧ New w w2 ∧ w2.ownsRow (G + 1) e 1 v' (acc ++ [y]).length ((acc ++ [y]).map (Value.int .i64)) := by
  have hr := owns_row hown
  refine ⟨grown_heap hg ((alloc_new _ _).heap hit) (fun k hk => by have := hr k hk; omega), ?_, ?_, ?_⟩
  · exact grown_heap hg ((alloc_new _ _).heap hx) (fun k hk => by have := hr k hk; omega)
  · refine Below.grown (hn.alloc _) hg ?_ (fun k hk => by have := hr k hk; omega)
    have := (hn.alloc (.cells #[.int .i64 y] e)).size
    exact this
  · simpa using hown'
set_option maxHeartbeats 2000000 in
set_option maxRecDepth 100000 in
theorem uses_any (o d a b n t : Int) (w : World) (hl : Laid w) :
    Calls Tryd.prog 19 #[.agg #[.int .i64 o, .int .i64 d, .int .i64 a, .int .i64 b, .int .i64 n, .int .i64 t]] w fun e w' => ∃ v, e = .returned v ∧ w'.ownsRow (w.heap.size + 2) 3 1 v (usesL ⟨o, d, a, b, n, t⟩).length ((usesL ⟨o, d, a, b, n, t⟩).map (Value.int .i64)) ∧ New w w' := by
  have HL := Lib.hid hl
  have hx0 := Lib.hid (Has.box w ⟨o, d, a, b, n, t⟩)
  obtain ⟨i0, hi, hz0, hz1, hz2⟩ := info_parts infoInt
  clear hl
  go_enter Tryd.func19, Tryd.ntmps19
  go_wp2_with (go_at_call 27; refine (fields_at o _ (HL.out.alloc _)).mono ?_; rintro e w1 ⟨rfl, rfl⟩)
  go_loopw [3] (fun v wr => ∃ (pos : Nat) (acc : List Int), wr.heap[w.heap.size + 1]? = some (.stringIter (fldB o) pos) ∧ Has wr w.heap.size ⟨o, d, a, b, n, t⟩ ∧ New w wr ∧ wr.ownsRow (w.heap.size + 2) 3 1 v acc.length (acc.map (Value.int .i64)) ∧ Hid (acc ++ usesR ⟨o, d, a, b, n, t⟩ ((letters o).drop pos) = usesL ⟨o, d, a, b, n, t⟩) ∧ acc.length ≤ pos) (fun _ wr => (fldB o).size - wr.iterPos (w.heap.size + 1))
  case atStart => exact ⟨0, [], alloc_at (by rw [alloc_size]) _, hx0.out.new (alloc_new _ _), (alloc_new _ _).alloc _, World.ownsRow_nil _ _ _ _, Lib.hid rfl, Nat.le_refl _⟩
  case round =>
    obtain ⟨pos, acc, hit, hx, hni, hown, HB, hacc⟩ := hrel
    by_cases hp : pos < (fldB o).size
    · obtain ⟨c, hdec, hc, hdrop⟩ := fld_at hp
      have hnx : ∀ ty, (Instr.next (.pointer (some ⟨w.heap.size + 1, 0, none⟩)) true ty).run Tryd.prog wr = _ := fun ty => next_at hit hp ty
      rw [hdec] at hnx
      simp only [hc] at hnx
      have hx1 := hx.put (.stringIter (fldB o) (pos + 1)) (k := w.heap.size + 1) (by omega)
      have hc2 := hx1.cell.2.2.1
      have hc3 := hx1.cell.2.2.2
      have HX := Lib.hid hx1
      have HT := Lib.hid (putO_same (o := .stringIter (fldB o) (pos + 1)) hit)
      have HD := Lib.hid hdrop
      have HW := Lib.hid (owns_put hown (g := w.heap.size + 1) (by omega) (.stringIter (fldB o) (pos + 1)))
      have HLT := (show pos < 3 from by
        have h1 := fldB_size o
        have h2 : (letters o).length ≤ 3 := by
          cases hk : knownB o with
          | false => unfold letters fieldsL; rw [hk]; simp [lettersOf]
          | true => rcases letters_of hk with e | e | e | e | e | e | e | e | e <;> rw [e] <;> simp
        omega)
      have hsz := heap_lt hit
      clear hdec hdrop hc hx1 hown
      by_cases h65 : c = 65
      · have q := beq_of h65
        have HU : Hid ((acc ++ [a]) ++ usesR ⟨o, d, a, b, n, t⟩ ((letters o).drop (pos + 1)) = usesL ⟨o, d, a, b, n, t⟩) := Lib.hid (by rw [← HB.out, HD.out, usesR, if_pos h65]; simp)
        go_wp2_with (at_builtin; refine wpList_append_own _ rfl (.tmp 16) (.tmp 19) 38 rfl (w.heap.size + 2) 3 i0 (.int .i64 0) 1 8 Tryd.underlying38 hi hz0 hz1 hz2 rfl (by decide) _ _ _ rfl (HW.out.alloc _) ⟨(putO wr (w.heap.size + 1) (.stringIter (fldB o) (pos + 1))).heap.size, 0, none⟩ 1 1 [.int .i64 a] rfl rfl (one_new _ _ _) (by intro u hu; simp at hu; subst hu; rfl) (by unfold maxLen; omega) (by omega) (by rw [alloc_size, putO_size]; omega) ?_; intro v' w2 hown' hgrow hnil)
        obtain ⟨r1, r2, r3, r4⟩ := uses_step HT.out (by omega) HX.out (hni.put (by omega) _) HW.out hown' hgrow
        clear hown' hgrow hnil
        go_wp2
        go_roundw
        case rel => exact ⟨pos + 1, acc ++ [a], r1, r2, r3, r4, Lib.hid HU.out, by simp; omega⟩
        case measure => rw [iterPos_at r1, iterPos_at hit]; omega
      · by_cases h66 : c = 66
        · have q := beq_of h66
          have q0 := bneq_of h65
          have HU : Hid ((acc ++ [b]) ++ usesR ⟨o, d, a, b, n, t⟩ ((letters o).drop (pos + 1)) = usesL ⟨o, d, a, b, n, t⟩) := Lib.hid (by rw [← HB.out, HD.out, usesR, if_neg h65, if_pos h66]; simp)
          clear h65
          go_wp2_with (at_builtin; refine wpList_append_own _ rfl (.tmp 23) (.tmp 26) 38 rfl (w.heap.size + 2) 3 i0 (.int .i64 0) 1 8 Tryd.underlying38 hi hz0 hz1 hz2 rfl (by decide) _ _ _ rfl (HW.out.alloc _) ⟨(putO wr (w.heap.size + 1) (.stringIter (fldB o) (pos + 1))).heap.size, 0, none⟩ 1 1 [.int .i64 b] rfl rfl (one_new _ _ _) (by intro u hu; simp at hu; subst hu; rfl) (by unfold maxLen; omega) (by omega) (by rw [alloc_size, putO_size]; omega) ?_; intro v' w2 hown' hgrow hnil)
          obtain ⟨r1, r2, r3, r4⟩ := uses_step HT.out (by omega) HX.out (hni.put (by omega) _) HW.out hown' hgrow
          clear hown' hgrow hnil
          go_wp2
          go_roundw
          case rel => exact ⟨pos + 1, acc ++ [b], r1, r2, r3, r4, Lib.hid HU.out, by simp; omega⟩
          case measure => rw [iterPos_at r1, iterPos_at hit]; omega
        · have q := bneq_of h66
          have q0 := bneq_of h65
          have HU : Hid (acc ++ usesR ⟨o, d, a, b, n, t⟩ ((letters o).drop (pos + 1)) = usesL ⟨o, d, a, b, n, t⟩) := Lib.hid (by rw [← HB.out, HD.out, usesR, if_neg h65, if_neg h66])
          clear h65 h66
          go_wp2
          go_roundw
          case rel => exact ⟨pos + 1, acc, HT.out, HX.out, hni.put (by omega) _, HW.out, Lib.hid HU.out, by omega⟩
          case measure => rw [iterPos_at HT.out, iterPos_at hit]; omega
    · have hnx : ∀ ty, (Instr.next (.pointer (some ⟨w.heap.size + 1, 0, none⟩)) true ty).run Tryd.prog wr = _ := fun ty => next_stop hit hp ty
      have HS : Hid (acc = usesL ⟨o, d, a, b, n, t⟩) := Lib.hid (by
        rw [← HB.out, List.drop_of_length_le (by rw [← fldB_size]; omega), usesR, List.append_nil])
      go_wp2
      go_ret
      refine ⟨_, rfl, ?_, hni⟩
      rw [← HS.out]
      exact hown
end Go.Proofs.YtlebmmlkckilfaaDoor
