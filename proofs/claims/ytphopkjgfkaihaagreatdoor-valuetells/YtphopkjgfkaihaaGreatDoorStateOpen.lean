/-
  A state, or a word, among a row's arguments: the value that it is; it reads again as it read.
-/
import Derived.Test.YtphopkjgfkaihaaGreatDoorRowOpen
import Derived.Test.YtphopkjgfkaihaaGreatDoorStepDo
import Derived.Test.YtphopkjgfkaihaaGreatDoorHeapAll
namespace Go.Proofs.YtphopkjgfkaihaaGreatDoor
open Go.ChangeShapes Go.WideShapes Go.RowKit Go.Deep

section
variable {H : Type} {enc : TypeId × Value → H} {w : World} {base : Nat} {held : Bool}
theorem cellsWd : Tryz.prog.cellsOf 72 = 2 := by kernel_rfl
theorem cellsSt : Tryz.prog.cellsOf 75 = 51 := by kernel_rfl
theorem cellsAr : Tryz.prog.cellsOf 73 = 48 := by kernel_rfl
set_option maxRecDepth 100000 in
theorem word_cells {spare : Nat → Bool} {n : Nat} {cs : List Value} {y : DataW H × List MemPlace} (h : DataW.trod enc Tryz.prog w base spare held n 72 cs = some y) : ∃ x : Wd, cs = wcells x := by
  obtain ⟨y0, y1, m, _, hl, q0, q1⟩ := trod_struct2 Tryz.underlying72 h
  rw [cellsWd] at hl
  match cs, hl with
  | [c0, c1], _ =>
    have k1 : Tryz.prog.cellsOf 4 = 1 := by kernel_rfl
    have k2 : Tryz.prog.cellsOf 2 = 1 := by kernel_rfl
    simp [k1, k2] at q0 q1
    obtain ⟨b, e0, _⟩ := DataW.trod_bool Tryz.underlying4 q0
    obtain ⟨z, e1, _, _⟩ := DataW.trod_int Tryz.underlying2 q1
    simp at e0 e1
    subst e0 e1
    exact ⟨(b, z), rfl⟩
/-- A row of 48 cells, two by two. -/
theorem two_by_two {cs : List Value} (hl : cs.length = 48) {l : Ws} (h : ∀ i < 24, (cs.drop (i * 2)).take 2 = wcells (l i)) : cs = (cellsW l).toList := by
  apply List.ext_getElem?
  intro q
  by_cases hq : q < 48
  · obtain ⟨i, j, hj, rfl⟩ : ∃ i j, j < 2 ∧ q = 2 * i + j := ⟨q / 2, q % 2, by omega, by omega⟩
    have e : (cellsW l).toList[2 * i + j]? = (cellsW l)[2 * i + j]? := Array.getElem?_toList
    have hi : i < 24 := by omega
    rw [e, cellsW_at l hi hj, ← h i hi, List.getElem?_take, if_pos hj, List.getElem?_drop, Nat.mul_comm]
  · rw [List.getElem?_eq_none (by omega), List.getElem?_eq_none (by rw [Array.length_toList, cellsW_size]; omega)]
theorem choose24 {α : Type} [Inhabited α] {p : Nat → α → Prop} (h : ∀ i, i < 24 → ∃ x, p i x) : ∃ f : Nat → α, ∀ i, i < 24 → p i (f i) := by
  refine ⟨fun i => if hi : i < 24 then (h i hi).choose else default, fun i hi => ?_⟩
  simp only [hi, dif_pos]
  exact (h i hi).choose_spec
set_option maxRecDepth 100000 in
theorem arr_cells {spare : Nat → Bool} {n : Nat} {cs : List Value} {y : DataW H × List MemPlace} (h : DataW.trod enc Tryz.prog w base spare held n 73 cs = some y) : ∃ l : Ws, cs = (cellsW l).toList := by
  obtain ⟨xs, m, _, _, hl, hxl, hall⟩ := DataW.trod_array Tryz.underlying73 h
  rw [cellsAr] at hl
  rw [cellsWd] at hall
  have each : ∀ i, i < 24 → ∃ x : Wd, (cs.drop (i * 2)).take 2 = wcells x := fun i hi => by
    have hi' := hall i hi
    rw [List.getElem?_eq_getElem (by omega)] at hi'
    exact word_cells hi'
  obtain ⟨l, hl2⟩ := choose24 each
  exact ⟨l, two_by_two hl hl2⟩
theorem split51 {cs : List Value} (h : cs.length = 51) : ∃ c0 c1 c2, cs = cs.take 48 ++ [c0, c1, c2] := by
  have e : (cs.drop 48).length = 3 := by rw [List.length_drop]; omega
  match hd : cs.drop 48, e with
  | [c0, c1, c2], _ => exact ⟨c0, c1, c2, by rw [← hd, List.take_append_drop]⟩
set_option maxRecDepth 100000 in
theorem open_state {r : Reach} {b0 : Nat} {v : Value} {x : DataW H} {p : List MemPlace} (hv : Value.okWide Tryz.prog w r b0 75 v) (h : DataW.Trod enc Tryz.prog w base (fun _ => true) held 75 v x p) :
    ∃ (l : Ws) (s : Sl) (pp qq : Int) (zs : List Int), v = .agg (cellsS l s pp qq).toArray ∧ Hp w (.slice s.ao s.n s.c) zs := by
  obtain ⟨cs, rfl, hsz⟩ := okWide_struct Tryz.underlying75 hv
  obtain ⟨fuel, hf⟩ := h
  obtain ⟨xs, m, _, _, hl, hxl, hall⟩ := DataW.trod_struct Tryz.underlying75 hf
  rw [cellsSt] at hl
  have hc : (Value.agg cs).cells.toList = cs.toList := rfl
  rw [hc] at hl hall
  obtain ⟨c0, c1, c2, hcs⟩ := split51 hl
  have h48 : (cs.toList.take 48).length = 48 := by rw [List.length_take]; omega
  match xs, hxl with
  | [y0, y1, y2, y3], _ =>
    have k1 : Tryz.prog.cellsOf 67 = 1 := by kernel_rfl
    have k2 : Tryz.prog.cellsOf 3 = 1 := by kernel_rfl
    have q0 : DataW.trod enc Tryz.prog w base (fun _ => true) held m 73 ((cs.toList.drop 0).take (Tryz.prog.cellsOf 73)) = some y0 := hall 0 _ rfl
    have q1 : DataW.trod enc Tryz.prog w base (fun _ => true) held m 67 ((cs.toList.drop 48).take (Tryz.prog.cellsOf 67)) = some y1 := hall 1 _ rfl
    have q2 : DataW.trod enc Tryz.prog w base (fun _ => true) held m 3 ((cs.toList.drop 49).take (Tryz.prog.cellsOf 3)) = some y2 := hall 2 _ rfl
    have q3 : DataW.trod enc Tryz.prog w base (fun _ => true) held m 3 ((cs.toList.drop 50).take (Tryz.prog.cellsOf 3)) = some y3 := hall 3 _ rfl
    rw [cellsAr, List.drop_zero] at q0
    rw [k1] at q1
    rw [k2] at q2 q3
    have e1 : (cs.toList.drop 48).take 1 = [c0] := by rw [hcs, List.drop_append_of_le_length (by omega), List.drop_of_length_le (by omega)]; rfl
    have e2 : (cs.toList.drop 49).take 1 = [c1] := by rw [hcs, List.drop_append, List.drop_of_length_le (by omega), h48]; rfl
    have e3 : (cs.toList.drop 50).take 1 = [c2] := by rw [hcs, List.drop_append, List.drop_of_length_le (by omega), h48]; rfl
    rw [e1] at q1
    rw [e2] at q2
    rw [e3] at q3
    obtain ⟨l, hl⟩ := arr_cells q0
    obtain ⟨pp, ep, _, _⟩ := DataW.trod_int Tryz.underlying3 q2
    obtain ⟨qq, eq, _, _⟩ := DataW.trod_int Tryz.underlying3 q3
    have ho : ∃ (s : Sl) (zs : List Int), c0 = .slice s.ao s.n s.c ∧ Hp w (.slice s.ao s.n s.c) zs := by
      rcases open_ints Tryz.underlying67 Tryz.underlying2 (by kernel_rfl) q1 with ⟨hcs, _⟩ | ⟨a, len', cap', zs, hcs, _, hl, hm, hz, _, hcell, hwz⟩
      · simp at hcs
        exact ⟨⟨none, 0, 0⟩, [], hcs, Hp.nil w⟩
      · simp at hcs
        refine ⟨⟨some a, len', cap'⟩, zs.take len', hcs, ?_⟩
        simp at hz
        refine row_of (by simp; omega) ?_
        intro i hi
        have hi' : i < len' ∧ i < zs.length := by simp at hi; omega
        rw [hcell i hi'.2, List.getElem_map, List.getElem_take]
        simp [hi'.2]
    obtain ⟨s, zs, rfl, hs⟩ := ho
    simp at ep eq
    subst ep eq
    refine ⟨l, s, pp, qq, zs, ?_, hs⟩
    congr 1
    apply Array.ext'
    rw [hcs, hl]
    simp [cellsS]
set_option maxRecDepth 100000 in
theorem open_word {r : Reach} {b0 : Nat} {v : Value} {x : DataW H} {p : List MemPlace} (hv : Value.okWide Tryz.prog w r b0 72 v) (h : DataW.Trod enc Tryz.prog w base (fun _ => true) held 72 v x p) :
    ∃ y : Wd, v = .agg #[.bool y.1, .int .i64 y.2] := by
  obtain ⟨cs, rfl, hsz⟩ := okWide_struct Tryz.underlying72 hv
  obtain ⟨fuel, hf⟩ := h
  obtain ⟨y, hy⟩ := word_cells hf
  refine ⟨y, ?_⟩
  congr 1
  apply Array.ext'
  exact hy
end
end Go.Proofs.YtphopkjgfkaihaaGreatDoor
