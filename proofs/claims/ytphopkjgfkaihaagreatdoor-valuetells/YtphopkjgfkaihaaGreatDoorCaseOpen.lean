/-
  A case among a row's arguments: the value that it is; it reads again as it read.
-/
import Derived.Test.YtphopkjgfkaihaaGreatDoorStateOpen
import Derived.Test.YtphopkjgfkaihaaGreatDoorTameOpen
import Derived.Test.YtphopkjgfkaihaaGreatDoorRunBegin
namespace Go.Proofs.YtphopkjgfkaihaaGreatDoor
open Go.ChangeShapes Go.WideShapes Go.RowKit Go.Deep

section
variable {H : Type} {enc : TypeId × Value → H} {w : World} {base : Nat} {held : Bool}
theorem cellsCa : Tryz.prog.cellsOf 69 = 11 := by kernel_rfl
theorem cellsA8 : Tryz.prog.cellsOf 66 = 8 := by kernel_rfl
theorem cells64 : Tryz.prog.cellsOf 2 = 1 := by kernel_rfl
theorem split11 {cs : List Value} (h : cs.length = 11) : ∃ a0 a1 a2 a3 a4 a5 a6 a7 a8 a9 a10, cs = [a0, a1, a2, a3, a4, a5, a6, a7, a8, a9, a10] := by
  match cs, h with
  | [a0, a1, a2, a3, a4, a5, a6, a7, a8, a9, a10], _ => exact ⟨a0, a1, a2, a3, a4, a5, a6, a7, a8, a9, a10, rfl⟩
theorem open_part {n : Nat} {c : Value} {y : DataW H × List MemPlace} (q1 : DataW.trod enc Tryz.prog w base (fun _ => true) held n 67 [c] = some y) : ∃ (s : Sl) (zs : List Int), c = .slice s.ao s.n s.c ∧ Hp w (.slice s.ao s.n s.c) zs ∧ Tame (.slice s.ao s.n s.c) := by
  rcases open_ints Tryz.underlying67 Tryz.underlying2 (by kernel_rfl) q1 with ⟨hcs, _⟩ | ⟨a, len', cap', zs, hcs, _, hl, hm, hz, _, hcell, hwz⟩
  · simp at hcs
    exact ⟨⟨none, 0, 0⟩, [], hcs, Hp.nil w, .inl rfl⟩
  · simp at hcs
    refine ⟨⟨some a, len', cap'⟩, zs.take len', hcs, ?_, .inr ⟨_, _, _, rfl⟩⟩
    simp at hz
    refine row_of (by simp; omega) ?_
    intro i hi
    have hi' : i < len' ∧ i < zs.length := by simp at hi; omega
    rw [hcell i hi'.2, List.getElem_map, List.getElem_take]
    simp [hi'.2]
set_option maxRecDepth 100000 in
theorem arr8_cells {n : Nat} {cs : List Value} {y : DataW H × List MemPlace} (h : DataW.trod enc Tryz.prog w base (fun _ => true) held n 66 cs = some y) : ∃ rs : Nat → Int, ∀ i, i < 8 → cs[i]? = some (.int .i64 (rs i)) := by
  obtain ⟨xs, m, _, _, hl, hxl, hall⟩ := DataW.trod_array Tryz.underlying66 h
  rw [cellsA8] at hl
  rw [cells64] at hall
  have each : ∀ i, i < 8 → ∃ z : Int, cs[i]? = some (.int .i64 z) := fun i hi => by
    have hi' := hall i hi
    rw [List.getElem?_eq_getElem (by omega)] at hi'
    obtain ⟨z, e, _, _⟩ := DataW.trod_int Tryz.underlying2 hi'
    refine ⟨z, ?_⟩
    have h0 : ((cs.drop (i * 1)).take 1)[0]? = some (.int .i64 z) := by rw [e]; rfl
    rw [List.getElem?_take, if_pos (by omega), List.getElem?_drop] at h0
    simpa using h0
  refine ⟨fun i => if hi : i < 8 then (each i hi).choose else 0, fun i hi => ?_⟩
  simp only [hi, dif_pos]
  exact (each i hi).choose_spec
set_option maxRecDepth 100000 in
theorem open_case {r : Reach} {b0 : Nat} {v : Value} {x : DataW H} {p : List MemPlace} (hv : Value.okWide Tryz.prog w r b0 69 v) (h : DataW.Trod enc Tryz.prog w base (fun _ => true) held 69 v x p) :
    ∃ (rs : Nat → Int) (s a : Sl) (n : Int) (zs az : List Int), v = .agg (caC rs s a n).toArray ∧ Hp w (.slice s.ao s.n s.c) zs ∧ Hp w (.slice a.ao a.n a.c) az ∧ Tame (.slice a.ao a.n a.c) := by
  obtain ⟨cs, rfl, hsz⟩ := okWide_struct Tryz.underlying69 hv
  obtain ⟨fuel, hf⟩ := h
  obtain ⟨xs, m, _, _, hl, hxl, hall⟩ := DataW.trod_struct Tryz.underlying69 hf
  rw [cellsCa] at hl
  have hc : (Value.agg cs).cells.toList = cs.toList := rfl
  rw [hc] at hl hall
  obtain ⟨a0, a1, a2, a3, a4, a5, a6, a7, a8, a9, a10, hcs⟩ := split11 hl
  match xs, hxl with
  | [y0, y1, y2, y3], _ =>
    have k1 : Tryz.prog.cellsOf 67 = 1 := by kernel_rfl
    have k2 : Tryz.prog.cellsOf 3 = 1 := by kernel_rfl
    have q0 : DataW.trod enc Tryz.prog w base (fun _ => true) held m 66 ((cs.toList.drop 0).take (Tryz.prog.cellsOf 66)) = some y0 := hall 0 _ rfl
    have q1 : DataW.trod enc Tryz.prog w base (fun _ => true) held m 67 ((cs.toList.drop 8).take (Tryz.prog.cellsOf 67)) = some y1 := hall 1 _ rfl
    have q2 : DataW.trod enc Tryz.prog w base (fun _ => true) held m 67 ((cs.toList.drop 9).take (Tryz.prog.cellsOf 67)) = some y2 := hall 2 _ rfl
    have q3 : DataW.trod enc Tryz.prog w base (fun _ => true) held m 3 ((cs.toList.drop 10).take (Tryz.prog.cellsOf 3)) = some y3 := hall 3 _ rfl
    rw [cellsA8, List.drop_zero, hcs] at q0
    rw [k1, hcs] at q1 q2
    rw [k2, hcs] at q3
    obtain ⟨rs, hrs⟩ := arr8_cells q0
    obtain ⟨s, zs, e8, hs, _⟩ := open_part (c := a8) q1
    obtain ⟨a, az, e9, ha, hta⟩ := open_part (c := a9) q2
    obtain ⟨n, e10, _, _⟩ := DataW.trod_int Tryz.underlying3 q3
    have e0 := hrs 0 (by omega); have e1 := hrs 1 (by omega); have e2 := hrs 2 (by omega); have e3 := hrs 3 (by omega); have e4 := hrs 4 (by omega); have e5 := hrs 5 (by omega); have e6 := hrs 6 (by omega); have e7 := hrs 7 (by omega)
    simp at e0 e1 e2 e3 e4 e5 e6 e7 e10
    refine ⟨rs, s, a, n, zs, az, ?_, hs, ha, hta⟩
    congr 1
    apply Array.ext'
    rw [hcs, e0, e1, e2, e3, e4, e5, e6, e7, e8, e9, e10]
    rfl
end
end Go.Proofs.YtphopkjgfkaihaaGreatDoor
