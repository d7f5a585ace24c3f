/-
  A slice of instructions among a row's arguments: the function that it holds; it reads again as it read.
-/
import Derived.Test.YtphopkjgfkaihaaGreatDoorInsOpen
import Derived.Test.YtphopkjgfkaihaaGreatDoorAsmAll
namespace Go.Proofs.YtphopkjgfkaihaaGreatDoor
open Go.ChangeShapes Go.WideShapes Go.RowKit Go.Deep

section
variable {H : Type} {enc : TypeId × Value → H} {w : World} {base : Nat} {spare : Nat → Bool} {held : Bool}
set_option maxRecDepth 100000 in
theorem ins_cells {n : Nat} {cs : List Value} {y : DataW H × List MemPlace} (h : DataW.trod enc Tryz.prog w base spare held n 79 cs = some y) : ∃ x : I, cs = cells6 x ∧ In64I x := by
  obtain ⟨xs, m, _, _, hl, hxl, hall⟩ := DataW.trod_struct Tryz.underlying79 h
  rw [cellsI] at hl
  match xs, hxl, cs, hl with
  | [y0, y1, y2, y3, y4, y5], _, [c0, c1, c2, c3, c4, c5], _ =>
    have k3 : Tryz.prog.cellsOf 3 = 1 := by kernel_rfl
    have k2 : Tryz.prog.cellsOf 2 = 1 := by kernel_rfl
    have q0 := hall 0 _ rfl
    have q1 := hall 1 _ rfl
    have q2 := hall 2 _ rfl
    have q3 := hall 3 _ rfl
    have q4 := hall 4 _ rfl
    have q5 := hall 5 _ rfl
    simp [k3, k2] at q0 q1 q2 q3 q4 q5
    obtain ⟨o, e0, _, w0⟩ := DataW.trod_int Tryz.underlying3 q0
    obtain ⟨d, e1, _, w1⟩ := DataW.trod_int Tryz.underlying3 q1
    obtain ⟨a, e2, _, w2⟩ := DataW.trod_int Tryz.underlying3 q2
    obtain ⟨b, e3, _, w3⟩ := DataW.trod_int Tryz.underlying3 q3
    obtain ⟨n, e4, _, w4⟩ := DataW.trod_int Tryz.underlying2 q4
    obtain ⟨t, e5, _, w5⟩ := DataW.trod_int Tryz.underlying3 q5
    simp at e0 e1 e2 e3 e4 e5
    subst e0 e1 e2 e3 e4 e5
    exact ⟨⟨o, d, a, b, n, t⟩, rfl, in64_of w0, in64_of w1, in64_of w2, in64_of w3, in64_of w4, in64_of w5⟩
set_option maxRecDepth 100000 in
theorem open_fun {r : Reach} {b0 : Nat} {v : Value} {x : DataW H} {p : List MemPlace} (hv : Value.okWide Tryz.prog w r b0 22 v) (h : DataW.Trod enc Tryz.prog w base (fun _ => true) held 22 v x p) :
    ∃ f : List I, FunAt w v f ∧ (∀ y ∈ f, In64I y) ∧ f.length ≤ maxLen := by
  obtain ⟨a0, len, cap, rfl⟩ := okWide_slice Tryz.underlying22 hv
  obtain ⟨fuel, hf⟩ := h
  rcases open_slice Tryz.underlying22 hf with ⟨hcs, _⟩ | ⟨a, len', cap', m, n, D, Pl, hcs, _, hl, hm, hmm, _, hx⟩
  · simp [Value.cells] at hcs
    obtain ⟨rfl, rfl, rfl⟩ := hcs
    exact ⟨[], FunAt.nil _ _ _, by simp, by simp⟩
  · simp [Value.cells] at hcs
    obtain ⟨rfl, rfl, rfl⟩ := hcs
    have hlm : len ≤ m := by rw [hmm]; simpa using hl
    have each : ∀ i, i < len → ∃ x : I, w.cells? base (a.add (i * 6)) 6 = some (cells6 x) ∧ In64I x := by
      intro i hi
      obtain ⟨cs', h1, h2⟩ := hx i (by omega)
      rw [cellsI] at h1
      obtain ⟨x, rfl, hx⟩ := ins_cells h2
      exact ⟨x, h1, hx⟩
    have : Inhabited I := ⟨⟨0, 0, 0, 0, 0, 0⟩⟩
    obtain ⟨g, hg⟩ := choose_lt each
    by_cases h0 : len = 0
    · subst h0
      exact ⟨[], FunAt.nil _ _ _, by simp, by simp⟩
    · obtain ⟨b, off, spot⟩ := a
      have hspot : spot = none := by
        obtain ⟨_, hlen, hcell⟩ := World.cells?_some (hg 0 (by omega)).1
        have := hcell 0 (by omega)
        simpa [Addr.add] using World.cell?_spot this
      subst hspot
      refine ⟨(List.range len).map g, .inr ⟨b, off, cap, by simp, fun i hi j u hu => ?_⟩, ?_, by simpa using (show len ≤ maxLen by omega)⟩
      · have hi' : i < len := by simpa using hi
        obtain ⟨_, hlen, hcell⟩ := World.cells?_some (hg i hi').1
        have hj : j < 6 := by
          rw [← cells6_len (((List.range len).map g)[i])]
          exact (List.getElem?_eq_some_iff.mp hu).1
        have hc := hcell j (by omega)
        rw [Deep.add_add, Addr.add_mid] at hc
        rw [show off + i * 6 + j = off + (i * 6 + j) by omega, hc]
        rw [List.getElem_map, List.getElem_range] at hu
        rw [← hu]
      · intro y hy
        obtain ⟨i, hi, rfl⟩ := List.mem_map.mp hy
        exact (hg i (List.mem_range.mp hi)).2
set_option maxRecDepth 100000 in
theorem again_fun {W W' : World} {v : Value} {x : DataW H} {p : List MemPlace} (h : DataW.Trod enc Tryz.prog W 0 (fun _ => true) true 22 v x p) (hn : New W W') (hlt : ∀ y ∈ p, y.block < W.heap.size) :
    DataW.Trod enc Tryz.prog W' 0 (fun b => decide (b < W.heap.size)) true 22 v x p := Below.trod laidOut (by kernel_rfl) (of_decide_eq_true (by kernel_rfl)) h hn hlt
end
end Go.Proofs.YtphopkjgfkaihaaGreatDoor
