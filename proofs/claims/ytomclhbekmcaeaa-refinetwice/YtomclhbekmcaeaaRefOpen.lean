/-
  A slice of things among a row's arguments: what it holds; it reads again as it read.
-/
import Derived.Test.YtomclhbekmcaeaaOpenKit
import Derived.Test.YtomclhbekmcaeaaRefRow
namespace Go.Proofs.Ytomclhbekmcaeaa
open Go.ChangeShapes Go.WideShapes Go.RowKit Go.Deep

section
variable {H : Type} {enc : TypeId × Value → H} {w : World} {base : Nat} {held : Bool}
theorem cellsRf : Try.prog.cellsOf 40 = 2 := by kernel_rfl
theorem cellsRw : Try.prog.cellsOf 38 = 2 := by kernel_rfl
/-- What the elements of a slice are, each said of its cells. -/
theorem open_els {α : Type} [Inhabited α] {k : Nat} {R : World → α → List Value → Prop} {t e : TypeId} {n : Nat} {cs : List Value} {y : DataW H × List MemPlace} (ht : Try.prog.underlying t = some (.slice e)) (hk : Try.prog.cellsOf e = k) (hk0 : 0 < k)
    (hR : ∀ m (c : List Value) z, DataW.trod enc Try.prog w base (fun _ => true) held m e c = some z → ∃ x : α, R w x c)
    (h : DataW.trod enc Try.prog w base (fun _ => true) held n t cs = some y) : ∃ v xs, cs = [v] ∧ Els k R w v xs ∧ xs.length ≤ maxLen := by
  rcases open_slice ht h with ⟨hcs, _⟩ | ⟨a, len, cap, m, n, D, Pl, hcs, _, hl, hm, hmm, _, hx⟩
  · exact ⟨_, [], hcs, ⟨_, _, rfl, fun i x hi => by simp at hi⟩, by simp⟩
  · have hmc : m = cap := by rw [hmm]; rfl
    have each : ∀ i, i < len → ∃ z : α × List Value, w.cells? base (a.add (i * k)) k = some z.2 ∧ R w z.1 z.2 := by
      intro i hi
      obtain ⟨cs', h1, h2⟩ := hx i (by omega)
      rw [hk] at h1
      obtain ⟨x, hx⟩ := hR _ _ _ h2
      exact ⟨(x, cs'), h1, hx⟩
    obtain ⟨g, hg⟩ := choose_lt each
    by_cases h0 : len = 0
    · subst h0
      exact ⟨_, [], hcs, ⟨_, _, rfl, fun i x hi => by simp at hi⟩, by simp⟩
    · obtain ⟨b, off, spot⟩ := a
      have hspot : spot = none := by
        obtain ⟨_, hlen, hcell⟩ := World.cells?_some (hg 0 (by omega)).1
        have := hcell 0 hk0
        rw [List.getElem?_eq_getElem (by omega)] at this
        simpa [Addr.add] using World.cell?_spot this
      subst hspot
      refine ⟨_, (List.range len).map fun i => (g i).1, hcs, ⟨some ⟨b, off, none⟩, cap, by simp, fun i x hi => ?_⟩, by simp; omega⟩
      have hil : i < len := by simpa using some_lt hi
      have hxe : (g i).1 = x := by simpa [hil] using hi
      obtain ⟨_, hlen, hcell⟩ := World.cells?_some (hg i hil).1
      refine ⟨b, off, (g i).2, rfl, hlen, fun j u hu => ?_, by rw [← hxe]; exact (hg i hil).2⟩
      have hj : j < (g i).2.length := some_lt hu
      have hc := hcell j (by omega)
      rw [Deep.add_add, Addr.add_mid] at hc
      rw [show off + i * k + j = off + (i * k + j) by omega, hc]
      exact hu
theorem open_ref {n : Nat} {cs : List Value} {y : DataW H × List MemPlace} (h : DataW.trod enc Try.prog w base (fun _ => true) held n 40 cs = some y) : ∃ r : Rf, cs = refK r := by
  obtain ⟨xs, m, _, _, hl, hxl, hall⟩ := DataW.trod_struct Try.underlying40 h
  rw [cellsRf] at hl
  match xs, hxl, cs, hl with
  | [y0, y1], _, [c0, c1], _ =>
    have k3 : Try.prog.cellsOf 3 = 1 := by kernel_rfl
    have k2 : Try.prog.cellsOf 2 = 1 := by kernel_rfl
    have q0 := hall 0 _ rfl
    have q1 := hall 1 _ rfl
    simp [k3, k2] at q0 q1
    obtain ⟨a, e0, _, _⟩ := DataW.trod_int Try.underlying3 q0
    obtain ⟨b, e1, _, _⟩ := DataW.trod_int Try.underlying2 q1
    simp at e0 e1
    subst e0 e1
    exact ⟨(a, b), rfl⟩
theorem open_row12 {n : Nat} {cs : List Value} {y : DataW H × List MemPlace} (h : DataW.trod enc Try.prog w base (fun _ => true) held n 38 cs = some y) : ∃ x : Rw, ∃ u, cs = rwK x u ∧ RefsAt w u x.to := by
  obtain ⟨xs, m, _, _, hl, hxl, hall⟩ := DataW.trod_struct Try.underlying38 h
  rw [cellsRw] at hl
  match xs, hxl, cs, hl with
  | [y0, y1], _, [c0, c1], _ =>
    have k3 : Try.prog.cellsOf 3 = 1 := by kernel_rfl
    have k2 : Try.prog.cellsOf 36 = 1 := by kernel_rfl
    have q0 := hall 0 _ rfl
    have q1 := hall 1 _ rfl
    simp [k3, k2] at q0 q1
    obtain ⟨a, e0, _, _⟩ := DataW.trod_int Try.underlying3 q0
    obtain ⟨v, rs, e1, h1, _⟩ := open_els (R := fun _ r c => c = refK r) Try.underlying36 cellsRf (by decide) (fun _ _ _ hz => open_ref hz) q1
    simp at e0 e1
    subst e0 e1
    exact ⟨⟨a, rs⟩, c1, rfl, h1⟩
theorem open_rows {r : Reach} {b0 : Nat} {v : Value} {x : DataW H} {p : List MemPlace} (hv : Value.okWide Try.prog w r b0 22 v) (h : DataW.Trod enc Try.prog w base (fun _ => true) held 22 v x p) :
    ∃ l : List Rw, RowsAt w v l ∧ l.length ≤ maxLen := by
  obtain ⟨a0, len, cap, rfl⟩ := okWide_slice Try.underlying22 hv
  obtain ⟨fuel, hf⟩ := h
  have : Inhabited Rw := ⟨noRw⟩
  obtain ⟨u, l, e, h1, h2⟩ := open_els (R := fun w x c => ∃ u, c = rwK x u ∧ RefsAt w u x.to) Try.underlying22 cellsRw (by decide) (fun _ _ _ hz => open_row12 hz) hf
  simp [Value.cells] at e
  subst e
  exact ⟨l, h1, h2⟩
end
end Go.Proofs.Ytomclhbekmcaeaa
