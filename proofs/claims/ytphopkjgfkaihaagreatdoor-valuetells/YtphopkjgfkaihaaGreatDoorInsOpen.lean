/-
  An instruction among a row's arguments: the value that it is, and back.
-/
import Derived.Test.YtphopkjgfkaihaaGreatDoorOpenKit
import Derived.Test.YtphopkjgfkaihaaGreatDoorPlain
namespace Go.Proofs.YtphopkjgfkaihaaGreatDoor
open Go.ChangeShapes Go.WideShapes Go.RowKit

theorem wf_of {n : Int} (h : In64 n) : (Lit.int .i64 n).wf = true := by
  unfold In64 at h
  simpa [Lit.wf, IntKind.min, IntKind.max, IntKind.signed, IntKind.bits] using h
theorem cellsI : Tryz.prog.cellsOf 79 = 6 := by kernel_rfl
theorem array6 {cs : Array Value} (h : cs.size = 6) : ∃ c0 c1 c2 c3 c4 c5, cs = #[c0, c1, c2, c3, c4, c5] := by
  obtain ⟨l⟩ := cs
  match l, h with
  | [c0, c1, c2, c3, c4, c5], _ => exact ⟨c0, c1, c2, c3, c4, c5, rfl⟩
section
variable {H : Type} {enc : TypeId × Value → H} {w : World} {base : Nat} {spare : Nat → Bool} {held : Bool}
set_option maxRecDepth 100000 in
theorem open_ins {r : Reach} {b0 : Nat} {v : Value} {x : DataW H} {p : List MemPlace} (hv : Value.okWide Tryz.prog w r b0 79 v) (h : DataW.Trod enc Tryz.prog w base spare held 79 v x p) :
    ∃ o d a b n t : Int, v = .agg #[.int .i64 o, .int .i64 d, .int .i64 a, .int .i64 b, .int .i64 n, .int .i64 t] ∧ x = .agg [.lit (.int .i64 o), .lit (.int .i64 d), .lit (.int .i64 a), .lit (.int .i64 b), .lit (.int .i64 n), .lit (.int .i64 t)] ∧ p = [] ∧ In64I ⟨o, d, a, b, n, t⟩ := by
  obtain ⟨cs, rfl, hsz⟩ := okWide_struct Tryz.underlying79 hv
  obtain ⟨c0, c1, c2, c3, c4, c5, rfl⟩ := array6 (hsz.trans cellsI)
  obtain ⟨fuel, hf⟩ := h
  obtain ⟨xs, m, rfl, hx, hl, hxl, hall⟩ := DataW.trod_struct Tryz.underlying79 hf
  match xs, hxl with
  | [y0, y1, y2, y3, y4, y5], _ =>
    have k3 : Tryz.prog.cellsOf 3 = 1 := by kernel_rfl
    have k2 : Tryz.prog.cellsOf 2 = 1 := by kernel_rfl
    have q0 := hall 0 _ rfl
    have q1 := hall 1 _ rfl
    have q2 := hall 2 _ rfl
    have q3 := hall 3 _ rfl
    have q4 := hall 4 _ rfl
    have q5 := hall 5 _ rfl
    simp [Value.cells, k3, k2] at q0 q1 q2 q3 q4 q5
    obtain ⟨o, e0, rfl, w0⟩ := DataW.trod_int Tryz.underlying3 q0
    obtain ⟨d, e1, rfl, w1⟩ := DataW.trod_int Tryz.underlying3 q1
    obtain ⟨a, e2, rfl, w2⟩ := DataW.trod_int Tryz.underlying3 q2
    obtain ⟨b, e3, rfl, w3⟩ := DataW.trod_int Tryz.underlying3 q3
    obtain ⟨n, e4, rfl, w4⟩ := DataW.trod_int Tryz.underlying2 q4
    obtain ⟨t, e5, rfl, w5⟩ := DataW.trod_int Tryz.underlying3 q5
    simp at e0 e1 e2 e3 e4 e5
    subst e0 e1 e2 e3 e4 e5
    simp only [Prod.mk.injEq] at hx
    exact ⟨o, d, a, b, n, t, rfl, by simpa using hx.1, by simpa using hx.2, in64_of w0, in64_of w1, in64_of w2, in64_of w3, in64_of w4, in64_of w5⟩
set_option maxRecDepth 100000 in
theorem shut_ins {o d a b n t : Int} (h : In64I ⟨o, d, a, b, n, t⟩) :
    DataW.Trod enc Tryz.prog w base spare held 79 (.agg #[.int .i64 o, .int .i64 d, .int .i64 a, .int .i64 b, .int .i64 n, .int .i64 t]) (.agg [.lit (.int .i64 o), .lit (.int .i64 d), .lit (.int .i64 a), .lit (.int .i64 b), .lit (.int .i64 n), .lit (.int .i64 t)]) [] := by
  obtain ⟨h0, h1, h2, h3, h4, h5⟩ := h
  have k3 : Tryz.prog.cellsOf 3 = 1 := by kernel_rfl
  have k2 : Tryz.prog.cellsOf 2 = 1 := by kernel_rfl
  have ts := trod_struct_mk (enc := enc) (w := w) (base := base) (spare := spare) (held := held) (n := 1) (P := Tryz.prog) (cs := [.int .i64 o, .int .i64 d, .int .i64 a, .int .i64 b, .int .i64 n, .int .i64 t])
    (xs := [(.lit (.int .i64 o), []), (.lit (.int .i64 d), []), (.lit (.int .i64 a), []), (.lit (.int .i64 b), []), (.lit (.int .i64 n), []), (.lit (.int .i64 t), [])]) Tryz.underlying79 (by rw [cellsI]; rfl)
    (by simp [DataW.trod, Tryz.underlying3, Tryz.underlying2, k3, k2, wf_of h0, wf_of h1, wf_of h2, wf_of h3, wf_of h4, wf_of h5])
  exact ⟨_, by simpa [Value.cells] using ts⟩
end
end Go.Proofs.YtphopkjgfkaihaaGreatDoor
