/-
  Slices of things, and of references, as they are read (two may share memory); rows of them of a call's own.
-/
import Derived.Test.YtomclhbekmcaeaaSepNest
import Derived.Test.YtomclhbekmcaeaaRefMath
namespace Go.Proofs.Ytomclhbekmcaeaa
open Go.RowKit

/-- A slice's elements, of k cells each: what is said of them. -/
def Els (k : Nat) {α : Type} (R : World → α → List Value → Prop) (w : World) (v : Value) (xs : List α) : Prop :=
  ∃ ao cap, v = .slice ao xs.length cap ∧ ∀ i x, xs[i]? = some x → ∃ b off c, ao = some ⟨b, off, none⟩ ∧ c.length = k ∧ w.rangeAt b (off + i * k) c ∧ R w x c
theorem rangeN {w w' : World} {b o : Nat} {cs : List Value} (h : w.rangeAt b o cs) (n : New w w') : w'.rangeAt b o cs := fun j v hv => n.cell' (h j v hv)
section
variable {α : Type} {k : Nat} {R : World → α → List Value → Prop} {w w' : World} {v : Value} {xs : List α}
theorem Els.form (h : Els k R w v xs) : ∃ ao cap, v = .slice ao xs.length cap := let ⟨ao, cap, e, _⟩ := h; ⟨ao, cap, e⟩
theorem Els.len {ao : Option Addr} {n cap : Nat} (h : Els k R w (.slice ao n cap) xs) : xs.length = n := by
  obtain ⟨ao', cap', e, _⟩ := h
  simp only [Value.slice.injEq] at e
  exact e.2.1.symm
theorem Els.new (hR : ∀ w w' x c, R w x c → New w w' → R w' x c) (h : Els k R w v xs) (n : New w w') : Els k R w' v xs := by
  obtain ⟨ao, cap, e, hh⟩ := h
  refine ⟨ao, cap, e, fun i x hx => ?_⟩
  obtain ⟨b, off, c, e1, e2, e3, e4⟩ := hh i x hx
  exact ⟨b, off, c, e1, e2, rangeN e3 n, hR _ _ _ _ e4 n⟩
theorem Els.ix {P : Program} {ao : Option Addr} {n cap : Nat} (h : Els k R w (.slice ao n cap) xs) (T : TypeId) {e : TypeId} (hu : P.underlying T = some (.slice e)) (he : ∀ w, (sizeOf e).run P w = .ok k w) {i : Nat} {x : α} (hi : xs[i]? = some x) :
    ∃ b o c, (∀ w', (Instr.indexAt T (.slice ao n cap) (.int .i64 (i : Int))).run P w' = .ok (.pointer (some ⟨b, o, none⟩)) w') ∧ c.length = k ∧ w.rangeAt b o c ∧ R w x c := by
  have hl := h.len
  have hil := some_lt hi
  obtain ⟨ao', cap', e0, hh⟩ := h
  simp only [Value.slice.injEq] at e0
  obtain ⟨rfl, _, rfl⟩ := e0
  obtain ⟨b, off, c, rfl, e2, e3, e4⟩ := hh i x hi
  refine ⟨b, off + i * k, c, fun w' => ?_, e2, e3, e4⟩
  simp [Instr.indexAt, run_underlying hu, asIntOf, he, Addr.add_mid]
  intro; omega
end
def refK (r : Rf) : List Value := [.int .i64 r.1, .int .i64 r.2]
def rwK (x : Rw) (u : Value) : List Value := [.int .i64 x.c, u]
/-- A slice that holds references. -/
abbrev RefsAt (w : World) (v : Value) (rs : List Rf) : Prop := Els 2 (fun _ r c => c = refK r) w v rs
/-- A slice that holds things. -/
abbrev RowsAt (w : World) (v : Value) (l : List Rw) : Prop := Els 2 (fun w x c => ∃ u, c = rwK x u ∧ RefsAt w u x.to) w v l
theorem RefsAt.nw {w w' : World} {v : Value} {rs : List Rf} (h : RefsAt w v rs) (n : New w w') : RefsAt w' v rs := Els.new (fun _ _ _ _ h _ => h) h n
theorem RowsAt.nw {w w' : World} {v : Value} {l : List Rw} (h : RowsAt w v l) (n : New w w') : RowsAt w' v l := Els.new (fun _ _ _ _ ⟨u, e, hu⟩ n => ⟨u, e, hu.nw n⟩) h n
theorem RefsAt.ix {P : Program} {w : World} {ao : Option Addr} {n cap : Nat} {rs : List Rf} (h : RefsAt w (.slice ao n cap) rs) (T : TypeId) {e : TypeId} (hu : P.underlying T = some (.slice e)) (he : ∀ w, (sizeOf e).run P w = .ok 2 w) {i : Nat} {r : Rf} (hi : rs[i]? = some r) :
    ∃ b o, (∀ w', (Instr.indexAt T (.slice ao n cap) (.int .i64 (i : Int))).run P w' = .ok (.pointer (some ⟨b, o, none⟩)) w') ∧ ∀ w', New w w' → w'.rangeAt b o (refK r) := by
  obtain ⟨b, o, c, h1, _, h3, rfl⟩ := Els.ix h T hu he hi
  exact ⟨b, o, h1, fun w' n => rangeN h3 n⟩
theorem RowsAt.ix {P : Program} {w : World} {ao : Option Addr} {n cap : Nat} {l : List Rw} (h : RowsAt w (.slice ao n cap) l) (T : TypeId) {e : TypeId} (hu : P.underlying T = some (.slice e)) (he : ∀ w, (sizeOf e).run P w = .ok 2 w) {i : Nat} {x : Rw} (hi : l[i]? = some x) :
    ∃ b o ra rc, (∀ w', (Instr.indexAt T (.slice ao n cap) (.int .i64 (i : Int))).run P w' = .ok (.pointer (some ⟨b, o, none⟩)) w') ∧ (∀ w', New w w' → w'.rangeAt b o (rwK x (.slice ra x.to.length rc))) ∧ RefsAt w (.slice ra x.to.length rc) x.to := by
  obtain ⟨b, o, c, h1, _, h3, u, rfl, h4⟩ := Els.ix h T hu he hi
  obtain ⟨ra, rc, rfl⟩ := Els.form h4
  exact ⟨b, o, ra, rc, h1, fun w' n => rangeN h3 n, h4⟩
/-! Rows of a call's own. -/
abbrev refsO (e : TypeId) (v : Value) (rs : List Rf) : Asn := rowA e 2 (leafE refK) v rs
def rwE12 (e : TypeId) (x : Rw) (c : List Value) : Asn := Asn.ex fun u => (Asn.say (c = rwK x u)).star (refsO e u x.to)
abbrev rowsO (d e : TypeId) (v : Value) (l : List Rw) : Asn := rowA d 2 (rwE12 e) v l
theorem leaf_said {α : Type} {mk : α → List Value} {x : α} {c : List Value} {w : World} (h : (leafE mk x c).rd w) : c = mk x := by
  obtain ⟨_, h1, _⟩ := h
  exact h1
theorem refs_rd {e : TypeId} {w : World} {v : Value} {rs : List Rf} (h : (refsO e v rs).rd w) : RefsAt w v rs := by
  obtain ⟨ao, cap, rfl⟩ := rowA_form h
  refine ⟨ao, cap, rfl, fun i x hi => ?_⟩
  obtain ⟨b, cap', c, e1, e2, e3, e4⟩ := rowA_at h hi
  simp only [Value.slice.injEq] at e1
  exact ⟨b, 0, c, e1.1, e2, by rw [Nat.zero_add]; exact e3, leaf_said e4⟩
theorem rows_rd {d e : TypeId} {w : World} {v : Value} {l : List Rw} (h : (rowsO d e v l).rd w) : RowsAt w v l := by
  obtain ⟨ao, cap, rfl⟩ := rowA_form h
  refine ⟨ao, cap, rfl, fun i x hi => ?_⟩
  obtain ⟨b, cap', c, e1, e2, e3, e4⟩ := rowA_at h hi
  simp only [Value.slice.injEq] at e1
  obtain ⟨F, ⟨u, F1, F2, h1, h2, _, _, h3⟩, h4⟩ := e4
  exact ⟨b, 0, c, e1.1, e2, by rw [Nat.zero_add]; exact e3, u, h1, refs_rd ⟨F2, h2, fun g hg => h4 g (h3 g hg)⟩⟩
theorem Sep.rowOf {w0 w : World} {l : List Asn} {e : TypeId} {v : Value} {x : Rw} (h : Sep w0 w (refsO e v x.to :: l)) : Sep w0 w (rwE12 e x (rwK x v) :: l) :=
  h.as fun F hF => ⟨v, fun _ => False, F, rfl, hF, fun _ h _ => h, fun _ h => h.elim, fun _ h => h⟩
theorem rows_nil (w : World) (ao : Option Addr) (cap : Nat) : RowsAt w (.slice ao 0 cap) [] := ⟨ao, cap, rfl, fun i x hi => by simp at hi⟩
theorem refs_nil (w : World) (ao : Option Addr) (cap : Nat) : RefsAt w (.slice ao 0 cap) [] := ⟨ao, cap, rfl, fun i x hi => by simp at hi⟩
/-! Rows of numbers. -/
abbrev intO (v : Value) (xs : List Int) : Asn := rowA 3 1 (leafE fun a => [.int .i64 a]) v xs
theorem int_rd {w : World} {v : Value} {xs : List Int} (h : (intO v xs).rd w) : RowAt w v (xs.map (.int .i64)) := leaf_row h
theorem infoInt3 : (Try.prog.info? 3).map (fun i => (i.zero, i.size, i.bytes)) = some (some (.int .i64 0), 1, 8) := by kernel_rfl
theorem infoInt1 : (Try.prog.info? 3).map (·.size) = some 1 := by kernel_rfl
theorem sizeIn12 : ∀ w, (sizeOf 3).run Try.prog w = .ok 1 w := Try.sizeOf3
theorem ixInt (b i n cap : Nat) (hi : i < n) (w : World) : (Instr.indexAt 25 (.slice (some ⟨b, 0, none⟩) n cap) (.int .i64 (i : Int))).run Try.prog w = .ok (.pointer (some ⟨b, i, none⟩)) w := by
  have ea : (⟨b, 0, none⟩ : Addr).add i = ⟨b, i, none⟩ := by rw [Addr.add_mid, Nat.zero_add]
  simp [Instr.indexAt, run_underlying Try.underlying25, asIntOf, ea]
  intro
  omega
theorem ints_0 (w : World) : (leafE (fun a : Int => [Value.int .i64 a]) 0 [.int .i64 0]).on w (fun _ => False) := rfl
theorem int_len {w : World} {ao : Option Addr} {n cap : Nat} {xs : List Int} (h : RowAt w (.slice ao n cap) (xs.map (.int .i64))) : xs.length = n := by
  have := h.len
  simpa using this.symm
theorem int_form {w : World} {v : Value} {xs : List Int} (h : RowAt w v (xs.map (.int .i64))) : ∃ ao cap, v = .slice ao xs.length cap := by
  obtain ⟨ao, cap, e, _⟩ := h
  exact ⟨ao, cap, by simpa using e⟩
theorem int_ix {w : World} {ao : Option Addr} {n cap : Nat} {xs : List Int} (h : RowAt w (.slice ao n cap) (xs.map (.int .i64))) {i : Nat} (hi : i < n) :
    ∃ a : Addr, (∀ w', (Instr.indexAt 25 (.slice ao n cap) (.int .i64 (i : Int))).run Try.prog w' = .ok (.pointer (some a)) w') ∧ ∀ w', New w w' → w'.cell? a = some (.int .i64 (xs.getD i 0)) := by
  have hl := int_len h
  obtain ⟨a, v, hx, hix, hc⟩ := h.ix 25 Try.underlying25 sizeIn12 hi
  have hv : v = .int .i64 (xs.getD i 0) := by
    rw [List.getElem?_map, List.getElem?_eq_getElem (by omega)] at hx
    rw [List.getD_eq_getElem?_getD, List.getElem?_eq_getElem (by omega)]
    simpa using hx.symm
  subst hv
  exact ⟨a, hix, hc⟩
end Go.Proofs.Ytomclhbekmcaeaa
