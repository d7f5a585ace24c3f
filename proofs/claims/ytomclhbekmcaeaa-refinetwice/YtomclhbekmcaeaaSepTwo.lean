/-
  Rows of rows: what is read of them; what was taken out is put back; a whole element is stored; an element's address.
-/
import Derived.Test.YtomclhbekmcaeaaSepNest
namespace Go.Proofs.Ytomclhbekmcaeaa
open Go.RowKit

section
variable {w0 w : World} {l : List Asn} {α : Type} {E : α → List Value → Asn} {mk : α → List Value} {e : TypeId} {k : Nat} {v : Value} {xs : List α}
/-- What was taken out is put back, as it is. -/
theorem Sep.back {i : Nat} {y : α} {c : List Value} (h : Sep w0 w (E y c :: holeA e k E v xs i c :: l)) (hl : c.length = k) : Sep w0 w (rowA e k E v (xs.set i y) :: l) := by
  refine Sep.close h hl (fun gs _ _ hg ho => ?_) fun b _ _ => ⟨rfl, fun _ _ => rfl, fun _ _ h => h⟩
  have hi := (List.getElem?_eq_some_iff.mp hg)
  rw [← hi.2, List.set_getElem_self]
  exact ho
/-- A whole element is stored. -/
theorem run_stLw (m : Nat) (t : TypeId) (b n cap j : Nat) (hj : j < xs.length) {y : α} (u : Value) (h : Sep w0 w l) (hA : l[m]? = some (rowA e k (leafE mk) (.slice (some ⟨b, 0, none⟩) n cap) xs)) (hk0 : 0 < k) (hkl : (mk y).length = k) (hu : u.cells = (mk y).toArray) (h1 : ∀ x ∈ mk y, x.oneCell' = true) (hi : (Try.prog.info? t).map (·.size) = some k) :
    ∃ w', (Instr.storeAt t (.pointer (some ⟨b, j * k, none⟩)) u).run Try.prog w = .ok () w' ∧ Sep w0 w' (l.set m (rowA e k (leafE mk) (.slice (some ⟨b, 0, none⟩) n cap) (xs.set j y))) := by
  obtain ⟨b', cap', c, e1, e2, _, hs⟩ := h.openAt m hA (List.getElem?_eq_getElem hj)
  obtain ⟨e3, hs⟩ := hs.said
  have hlm : m < l.length := some_lt hA
  have hm : (l.set m (holeA e k (leafE mk) (.slice (some ⟨b, 0, none⟩) n cap) xs j c))[m]? = some (holeA e k (leafE mk) (.slice (some ⟨b, 0, none⟩) n cap) xs j c) := by
    rw [List.getElem?_set, if_pos rfl, if_pos hlm]
  obtain ⟨w', hr, h2⟩ := run_stEw m t b j u (mk y) (E := leafE mk) (y := y) (hs.say rfl) hm rfl hkl hk0 hu h1 hi
  rw [List.set_set] at h2
  exact ⟨w', hr, h2⟩
theorem leaf_at {b n cap i : Nat} {x : α} (h : (rowA e k (leafE mk) (.slice (some ⟨b, 0, none⟩) n cap) xs).rd w) (hi : xs[i]? = some x) : ∀ w', New w w' → w'.rangeAt b (i * k) (mk x) := by
  obtain ⟨b', cap', c, e1, h1, h2, F, h3, _⟩ := rowA_at h hi
  simp only [Value.slice.injEq, Option.some.injEq, Addr.mk.injEq] at e1
  obtain ⟨⟨rfl, _⟩, _, _⟩ := e1
  have h4 : c = mk x := h3
  subst h4
  exact fun w' hn j v hv => hn.cell' (h2 j v hv)
/-- What is read of a row of rows. -/
theorem nest_ix {P : Program} {Q : Value → α → Asn} {ao : Option Addr} {n cap : Nat} (h : (rowA e 1 (nest Q) (.slice ao n cap) xs).rd w) (T : TypeId) (hu : P.underlying T = some (.slice e)) (he : ∀ w, (sizeOf e).run P w = .ok 1 w) {i : Nat} {x : α} (hi : xs[i]? = some x) :
    ∃ (b o : Nat) (u : Value), (∀ w', (Instr.indexAt T (.slice ao n cap) (.int .i64 (i : Int))).run P w' = .ok (.pointer (some ⟨b, o, none⟩)) w') ∧ (∀ w', New w w' → w'.cell? ⟨b, o, none⟩ = some u) ∧ (Q u x).rd w := by
  obtain ⟨b, o, c, _, h1, h2, h3⟩ := rowA_ix h T hu he hi
  obtain ⟨u, rfl, h4⟩ := nest_rd h3
  exact ⟨b, o, u, h1, fun w' hn => by have := h2 w' hn 0 _ rfl; rwa [Nat.add_zero] at this, h4⟩
theorem ixRow {P : Program} {T e : TypeId} {k : Nat} (hu : P.underlying T = some (.slice e)) (he : ∀ w, (sizeOf e).run P w = .ok k w) (b i n cap : Nat) (hi : i < n) (w : World) : (Instr.indexAt T (.slice (some ⟨b, 0, none⟩) n cap) (.int .i64 (i : Int))).run P w = .ok (.pointer (some ⟨b, i * k, none⟩)) w := by
  have ea : (⟨b, 0, none⟩ : Addr).add (i * k) = ⟨b, i * k, none⟩ := by rw [Addr.add_mid, Nat.zero_add]
  simp [Instr.indexAt, run_underlying hu, asIntOf, he, ea]
  intro
  omega
end
theorem wpList_ldAG {ops : Array Oper} {rest : List Oper} {op : Oper} {act : Act} {w : World} {Q : Exit → Act → World → Prop} (hw : Region.wanted op (yielded ops act.tmps) = true) (ty : TypeId) (x : Operand) (ho : op.op = .load ty x) (b o : Nat) (hx : act.eval x = .pointer (some ⟨b, o, none⟩)) (cs : List Value) (d : TypeDesc) (hc : w.rangeAt b o cs)
    (hu : Try.prog.underlying ty = some d) (hd : d.isRow = true) (hi : (Try.prog.info? ty).map (·.size) = some cs.length) (h : wpList Try.prog ops Q rest (act.put op.dst (.agg cs.toArray)) w) : wpList Try.prog ops Q (op :: rest) act w := by
  unfold wpList
  rw [if_pos hw]
  exact .inl (wp_load_mid ty x ho b o hx cs d hc hu hd hi h)
end Go.Proofs.Ytomclhbekmcaeaa
