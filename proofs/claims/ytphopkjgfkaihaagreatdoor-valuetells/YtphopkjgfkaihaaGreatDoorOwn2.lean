/-
  Slices of elements of two cells: one that came in or was made, and one that is being made by append, element by element.
-/
import Derived.Test.YtphopkjgfkaihaaGreatDoorAsmAll
import Derived.OwnWalk
import Derived.Deep.MidRow
namespace Go.Proofs.YtphopkjgfkaihaaGreatDoor
open Go.RowKit

def flatG (g : Nat → List Value) (n : Nat) : List Value := (List.range n).flatMap g
theorem flatG_succ (g : Nat → List Value) (n : Nat) : flatG g (n + 1) = flatG g n ++ g n := by unfold flatG; rw [List.range_succ, List.flatMap_append]; simp
theorem flatG_len {g : Nat → List Value} (h : ∀ i, (g i).length = 2) : ∀ n, (flatG g n).length = n * 2
  | 0 => rfl
  | n + 1 => by rw [flatG_succ, List.length_append, flatG_len h n, h]; omega
theorem flatG_at {g : Nat → List Value} (h : ∀ i, (g i).length = 2) : ∀ n k j, k < n → j < 2 → (flatG g n)[k * 2 + j]? = (g k)[j]?
  | 0, k, j, hk, _ => absurd hk (Nat.not_lt_zero _)
  | n + 1, k, j, hk, hj => by
    rw [flatG_succ]
    by_cases e : k < n
    · rw [List.getElem?_append_left (by rw [flatG_len h]; omega), flatG_at h n k j e hj]
    · obtain rfl : k = n := by omega
      rw [List.getElem?_append_right (by rw [flatG_len h]; omega), flatG_len h]
      rw [show k * 2 + j - k * 2 = j by omega]
/-- A slice of n elements of two cells. -/
def ElAt (w : World) (v : Value) (n : Nat) (g : Nat → List Value) : Prop := ∃ ao cap, v = .slice ao n cap ∧ ∀ i, i < n → ∃ b off, ao = some ⟨b, off, none⟩ ∧ w.rangeAt b (off + i * 2) (g i)
theorem range_new {w w' : World} {b o : Nat} {cs : List Value} (h : w.rangeAt b o cs) (hn : New w w') : w'.rangeAt b o cs := fun j v hv => by
  have hc := h j v hv
  have hlt : b < w.heap.size := by
    unfold World.cell? at hc
    cases hb : w.heap[b]? with
    | none => simp only [hb] at hc; simp at hc
    | some o => exact heap_lt hb
  have := hn.block b hlt
  unfold World.cell? at hc ⊢
  simp only [this]
  exact hc
theorem ElAt.new {w w' : World} {v : Value} {n : Nat} {g : Nat → List Value} (h : ElAt w v n g) (hn : New w w') : ElAt w' v n g := by
  obtain ⟨ao, cap, e, hh⟩ := h
  exact ⟨ao, cap, e, fun i hi => let ⟨b, off, e1, e2⟩ := hh i hi; ⟨b, off, e1, range_new e2 hn⟩⟩
theorem ElAt.form {w : World} {v : Value} {n : Nat} {g : Nat → List Value} (h : ElAt w v n g) : ∃ ao cap, v = .slice ao n cap := by
  obtain ⟨ao, cap, e, _⟩ := h
  exact ⟨ao, cap, e⟩
theorem ElAt.ix {w : World} {ao : Option Addr} {n cap : Nat} {g : Nat → List Value} (h : ElAt w (.slice ao n cap) n g) (T : TypeId) {e : TypeId} (hu : Tryz.prog.underlying T = some (.slice e)) (he : ∀ w, (sizeOf e).run Tryz.prog w = .ok 2 w) {i : Nat} (hi : i < n) :
    ∃ (b o : Nat), (∀ w', (Instr.indexAt T (.slice ao n cap) (.int .i64 (i : Int))).run Tryz.prog w' = .ok (.pointer (some ⟨b, o, none⟩)) w') ∧ ∀ w', New w w' → w'.rangeAt b o (g i) := by
  obtain ⟨ao', cap', e0, hh⟩ := h
  simp only [Value.slice.injEq, true_and] at e0
  obtain ⟨rfl, rfl⟩ := e0
  obtain ⟨b, off, rfl, hc⟩ := hh i hi
  refine ⟨b, off + i * 2, fun w' => ?_, fun w' hn => range_new hc hn⟩
  simp [Instr.indexAt, run_underlying hu, asIntOf, he, Addr.add_mid]
  intro; omega
theorem range_two {w : World} {b o : Nat} {c0 c1 : Value} (h : w.rangeAt b o [c0, c1]) : w.cell? ⟨b, o, none⟩ = some c0 ∧ w.cell? ⟨b, o + 1, none⟩ = some c1 := ⟨h 0 c0 rfl, h 1 c1 rfl⟩
/-- A row of the call's own, n elements long. -/
def OwnG (w : World) (B : Nat) (e : TypeId) (v : Value) (n : Nat) (g : Nat → List Value) : Prop := w.ownsRow B e 2 v n (flatG g n)
theorem OwnG.el {w : World} {B n : Nat} {e : TypeId} {v : Value} {g : Nat → List Value} (hl : ∀ i, (g i).length = 2) (h : OwnG w B e v n g) : ElAt w v n g := by
  rcases h.2 with ⟨hv, h0⟩ | ⟨k, cap, cur, hv, _⟩
  · subst h0
    exact ⟨none, 0, hv, fun i hi => absurd hi (Nat.not_lt_zero _)⟩
  · refine ⟨some ⟨k, 0, none⟩, cap, hv, fun i hi => ⟨k, 0, rfl, fun j u hu => ?_⟩⟩
    have hj : j < 2 := by rw [← hl i]; exact (List.getElem?_eq_some_iff.mp hu).1
    have := h.cells (g := k) (by rw [hv]; rfl) (i * 2 + j) u (by rw [flatG_at hl n i j hi hj]; exact hu)
    rw [Addr.add_mid] at this
    rw [show 0 + i * 2 + j = 0 + (i * 2 + j) by omega]
    exact this
/-- It lies in a block from number B on. -/
def FarE (B n : Nat) (v : Value) : Prop := ∃ k cap, v = .slice (some ⟨k, 0, none⟩) n cap ∧ B ≤ k
theorem OwnG.far {w : World} {B n : Nat} {e : TypeId} {v : Value} {g : Nat → List Value} (h : OwnG w B e v n g) (hn : 0 < n) : FarE B n v := by
  rcases h.2 with ⟨_, h0⟩ | ⟨k, cap, cur, hv, hb, _⟩
  · omega
  · exact ⟨k, cap, hv, hb⟩
theorem FarE.mono {B C n : Nat} {v : Value} (h : FarE B n v) (hc : C ≤ B) : FarE C n v := let ⟨k, cap, e, hb⟩ := h; ⟨k, cap, e, Nat.le_trans hc hb⟩
theorem OwnG.nil (w : World) (B : Nat) (e : TypeId) (g : Nat → List Value) : OwnG w B e (.slice none 0 0) 0 g := World.ownsRow_nil _ _ _ _
theorem two_new (w : World) (c0 c1 : Value) (t : TypeId) : ∀ (j : Nat) (u : Value), [c0, c1][j]? = some u → (w.alloc (.cells #[c0, c1] t)).cell? ((⟨w.heap.size, 0, none⟩ : Addr).add j) = some u := by
  intro j u hj
  rw [Addr.add_mid, cell_of_row _ _ _ _ _ _ (heap_alloc_new w (.cells #[c0, c1] t)), Nat.zero_add, ← hj]
  simp
section
variable {ops : Array Oper} {rest : List Oper} {op : Oper} {act : Act} {wr : World} {Q : Exit → Act → World → Prop}
/-- One element more. -/
theorem wpList_app2 (hgd : op.guard = none) (s x : Operand) (T e : TypeId) (ho : op.op = .call { callee := .builtin .append, args := #[s, x], argTypes := #[T, T] })
    {z : Value} {bytes : Nat} (ht : Tryz.prog.underlying T = some (.slice e)) (hi : (Tryz.prog.info? e).map (fun i => (i.zero, i.size, i.bytes)) = some (some z, 2, bytes)) (hz : z.cells.size = 2) (hb : bytes ≤ 1000)
    (B n : Nat) (hB : B ≤ wr.heap.size) (hn : n ≤ 10000) (v : Value) (g : Nat → List Value) (hs : act.eval s = v) (c0 c1 : Value) (hx : act.eval x = .slice (some ⟨wr.heap.size, 0, none⟩) 1 1) (hg : g n = [c0, c1]) (h0 : c0.oneCell' = true) (h1 : c1.oneCell' = true)
    (h : OwnG wr B e v n g)
    (hk : ∀ v' w', OwnG w' B e v' (n + 1) g → (∀ w0 : World, w0.heap.size ≤ B → New w0 wr → New w0 w') → (∀ k ob, k < B → wr.heap[k]? = some ob → w'.heap[k]? = some ob) → wpList Tryz.prog ops Q rest (act.put op.dst v') w') :
    wpList Tryz.prog ops Q (op :: rest) act (wr.alloc (.cells #[c0, c1] e)) := by
  obtain ⟨i0, k1, k2, k3, k4⟩ := info_parts hi
  have hal := World.ownsRow.alloc h (.cells #[c0, c1] e)
  refine wpList_append_own _ hgd s x T ho B e i0 z 2 bytes ht k1 k2 k3 k4 hz (by decide) v n (flatG g n) hs hal ⟨wr.heap.size, 0, none⟩ 1 1 [c0, c1] hx rfl (two_new _ _ _ _) ?_ (by unfold maxLen; omega) ?_ (by rw [alloc_size]; omega) ?_
  · intro u hu
    simp only [List.mem_cons, List.not_mem_nil, or_false] at hu
    rcases hu with rfl | rfl <;> assumption
  · have : (n + 1) * bytes ≤ 10001 * 1000 := Nat.mul_le_mul (by omega) hb
    omega
  · intro v' w' hown hgr _
    have hr := owns_row h
    refine hk v' w' ?_ (fun w0 hw0 hN => ?_) (fun k ob hkB hob => ?_)
    · unfold OwnG
      rw [flatG_succ, hg]
      exact hown
    · exact Below.grown (hN.alloc _) hgr (hN.alloc (.cells #[c0, c1] e)).size (fun k hk => by have := hr k hk; omega)
    · exact grown_heap hgr ((alloc_new _ _).heap hob) (fun j hj => by have := hr j hj; omega)
end
end Go.Proofs.YtphopkjgfkaihaaGreatDoor
