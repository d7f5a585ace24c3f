/-
  The reference's With: places with another word, in new memory.
-/
import Derived.Test.YtdghhedenjgjiaaGreatDoorStepM
namespace Go.Proofs.YtdghhedenjgjiaaGreatDoor
open Go.RowKit

theorem own_emptyW (w : World) (B : Nat) (hB : B ≤ w.heap.size) : (w.alloc (.cells #[] 24)).ownsRow B 24 2 (.slice (some ⟨w.heap.size, 0, none⟩) 0 0) 0 [] :=
  ⟨rfl, .inr ⟨w.heap.size, 0, #[], rfl, hB, heap_alloc_new _ _, Nat.le_refl _, by simp, by simp, by simp⟩⟩
theorem ix_ownW (g n cap : Nat) {k : Nat} (hk : k < n) (w : World) : (Instr.indexAt 38 (.slice (some ⟨g, 0, none⟩) n cap) (.int .i64 (k : Int))).run Tryz.prog w = .ok (.pointer (some ⟨g, k * 2, none⟩)) w := by
  simp [Instr.indexAt, run_underlying Tryz.underlying38, asIntOf, Addr.add_mid]
  intro; omega
/-- What a row of words that came in holds, cell by cell. -/
theorem WsAt.cells {w : World} {a : Sl} {l : Ws} (h : WsAt w a l) : ∃ b off, a.ao = some ⟨b, off, none⟩ ∧ a.n = 24 ∧ ∀ w', New w w' → ∀ j u, (cellsW l).toList[j]? = some u → w'.cell? ((⟨b, off, none⟩ : Addr).add j) = some u := by
  have hn := h.n
  obtain ⟨ao, cap, e, hh⟩ := h
  simp only [Value.slice.injEq] at e
  obtain ⟨b, off, e1, _⟩ := hh 0 (by omega)
  refine ⟨b, off, e.1.trans e1, hn, fun w' hw j u hu => ?_⟩
  have hj : j < 48 := by
    have := (List.getElem?_eq_some_iff.mp hu).1
    rwa [Array.length_toList, cellsW_size] at this
  obtain ⟨i, r, hr, rfl⟩ : ∃ i r, r < 2 ∧ j = 2 * i + r := ⟨j / 2, j % 2, by omega, by omega⟩
  obtain ⟨b', off', e2, hc⟩ := hh i (by omega)
  rw [e1] at e2
  simp only [Option.some.injEq, Addr.mk.injEq] at e2
  obtain ⟨rfl, rfl, _⟩ := e2
  have e3 : (cellsW l).toList[2 * i + r]? = (cellsW l)[2 * i + r]? := Array.getElem?_toList
  rw [e3, cellsW_at l (by omega) hr] at hu
  rw [Addr.add_mid, show off + (2 * i + r) = off + i * 2 + r by omega]
  exact hw.cell (hc r u hu)
theorem upd_cells {l : Ws} {k : Nat} (hk : k < 24) (x : Wd) (R : List Value) : ((cellsW l).toList ++ R).take (k * 2) ++ wcells x ++ ((cellsW l).toList ++ R).drop (k * 2 + (wcells x).length) = (cellsW (updW l k x)).toList ++ R := by
  have hz : (cellsW l).toList.length = 48 := by rw [Array.length_toList]; exact cellsW_size l
  have e2 : (wcells x).length = 2 := rfl
  rw [e2, Nat.mul_comm, List.take_append_of_le_length (by omega), List.drop_append_of_le_length (by omega), ← List.append_assoc, cellsW_set l x hk]
/-- A slice that lies in a block from number B on. -/
def FarS (B : Nat) (b : Sl) : Prop := ∃ bb off, b.ao = some ⟨bb, off, none⟩ ∧ B ≤ bb
theorem WsAt.far {w w' : World} {b : Sl} {l : Ws} {B g : Nat} (h : WsAt w b l) (f : FarS B b) (hg : g < B) (hk : ∀ k, k ≠ g → w'.heap[k]? = w.heap[k]?) : WsAt w' b l := by
  obtain ⟨ao, cap, e, hh⟩ := h
  refine ⟨ao, cap, e, fun i hi => ?_⟩
  obtain ⟨bb, off, e1, h1⟩ := hh i hi
  refine ⟨bb, off, e1, fun j u hu => ?_⟩
  obtain ⟨b', off', e2, hb⟩ := f
  simp only [Value.slice.injEq] at e
  rw [e.1, e1] at e2
  simp only [Option.some.injEq, Addr.mk.injEq] at e2
  have hn : bb ≠ g := by omega
  have h2 := h1 j u hu
  have := hk bb hn
  unfold World.cell? at h2 ⊢
  simp only [this]
  exact h2
theorem own_parts {w : World} {B n : Nat} {e : TypeId} {size : Nat} {v : Value} {xs : List Value} (h : w.ownsRow B e size v n xs) (hn : 0 < n) :
    ∃ g cap cur, v = .slice (some ⟨g, 0, none⟩) n cap ∧ B ≤ g ∧ w.heap[g]? = some (.cells cur e (0, 0)) ∧ cur.size = cap * size ∧ cur.toList.take (n * size) = xs := by
  rcases h.2 with ⟨_, h0⟩ | ⟨g, cap, cur, hv, hB, hg, _, _, hs, ht⟩
  · omega
  · exact ⟨g, cap, cur, hv, hB, hg, hs, ht⟩
theorem own_row48 {w : World} {g : Nat} {cur : Array Value} {l : Ws} (hg : w.heap[g]? = some (.cells cur 24 (0, 0))) (ht : cur.toList.take 48 = (cellsW l).toList) : HasC w g 24 ((cellsW l).toList ++ cur.toList.drop 48) := by
  unfold HasC
  rw [← ht, List.take_append_drop, Array.toArray_toList]
  exact hg
set_option maxHeartbeats 4000000 in
set_option maxRecDepth 100000 in
theorem refWith_any (l : Ws) (k : Nat) (hk : k < 24) (x : Wd) (a : Sl) (w : World) (h : WsAt w a l) :
    Calls Tryz.prog 40 #[.slice a.ao a.n a.c, .int .i64 (k : Int), .agg #[.bool x.1, .int .i64 x.2]] w fun e w' => ∃ b : Sl, e = .returned (.slice b.ao b.n b.c) ∧ WsAt w' b (updW l k x) ∧ New w w' ∧ FarS w.heap.size b := by
  obtain ⟨ab, ao, e1, e2, hcell⟩ := h.cells
  obtain ⟨a1, a2, a3⟩ := a
  have e1' : a1 = some ⟨ab, ao, none⟩ := e1
  have e2' : a2 = 24 := e2
  subst e1' e2'
  have HC := Lib.hid hcell
  obtain ⟨i0, hi0, hz0, hz1, hz2⟩ := info_parts infoW2
  have hz48 : (cellsW l).toList.length = 24 * 2 := by rw [Array.length_toList]; exact cellsW_size l
  have HZ48 := Lib.hid hz48
  have hk' : (k : Int) < 24 := by omega
  clear e1 e2 hcell h hz48
  go_enter Tryz.func40, Tryz.ntmps40
  go_wp2_with (first
    | (refine wpList_boxX rfl 24 (.tmp 2) rfl (wcells x) rfl ?_; intro w1 g5 hg5 hl5 H5 hn1; have HD : Hid (HasD w1 g5 x) := Lib.hid H5; clear H5)
    | (at_builtin; refine wpList_append_own _ rfl (.tmp 8) (.tmp 9) 38 rfl w1.heap.size 24 i0 _ 2 16 Tryz.underlying38 hi0 hz0 hz1 hz2 rfl (by decide) (.slice (some ⟨w1.heap.size, 0, none⟩) 0 0) 0 [] rfl (own_emptyW w1 _ (Nat.le_refl _)) ⟨ab, ao, none⟩ 24 a3 (cellsW l).toList rfl HZ48.out (HC.out _ (hn1.alloc _)) (cellsW_one l) (by unfold maxLen; omega) (by omega) (by rw [alloc_size]; omega) ?_; intro v' w2 hown hgr _; obtain ⟨g, cap, cur, e1, hBg, hcur, hsz, htk⟩ := own_parts hown (by decide); subst e1; have HX : Hid (HasC w2 g 24 ((cellsW l).toList ++ cur.toList.drop 48)) := Lib.hid (own_row48 hcur (by have h := htk; rw [List.nil_append] at h; exact h)); have hix := fun w => ix_ownW g 24 cap hk w; have N2 : New w w2 := Below.grown (hn1.alloc _) hgr (hn1.alloc (.cells #[] 24)).size (fun k hk => by simp only [Value.ownBlock, Option.some.injEq] at hk; have := hn1.size; omega); have HD2 : Hid (HasD w2 g5 x) := Lib.hid (grown_heap hgr ((alloc_new _ _).heap HD.out) (fun k hk => by simp only [Value.ownBlock, Option.some.injEq] at hk; omega)); clear hown hgr)
    | (refine wpList_ldDd rfl (.tmp 5) rfl g5 rfl HD2.out ?_)
    | (refine wpList_stX rfl rfl 24 (.tmp 14) (.tmp 13) rfl g (k * 2) rfl _ rfl HX.out (wcells x) rfl (by rw [List.length_append, HZ48.out]; simp [wcells]; omega) (by simp [wcells, Value.oneCell']) infoWd (upd_cells hk x _) ?_; intro w3 H3 k3))
  go_ret
  refine ⟨⟨some ⟨g, 0, none⟩, 24, cap⟩, rfl, ?_, k3.below _ (Nat.le_trans hn1.size hBg) N2, ⟨g, 0, rfl, Nat.le_trans hn1.size hBg⟩⟩
  refine ⟨some ⟨g, 0, none⟩, cap, rfl, fun i hi => ⟨g, 0, rfl, ?_⟩⟩
  rw [Nat.zero_add]
  refine H3.range _ _ fun j u hu => ?_
  have hj : j < 2 := by
    have := (List.getElem?_eq_some_iff.mp hu).1
    simpa [wcells] using this
  have e3 : (cellsW (updW l k x)).toList[i * 2 + j]? = (cellsW (updW l k x))[i * 2 + j]? := Array.getElem?_toList
  rw [List.getElem?_append_left (by rw [Array.length_toList, cellsW_size]; omega), e3, Nat.mul_comm, cellsW_at _ hi hj]
  exact hu
end Go.Proofs.YtdghhedenjgjiaaGreatDoor
