/-
  The contract of heap.Store: for every row of numbers: new memory that holds the row with the other word.
-/
import Derived.Test.YtdghhedenjgjiaaGreatDoorHeapA
import Derived.Test.YtdghhedenjgjiaaGreatDoorOwns
import Derived.OwnWalk
import Derived.Deep.OwnRows
import Derived.Laws.CopyOwn
namespace Go.Proofs.YtdghhedenjgjiaaGreatDoor
open Go.RowKit

/-- A block that holds a row of numbers, and nothing else. -/
def Blk (w : World) (g : Nat) (zs : List Int) : Prop := w.heap[g]? = some (.cells (zs.map (Value.int .i64)).toArray 2 (0, 0))
theorem info64 : (Tryz.prog.info? 2).map (fun i => (i.zero, i.size, i.bytes)) = some (some (.int .i64 0), 1, 8) := by kernel_rfl
theorem size64 : (Tryz.prog.info? 2).map (·.size) = some 1 := by kernel_rfl
theorem Blk.hp {w : World} {g : Nat} {zs : List Int} (h : Blk w g zs) {n : Nat} (hn : n = zs.length) (cap : Nat) : Hp w (.slice (some ⟨g, 0, none⟩) n cap) zs := by
  subst hn
  refine ⟨some ⟨g, 0, none⟩, cap, by rw [List.length_map], fun i hi => ⟨g, 0, rfl, ?_⟩⟩
  rw [Nat.zero_add]
  unfold World.cell?
  unfold Blk at h
  have hi' : i < zs.length := by simpa using hi
  simp [h, hi']
theorem Blk.new {w w' : World} {g : Nat} {zs : List Int} (h : Blk w g zs) (n : New w w') : Blk w' g zs := n.heap h
theorem Hp.src {w : World} {ao : Option Addr} {n cap : Nat} {zs : List Int} (h : Hp w (.slice ao n cap) zs) : 0 < (zs.map (Value.int .i64)).length → ∃ ad, ao = some ad ∧ ∀ j v, (zs.map (Value.int .i64))[j]? = some v → ∀ w', New w w' → w'.cell? (ad.add j) = some v := by
  obtain ⟨ao', cap', e0, hh⟩ := h
  simp only [Value.slice.injEq] at e0
  obtain ⟨rfl, _, _⟩ := e0
  intro hp
  obtain ⟨b, off, rfl, _⟩ := hh 0 hp
  refine ⟨⟨b, off, none⟩, rfl, fun j v hj w' hn => ?_⟩
  have hjl : j < (zs.map (Value.int .i64)).length := (List.getElem?_eq_some_iff.1 hj).1
  obtain ⟨b', off', e, hc⟩ := hh j hjl
  simp only [Option.some.injEq, Addr.mk.injEq] at e
  obtain ⟨rfl, rfl, _⟩ := e
  have ea : (⟨b, off, none⟩ : Addr).add j = ⟨b, off + j, none⟩ := by unfold Addr.add; split <;> simp_all
  rw [ea, new_cell hn hc]
  rw [List.getElem?_eq_getElem hjl] at hj
  exact hj
/-- A word is stored into its block. -/
theorem Blk.store {w : World} {g : Nat} {zs : List Int} (h : Blk w g zs) {k : Nat} (hk : k < zs.length) (x : Int) :
    (Instr.storeAt 2 (.pointer (some ⟨g, k, none⟩)) (.int .i64 x)).run Tryz.prog w = .ok () (putO w g (.cells ((zs.set k x).map (Value.int .i64)).toArray 2 (0, 0))) := by
  unfold Blk at h
  have hs := run_storeCells_at (P := Tryz.prog) g k 2 [.int .i64 x] 0 _ w h (by simp; omega) (by simp [Value.oneCell'])
  obtain ⟨i, hq, h1⟩ : ∃ i, Tryz.prog.info? 2 = some i ∧ i.size = 1 := by
    have := size64
    cases hq : Tryz.prog.info? 2 with
    | none => rw [hq] at this; cases this
    | some i => rw [hq] at this; exact ⟨i, rfl, by simpa using this⟩
  have e : (List.take (k + 0) (zs.map (Value.int .i64)).toArray.toList ++ [.int .i64 x] ++ List.drop (k + 0 + [Value.int .i64 x].length) (zs.map (Value.int .i64)).toArray.toList) = (zs.set k x).map (Value.int .i64) := by
    simp only [Nat.add_zero, List.length_singleton]
    rw [List.set_eq_take_append_cons_drop, if_pos hk]
    simp [List.map_take, List.map_drop]
  rw [e, setRow_putO h] at hs
  simp [Instr.storeAt, Instr.sureAddr, storeVar, sizeOf, typeInfo, hq, h1, Value.cells, hs]
theorem Blk.put {w : World} {g : Nat} {zs : List Int} (h : Blk w g zs) (ys : List Int) : Blk (putO w g (.cells (ys.map (Value.int .i64)).toArray 2 (0, 0))) g ys := putO_same h
theorem wpList_stB {ops : Array Oper} {rest : List Oper} {op : Oper} {act : Act} {w : World} {Q : Exit → Act → World → Prop} (hgd : op.guard = none) (hdst : op.dst = none) (p q : Operand) (ho : op.op = .store 2 p q)
    (g k : Nat) (hx : act.eval p = .pointer (some ⟨g, k, none⟩)) (x : Int) (hy : act.eval q = .int .i64 x) {zs : List Int} (h : Blk w g zs) (hk : k < zs.length)
    (hK : wpList Tryz.prog ops Q rest act (putO w g (.cells ((zs.set k x).map (Value.int .i64)).toArray 2 (0, 0)))) : wpList Tryz.prog ops Q (op :: rest) act w :=
  wpList_plain hgd fun _ hK' => by
    unfold Oper.wp execOp
    simp only [ho, hx, hy, h.store hk x, Sem.run_bind, Sem.run_pure, Result.andThen_ok]
    refine hK' _ _ ?_
    rw [hdst]
    exact hK
theorem ix_own (g n cap : Nat) {k : Nat} (hk : k < n) (w : World) : (Instr.indexAt 26 (.slice (some ⟨g, 0, none⟩) n cap) (.int .i64 (k : Int))).run Tryz.prog w = .ok (.pointer (some ⟨g, k, none⟩)) w := by
  have ea : (⟨g, 0, none⟩ : Addr).add k = ⟨g, k, none⟩ := by unfold Addr.add; split <;> simp_all
  simp [Instr.indexAt, run_underlying Tryz.underlying26, asIntOf, Tryz.sizeOf2, ea]
  intro; omega
theorem splice_all (Z X : List Value) (h : Z.length = X.length) : splice Z 0 X = X := by
  unfold splice
  rw [List.take_zero, List.nil_append, Nat.zero_add, List.drop_of_length_le (by omega), List.append_nil]
/-- A row that lies in a block from number B on. -/
def Fresh {α : Type} (B : Nat) (v : Value) (zs : List α) : Prop := zs = [] ∨ ∃ b off n cap, v = .slice (some ⟨b, off, none⟩) n cap ∧ B ≤ b
theorem Fresh.mono {α : Type} {B C : Nat} {v : Value} {zs : List α} (h : Fresh C v zs) (hb : B ≤ C) : Fresh B v zs := h.imp id fun ⟨b, off, n, cap, e, h⟩ => ⟨b, off, n, cap, e, Nat.le_trans hb h⟩
theorem Hp.far {w w' : World} {v : Value} {zs : List Int} {B g : Nat} (h : Hp w v zs) (f : Fresh B v zs) (hg : g < B) (hk : ∀ k, k ≠ g → w'.heap[k]? = w.heap[k]?) : Hp w' v zs := by
  obtain ⟨ao, cap, e, hh⟩ := h
  refine ⟨ao, cap, e, fun i hi => ?_⟩
  obtain ⟨b, off, e1, h1⟩ := hh i hi
  refine ⟨b, off, e1, ?_⟩
  have hb : b ≠ g := by
    rcases f with rfl | ⟨b', off', n', cap', e', hb'⟩
    · simp at hi
    · rw [e'] at e
      simp only [Value.slice.injEq] at e
      rw [← e.1] at e1
      simp only [Option.some.injEq, Addr.mk.injEq] at e1
      omega
  have := hk b hb
  unfold World.cell? at h1 ⊢
  simp only [this]
  exact h1
set_option maxHeartbeats 2000000 in
theorem store_f (zs : List Int) (a x : Int) (ao : Option Addr) (n cap : Nat) (w : World) (h : Hp w (.slice ao n cap) zs) :
    Calls Tryz.prog 56 #[.slice ao n cap, .int .i64 a, .int .i64 x] w fun e w' => ∃ v, e = .returned (.tuple #[v, .int .i64 (hpHow zs a)]) ∧ Hp w' v (hpSt zs a x) ∧ New w w' ∧ Fresh w.heap.size v (hpSt zs a x) := by
  have HN : Hid (n = zs.length) := Lib.hid (by have := RowAt.len h; rwa [List.length_map] at this)
  cases hi : inB zs a with
  | true =>
    obtain ⟨h16, hka, hkl⟩ := inB_nat hi
    have HS := Lib.hid h.src
    have HI : Hid (inB zs a = true) := Lib.hid hi
    obtain ⟨i0, hi0, hz0, hz1, hz2⟩ := info_parts info64
    have hx : ∀ w', (Instr.indexAt 26 (.slice (some ⟨w.heap.size, 0, none⟩) n n) (.int .i64 a)).run Tryz.prog w' = .ok (.pointer (some ⟨w.heap.size, a.toNat, none⟩)) w' := fun w' => by
      have := ix_own w.heap.size n n (k := a.toNat) (by rw [HN.out]; exact hkl) w'
      rwa [← hka] at this
    have n16 : n ≤ 16 := by rw [HN.out]; exact h16
    have HE : Hid (hpSt zs a x = zs.set a.toNat x) := Lib.hid (hpSt_in x hi)
    have HW : Hid (hpHow zs a = 0) := Lib.hid (hpHow_in hi)
    have HKL := Lib.hid hkl
    have HZ : Hid ((madeCells #[Value.int .i64 0] n).toList.length = (zs.map (Value.int .i64)).length) := Lib.hid (by rw [Array.length_toList, size_madeCells, List.length_map]; exact HN.out)
    clear h h16 hka hkl hi
    go_enter Tryz.func56, Tryz.ntmps56
    go_wp2_with (first
      | (go_at_call 70; refine (where_is zs a _ _ _ _ HN.out HI.out).mono ?_; rintro e w1 ⟨rfl, rfl⟩)
      | (at_make; refine wpList_make_row _ rfl (.tmp 20) (.tmp 20) 26 rfl 2 i0 (.int .i64 0) Tryz.underlying26 hi0 hz0 hz1 rfl .i64 .i64 n rfl rfl (by rw [hz2]; omega) (by omega) ?_)
      | (refine wpList_copy_splice rfl (.tmp 22) (.tmp 23) 26 26 rfl 2 Tryz.underlying26 size64 _ _ _ _ _ _ rfl rfl w1.heap.size 0 (madeCells #[.int .i64 0] n).toList 2 (by rw [Array.toArray_toList]; exact alloc_at rfl _) (zs.map (Value.int .i64)) (by rw [List.length_map, ← HN.out]; exact (Nat.min_self _).symm) (fun hp => ⟨rfl, (HS.out hp).imp fun ad ⟨e1, e2⟩ => ⟨e1, fun j v hj => e2 j v hj _ (alloc_new _ _)⟩⟩) (by rw [HZ.out, Nat.zero_add]; exact Nat.le_refl _) (ints_oneCell _ _) w1.heap.size w1 (alloc_new _ _) (Nat.le_refl _) ?_; intro w2 HG2 hB2; have HB : Hid (Blk w2 w1.heap.size zs) := Lib.hid (by have := HG2.out; rw [splice_all _ _ HZ.out] at this; exact this); clear HG2)
      | (refine wpList_stB rfl rfl (.tmp 28) (.tmp 27) rfl w1.heap.size a.toNat rfl x rfl HB.out HKL.out ?_))
    go_ret2
    refine ⟨_, ret_vi HW.out.symm, ?_, ?_, .inr ⟨_, _, _, _, rfl, Nat.le_refl _⟩⟩
    · rw [HE.out]
      exact (HB.out.put _).hp (by rw [List.length_set]; exact HN.out) _
    · exact New.put hB2 (Nat.le_refl _) _
  | false =>
    have HE := Lib.hid (hpSt_out x hi)
    have HH := Lib.hid (hpHow_out hi)
    have HI : Hid (inB zs a = false) := Lib.hid hi
    clear h hi
    go_enter Tryz.func56, Tryz.ntmps56
    go_wp2_with (go_at_call 70; refine (where_out zs a _ _ _ _ HN.out HI.out).mono ?_; rintro e w1 ⟨rfl, rfl⟩)
    go_ret2
    exact ⟨_, ret_vi HH.out.symm, by rw [HE.out]; exact Hp.nil _, New.refl _, .inl HE.out⟩
theorem store_in (zs : List Int) (a x : Int) (ao : Option Addr) (n cap : Nat) (w : World) (h : Hp w (.slice ao n cap) zs) :
    Calls Tryz.prog 56 #[.slice ao n cap, .int .i64 a, .int .i64 x] w fun e w' => ∃ v, e = .returned (.tuple #[v, .int .i64 (hpHow zs a)]) ∧ Hp w' v (hpSt zs a x) ∧ New w w' :=
  (store_f zs a x ao n cap w h).mono fun _ _ ⟨v, h1, h2, h3, _⟩ => ⟨v, h1, h2, h3⟩
theorem store_any (zs : List Int) (a x : Int) (v : Value) (w : World) (h : Hp w v zs) :
    Calls Tryz.prog 56 #[v, .int .i64 a, .int .i64 x] w fun e w' => ∃ v, e = .returned (.tuple #[v, .int .i64 (hpHow zs a)]) ∧ Hp w' v (hpSt zs a x) ∧ New w w' := by
  obtain ⟨ao, cap, rfl⟩ := h.form
  exact store_in zs a x ao _ cap w h
end Go.Proofs.YtdghhedenjgjiaaGreatDoor
