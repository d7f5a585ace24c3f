/-
  The contracts of heap.Right, heap.where and heap.Load: for every row of numbers.
  Rows of numbers, read word by word: what the walks of Same use.
  The contract of heap.Store: for every row of numbers: new memory that holds the row with the other word.
  The reference's Same of layer 6; rows made by append.
-/
import Derived.Test.YtphopkjgfkaihaaGreatDoorRowAt
import Derived.Test.YtphopkjgfkaihaaGreatDoorPlain
import Derived.Test.YtphopkjgfkaihaaGreatDoorAsmAll
import Derived.OwnWalk
import Derived.Deep.OwnRows
import Derived.Laws.CopyOwn
namespace Go.Proofs.YtphopkjgfkaihaaGreatDoor
open Go.RowKit

/-- A slice's value that holds a row of numbers. -/
def Hp (w : World) (v : Value) (zs : List Int) : Prop := RowAt w v (zs.map (.int .i64))
theorem Hp.new {w w' : World} {v : Value} {zs : List Int} (h : Hp w v zs) (n : New w w') : Hp w' v zs := RowAt.new h n
theorem Hp.form {w : World} {v : Value} {zs : List Int} (h : Hp w v zs) : ∃ ao cap, v = .slice ao zs.length cap := by
  obtain ⟨ao, cap, e, _⟩ := h
  exact ⟨ao, cap, by rw [e, List.length_map]⟩
theorem Hp.ix {w : World} {ao : Option Addr} {n cap : Nat} {zs : List Int} (h : Hp w (.slice ao n cap) zs) {i : Nat} (hi : i < zs.length) :
    ∃ (a : Addr) (x : Int), zs[i]? = some x ∧ (∀ w', (Instr.indexAt 67 (.slice ao n cap) (.int .i64 (i : Int))).run Tryz.prog w' = .ok (.pointer (some a)) w') ∧ ∀ w', New w w' → w'.cell? a = some (.int .i64 x) := by
  have hl : n = zs.length := by have := RowAt.len h; rwa [List.length_map] at this
  obtain ⟨a, v, e, h1, h2⟩ := RowAt.ix h 67 Tryz.underlying67 Tryz.sizeOf2 (i := i) (by omega)
  rw [List.getElem?_map] at e
  cases hx : zs[i]? with
  | none => rw [hx] at e; cases e
  | some x => rw [hx] at e; obtain rfl := Option.some.inj e; exact ⟨a, x, rfl, h1, h2⟩
theorem Hp.nil (w : World) : Hp w (.slice none 0 0) [] := ⟨none, 0, rfl, fun _ hi => absurd hi (Nat.not_lt_zero _)⟩
theorem ret_vi {v : Value} {a c : Int} (h : a = c) : Ending.returned (.tuple #[v, .int .i64 a]) = .returned (.tuple #[v, .int .i64 c]) := by rw [h]
def whV (zs : List Int) (a : Int) : Int := if inB zs a = true then a else 0
theorem whV_out {zs : List Int} {a : Int} (h : inB zs a = false) : whV zs a = 0 := if_neg (by rw [h]; decide)
theorem ret_ib {a c : Int} {b d : Bool} (h : a = c) (h' : b = d) : Ending.returned (.tuple #[.int .i64 a, .bool b]) = .returned (.tuple #[.int .i64 c, .bool d]) := by rw [h, h']
theorem hpRight_any (ao : Option Addr) (n cap : Nat) (w : World) :
    Calls Tryz.prog 79 #[.slice ao n cap] w fun e w' => e = .returned (.bool (decide (n ≤ 16))) ∧ w' = w := by
  by_cases h : n ≤ 16
  · have h' : (n : Int) ≤ 16 := by omega
    go_enter Tryz.func79, Tryz.ntmps79
    go_wp2
    go_ret
    exact ⟨by simp [h], rfl⟩
  · have h' : ¬ (n : Int) ≤ 16 := by omega
    go_enter Tryz.func79, Tryz.ntmps79
    go_wp2
    go_ret
    exact ⟨by simp, rfl⟩
theorem hpRight_is (ao : Option Addr) (n cap : Nat) (w : World) {b : Bool} (h : decide (n ≤ 16) = b) :
    Calls Tryz.prog 79 #[.slice ao n cap] w fun e w' => e = .returned (.bool b) ∧ w' = w := h ▸ hpRight_any ao n cap w
set_option maxHeartbeats 1000000 in
theorem where_any (zs : List Int) (a : Int) (ao : Option Addr) (n cap : Nat) (w : World) (hn : n = zs.length) :
    Calls Tryz.prog 105 #[.slice ao n cap, .int .i64 a] w fun e w' => e = .returned (.tuple #[.int .i64 (whV zs a), .bool (inB zs a)]) ∧ w' = w := by
  have HN := Lib.hid hn
  clear hn
  by_cases h16 : n ≤ 16
  · have D16 : Hid (decide (n ≤ 16) = true) := Lib.hid (decide_eq_true h16)
    go_enter Tryz.func105, Tryz.ntmps105
    go_wp2_with (go_at_call 79; refine (hpRight_is _ _ _ _ D16.out).mono ?_; rintro e w1 ⟨rfl, rfl⟩)
    go_loop [12] (fun kv => ∃ k : Nat, kv = .int .i64 k ∧ k ≤ n ∧ Hid (∀ j : Nat, j < k → (j : Int) ≠ a)) (fun kv => n - (intOf kv).toNat)
    case atStart => exact ⟨0, rfl, by omega, Lib.hid (fun j hj => by omega)⟩
    case round =>
      obtain ⟨k, rfl, hk, HB⟩ := hrel
      by_cases hlt : k < n
      · have hlt' : (k : Int) < (n : Int) := by omega
        by_cases he : (k : Int) = a
        · have q := beq_of he
          have HI : Hid (inB zs a = true) := Lib.hid (by rw [← he]; exact inB_mk (by have := HN.out; omega) (by have := HN.out; omega))
          have HE := Lib.hid he
          clear he
          go_wp2
          go_ret2
          refine ⟨?_, rfl⟩
          exact ret_ib (HE.out.trans (if_pos HI.out).symm) HI.out.symm
        · have q := bneq_of he
          have HE := Lib.hid he
          clear he
          go_wp2
          go_round
          case rel => exact ⟨k + 1, by go_num, hlt, Lib.hid (fun j hj => by
            by_cases e : j = k
            · subst e; exact HE.out
            · exact HB.out j (by omega))⟩
          case measure => simp [intOf]; omega
      · have hlt' : ¬ (k : Int) < (n : Int) := by omega
        have HI : Hid (inB zs a = false) := Lib.hid (inB_none fun j hj => HB.out j (by have := HN.out; omega))
        go_wp2
        go_ret2
        refine ⟨?_, rfl⟩
        exact ret_ib (whV_out HI.out).symm HI.out.symm
  · have D16 : Hid (decide (n ≤ 16) = false) := Lib.hid (decide_eq_false h16)
    have HI : Hid (inB zs a = false) := Lib.hid (inB_big a (by have := HN.out; omega))
    go_enter Tryz.func105, Tryz.ntmps105
    go_wp2_with (go_at_call 79; refine (hpRight_is _ _ _ _ D16.out).mono ?_; rintro e w1 ⟨rfl, rfl⟩)
    go_ret2
    refine ⟨?_, rfl⟩
    exact ret_ib (whV_out HI.out).symm HI.out.symm
theorem where_is (zs : List Int) (a : Int) (ao : Option Addr) (n cap : Nat) (w : World) (hn : n = zs.length) (hi : inB zs a = true) :
    Calls Tryz.prog 105 #[.slice ao n cap, .int .i64 a] w fun e w' => e = .returned (.tuple #[.int .i64 a, .bool true]) ∧ w' = w := by
  have := where_any zs a ao n cap w hn
  rw [hi, show whV zs a = a from if_pos hi] at this
  exact this
theorem where_out (zs : List Int) (a : Int) (ao : Option Addr) (n cap : Nat) (w : World) (hn : n = zs.length) (hi : inB zs a = false) :
    Calls Tryz.prog 105 #[.slice ao n cap, .int .i64 a] w fun e w' => e = .returned (.tuple #[.int .i64 0, .bool false]) ∧ w' = w := by
  have := where_any zs a ao n cap w hn
  rw [hi, whV_out hi] at this
  exact this
set_option maxHeartbeats 1000000 in
theorem load_in (zs : List Int) (a : Int) (ao : Option Addr) (n cap : Nat) (w : World) (h : Hp w (.slice ao n cap) zs) :
    Calls Tryz.prog 81 #[.slice ao n cap, .int .i64 a] w fun e w' => e = .returned (.tuple #[.int .i64 (hpLd zs a), .int .i64 (hpHow zs a)]) ∧ w' = w := by
  have HN : Hid (n = zs.length) := Lib.hid (by have := RowAt.len h; rwa [List.length_map] at this)
  cases hi : inB zs a with
  | true =>
    have hd := inB_nat hi
    obtain ⟨p, x, e, hx, hc⟩ := Hp.ix h hd.2.2
    rw [← hd.2.1] at hx
    have hc' := hc w (New.refl w)
    have HE : Hid (x = hpLd zs a) := Lib.hid (by rw [hpLd_in hi] at e; exact (Option.some.inj e).symm)
    have HH := Lib.hid (hpHow_in hi)
    have HI : Hid (inB zs a = true) := Lib.hid hi
    clear h hd e hc
    go_enter Tryz.func81, Tryz.ntmps81
    go_wp2_with (go_at_call 105; refine (where_is zs a _ _ _ _ HN.out HI.out).mono ?_; rintro e w1 ⟨rfl, rfl⟩)
    go_ret2
    refine ⟨?_, rfl⟩
    exact ret_pair HE.out HH.out.symm
  | false =>
    have HE := Lib.hid (hpLd_out hi)
    have HH := Lib.hid (hpHow_out hi)
    have HI : Hid (inB zs a = false) := Lib.hid hi
    clear h
    go_enter Tryz.func81, Tryz.ntmps81
    go_wp2_with (go_at_call 105; refine (where_out zs a _ _ _ _ HN.out HI.out).mono ?_; rintro e w1 ⟨rfl, rfl⟩)
    go_ret2
    refine ⟨?_, rfl⟩
    exact ret_pair HE.out.symm HH.out.symm
theorem load_any (zs : List Int) (a : Int) (v : Value) (w : World) (h : Hp w v zs) :
    Calls Tryz.prog 81 #[v, .int .i64 a] w fun e w' => e = .returned (.tuple #[.int .i64 (hpLd zs a), .int .i64 (hpHow zs a)]) ∧ w' = w := by
  obtain ⟨ao, cap, rfl⟩ := h.form
  exact load_in zs a ao _ cap w h
end Go.Proofs.YtphopkjgfkaihaaGreatDoor
namespace Go.Proofs.YtphopkjgfkaihaaGreatDoor
open Go.RowKit

theorem Hp.len {w : World} {ao : Option Addr} {n cap : Nat} {zs : List Int} (h : Hp w (.slice ao n cap) zs) : n = zs.length := by
  have := RowAt.len h
  rwa [List.length_map] at this
theorem Hp.ixW {w : World} {ao : Option Addr} {n cap : Nat} {zs : List Int} (h : Hp w (.slice ao n cap) zs) {i : Nat} (hi : i < n) :
    ∃ (a : Addr) (x : Int), zs[i]? = some x ∧ (∀ w', (Instr.indexAt 67 (.slice ao n cap) (.int .i64 (i : Int))).run Tryz.prog w' = .ok (.pointer (some a)) w') ∧ ∀ y : NewW w, y.val.cell? a = some (.int .i64 x) := by
  obtain ⟨a, x, h1, h2, h3⟩ := h.ix (i := i) (by rw [← h.len]; exact hi)
  exact ⟨a, x, h1, h2, fun y => h3 y.val y.property⟩
theorem ret_b {b d : Bool} (h : b = d) : Ending.returned (.bool b) = .returned (.bool d) := by rw [h]
theorem agree_step {xs ys : List Int} {k : Nat} {x : Int} (h : ∀ j : Nat, j < k → xs[j]? = ys[j]?) (hx : xs[k]? = some x) (hy : ys[k]? = some x) : ∀ j : Nat, j < k + 1 → xs[j]? = ys[j]? := by
  intro j hj
  by_cases e : j = k
  · subst e; rw [hx, hy]
  · exact h j (by omega)
end Go.Proofs.YtphopkjgfkaihaaGreatDoor
namespace Go.Proofs.YtphopkjgfkaihaaGreatDoor
open Go.RowKit

/-- A block that holds a row of numbers, and nothing else. -/
def Blk (w : World) (g : Nat) (zs : List Int) : Prop := w.heap[g]? = some (.cells (zs.map (Value.int .i64)).toArray 2 (0, 0))
theorem info64 : (Tryz.prog.info? 2).map (fun i => (i.zero, i.size, i.bytes)) = some (some (.int .i64 0), 1, 8) := by kernel_rfl
theorem size64 : (Tryz.prog.info? 2).map (·.size) = some 1 := by kernel_rfl
theorem Blk.hp {w : World} {g : Nat} {zs : List Int} (h : Blk w g zs) {n : Nat} (hn : n = zs.length) (cap : Nat) : Hp w (.slice (some ⟨g, 0, none⟩) n cap) zs := by
  subst hn
  refine ⟨some ⟨g, 0, none⟩, cap, by rw [List.length_map], fun i hi => ⟨g, 0, rfl, ?_⟩⟩
  rw [Nat.zero_add]
  unfold World.cell?
  unfold Blk at h
  have hi' : i < zs.length := by simpa using hi
  simp [h, hi']
theorem Blk.new {w w' : World} {g : Nat} {zs : List Int} (h : Blk w g zs) (n : New w w') : Blk w' g zs := n.heap h
theorem Hp.src {w : World} {ao : Option Addr} {n cap : Nat} {zs : List Int} (h : Hp w (.slice ao n cap) zs) : 0 < (zs.map (Value.int .i64)).length → ∃ ad, ao = some ad ∧ ∀ j v, (zs.map (Value.int .i64))[j]? = some v → ∀ w', New w w' → w'.cell? (ad.add j) = some v := by
  obtain ⟨ao', cap', e0, hh⟩ := h
  simp only [Value.slice.injEq] at e0
  obtain ⟨rfl, _, _⟩ := e0
  intro hp
  obtain ⟨b, off, rfl, _⟩ := hh 0 hp
  refine ⟨⟨b, off, none⟩, rfl, fun j v hj w' hn => ?_⟩
  have hjl : j < (zs.map (Value.int .i64)).length := (List.getElem?_eq_some_iff.1 hj).1
  obtain ⟨b', off', e, hc⟩ := hh j hjl
  simp only [Option.some.injEq, Addr.mk.injEq] at e
  obtain ⟨rfl, rfl, _⟩ := e
  have ea : (⟨b, off, none⟩ : Addr).add j = ⟨b, off + j, none⟩ := by unfold Addr.add; split <;> simp_all
  rw [ea, new_cell hn hc]
  rw [List.getElem?_eq_getElem hjl] at hj
  exact hj
/-- A word is stored into its block. -/
theorem Blk.store {w : World} {g : Nat} {zs : List Int} (h : Blk w g zs) {k : Nat} (hk : k < zs.length) (x : Int) :
    (Instr.storeAt 2 (.pointer (some ⟨g, k, none⟩)) (.int .i64 x)).run Tryz.prog w = .ok () (putO w g (.cells ((zs.set k x).map (Value.int .i64)).toArray 2 (0, 0))) := by
  unfold Blk at h
  have hs := run_storeCells_at (P := Tryz.prog) g k 2 [.int .i64 x] 0 _ w h (by simp; omega) (by simp [Value.oneCell'])
  obtain ⟨i, hq, h1⟩ : ∃ i, Tryz.prog.info? 2 = some i ∧ i.size = 1 := by
    have := size64
    cases hq : Tryz.prog.info? 2 with
    | none => rw [hq] at this; cases this
    | some i => rw [hq] at this; exact ⟨i, rfl, by simpa using this⟩
  have e : (List.take (k + 0) (zs.map (Value.int .i64)).toArray.toList ++ [.int .i64 x] ++ List.drop (k + 0 + [Value.int .i64 x].length) (zs.map (Value.int .i64)).toArray.toList) = (zs.set k x).map (Value.int .i64) := by
    simp only [Nat.add_zero, List.length_singleton]
    rw [List.set_eq_take_append_cons_drop, if_pos hk]
    simp [List.map_take, List.map_drop]
  rw [e, setRow_putO h] at hs
  simp [Instr.storeAt, Instr.sureAddr, storeVar, sizeOf, typeInfo, hq, h1, Value.cells, hs]
theorem Blk.put {w : World} {g : Nat} {zs : List Int} (h : Blk w g zs) (ys : List Int) : Blk (putO w g (.cells (ys.map (Value.int .i64)).toArray 2 (0, 0))) g ys := putO_same h
theorem wpList_stB {ops : Array Oper} {rest : List Oper} {op : Oper} {act : Act} {w : World} {Q : Exit → Act → World → Prop} (hgd : op.guard = none) (hdst : op.dst = none) (p q : Operand) (ho : op.op = .store 2 p q)
    (g k : Nat) (hx : act.eval p = .pointer (some ⟨g, k, none⟩)) (x : Int) (hy : act.eval q = .int .i64 x) {zs : List Int} (h : Blk w g zs) (hk : k < zs.length)
    (hK : wpList Tryz.prog ops Q rest act (putO w g (.cells ((zs.set k x).map (Value.int .i64)).toArray 2 (0, 0)))) : wpList Tryz.prog ops Q (op :: rest) act w :=
  wpList_plain hgd fun _ hK' => by
    unfold Oper.wp execOp
    simp only [ho, hx, hy, h.store hk x, Sem.run_bind, Sem.run_pure, Result.andThen_ok]
    refine hK' _ _ ?_
    rw [hdst]
    exact hK
theorem ix_own (g n cap : Nat) {k : Nat} (hk : k < n) (w : World) : (Instr.indexAt 67 (.slice (some ⟨g, 0, none⟩) n cap) (.int .i64 (k : Int))).run Tryz.prog w = .ok (.pointer (some ⟨g, k, none⟩)) w := by
  have ea : (⟨g, 0, none⟩ : Addr).add k = ⟨g, k, none⟩ := by unfold Addr.add; split <;> simp_all
  simp [Instr.indexAt, run_underlying Tryz.underlying67, asIntOf, Tryz.sizeOf2, ea]
  intro; omega
theorem splice_all (Z X : List Value) (h : Z.length = X.length) : splice Z 0 X = X := by
  unfold splice
  rw [List.take_zero, List.nil_append, Nat.zero_add, List.drop_of_length_le (by omega), List.append_nil]
/-- A row that lies in a block from number B on. -/
def Fresh {α : Type} (B : Nat) (v : Value) (zs : List α) : Prop := zs = [] ∨ ∃ b off n cap, v = .slice (some ⟨b, off, none⟩) n cap ∧ B ≤ b
theorem Fresh.mono {α : Type} {B C : Nat} {v : Value} {zs : List α} (h : Fresh C v zs) (hb : B ≤ C) : Fresh B v zs := h.imp id fun ⟨b, off, n, cap, e, h⟩ => ⟨b, off, n, cap, e, Nat.le_trans hb h⟩
theorem Hp.far {w w' : World} {v : Value} {zs : List Int} {B g : Nat} (h : Hp w v zs) (f : Fresh B v zs) (hg : g < B) (hk : ∀ k, k ≠ g → w'.heap[k]? = w.heap[k]?) : Hp w' v zs := by
  obtain ⟨ao, cap, e, hh⟩ := h
  refine ⟨ao, cap, e, fun i hi => ?_⟩
  obtain ⟨b, off, e1, h1⟩ := hh i hi
  refine ⟨b, off, e1, ?_⟩
  have hb : b ≠ g := by
    rcases f with rfl | ⟨b', off', n', cap', e', hb'⟩
    · simp at hi
    · rw [e'] at e
      simp only [Value.slice.injEq] at e
      rw [← e.1] at e1
      simp only [Option.some.injEq, Addr.mk.injEq] at e1
      omega
  have := hk b hb
  unfold World.cell? at h1 ⊢
  simp only [this]
  exact h1
set_option maxHeartbeats 2000000 in
theorem store_f (zs : List Int) (a x : Int) (ao : Option Addr) (n cap : Nat) (w : World) (h : Hp w (.slice ao n cap) zs) :
    Calls Tryz.prog 82 #[.slice ao n cap, .int .i64 a, .int .i64 x] w fun e w' => ∃ v, e = .returned (.tuple #[v, .int .i64 (hpHow zs a)]) ∧ Hp w' v (hpSt zs a x) ∧ New w w' ∧ Fresh w.heap.size v (hpSt zs a x) := by
  have HN : Hid (n = zs.length) := Lib.hid (by have := RowAt.len h; rwa [List.length_map] at this)
  cases hi : inB zs a with
  | true =>
    obtain ⟨h16, hka, hkl⟩ := inB_nat hi
    have HS := Lib.hid h.src
    have HI : Hid (inB zs a = true) := Lib.hid hi
    obtain ⟨i0, hi0, hz0, hz1, hz2⟩ := info_parts info64
    have hx : ∀ w', (Instr.indexAt 67 (.slice (some ⟨w.heap.size, 0, none⟩) n n) (.int .i64 a)).run Tryz.prog w' = .ok (.pointer (some ⟨w.heap.size, a.toNat, none⟩)) w' := fun w' => by
      have := ix_own w.heap.size n n (k := a.toNat) (by rw [HN.out]; exact hkl) w'
      rwa [← hka] at this
    have n16 : n ≤ 16 := by rw [HN.out]; exact h16
    have HE : Hid (hpSt zs a x = zs.set a.toNat x) := Lib.hid (hpSt_in x hi)
    have HW : Hid (hpHow zs a = 0) := Lib.hid (hpHow_in hi)
    have HKL := Lib.hid hkl
    have HZ : Hid ((madeCells #[Value.int .i64 0] n).toList.length = (zs.map (Value.int .i64)).length) := Lib.hid (by rw [Array.length_toList, size_madeCells, List.length_map]; exact HN.out)
    clear h h16 hka hkl hi
    go_enter Tryz.func82, Tryz.ntmps82
    go_wp2_with (first
      | (go_at_call 105; refine (where_is zs a _ _ _ _ HN.out HI.out).mono ?_; rintro e w1 ⟨rfl, rfl⟩)
      | (at_make; refine wpList_make_row _ rfl (.tmp 20) (.tmp 20) 67 rfl 2 i0 (.int .i64 0) Tryz.underlying67 hi0 hz0 hz1 rfl .i64 .i64 n rfl rfl (by rw [hz2]; omega) (by omega) ?_)
      | (refine wpList_copy_splice rfl (.tmp 22) (.tmp 23) 67 67 rfl 2 Tryz.underlying67 size64 _ _ _ _ _ _ rfl rfl w1.heap.size 0 (madeCells #[.int .i64 0] n).toList 2 (by rw [Array.toArray_toList]; exact alloc_at rfl _) (zs.map (Value.int .i64)) (by rw [List.length_map, ← HN.out]; exact (Nat.min_self _).symm) (fun hp => ⟨rfl, (HS.out hp).imp fun ad ⟨e1, e2⟩ => ⟨e1, fun j v hj => e2 j v hj _ (alloc_new _ _)⟩⟩) (by rw [HZ.out, Nat.zero_add]; exact Nat.le_refl _) (ints_oneCell _ _) w1.heap.size w1 (alloc_new _ _) (Nat.le_refl _) ?_; intro w2 HG2 hB2; have HB : Hid (Blk w2 w1.heap.size zs) := Lib.hid (by have := HG2.out; rw [splice_all _ _ HZ.out] at this; exact this); clear HG2)
      | (refine wpList_stB rfl rfl (.tmp 28) (.tmp 27) rfl w1.heap.size a.toNat rfl x rfl HB.out HKL.out ?_))
    go_ret2
    refine ⟨_, ret_vi HW.out.symm, ?_, ?_, .inr ⟨_, _, _, _, rfl, Nat.le_refl _⟩⟩
    · rw [HE.out]
      exact (HB.out.put _).hp (by rw [List.length_set]; exact HN.out) _
    · exact New.put hB2 (Nat.le_refl _) _
  | false =>
    have HE := Lib.hid (hpSt_out x hi)
    have HH := Lib.hid (hpHow_out hi)
    have HI : Hid (inB zs a = false) := Lib.hid hi
    clear h hi
    go_enter Tryz.func82, Tryz.ntmps82
    go_wp2_with (go_at_call 105; refine (where_out zs a _ _ _ _ HN.out HI.out).mono ?_; rintro e w1 ⟨rfl, rfl⟩)
    go_ret2
    exact ⟨_, ret_vi HH.out.symm, by rw [HE.out]; exact Hp.nil _, New.refl _, .inl HE.out⟩
theorem store_in (zs : List Int) (a x : Int) (ao : Option Addr) (n cap : Nat) (w : World) (h : Hp w (.slice ao n cap) zs) :
    Calls Tryz.prog 82 #[.slice ao n cap, .int .i64 a, .int .i64 x] w fun e w' => ∃ v, e = .returned (.tuple #[v, .int .i64 (hpHow zs a)]) ∧ Hp w' v (hpSt zs a x) ∧ New w w' :=
  (store_f zs a x ao n cap w h).mono fun _ _ ⟨v, h1, h2, h3, _⟩ => ⟨v, h1, h2, h3⟩
theorem store_any (zs : List Int) (a x : Int) (v : Value) (w : World) (h : Hp w v zs) :
    Calls Tryz.prog 82 #[v, .int .i64 a, .int .i64 x] w fun e w' => ∃ v, e = .returned (.tuple #[v, .int .i64 (hpHow zs a)]) ∧ Hp w' v (hpSt zs a x) ∧ New w w' := by
  obtain ⟨ao, cap, rfl⟩ := h.form
  exact store_in zs a x ao _ cap w h
end Go.Proofs.YtphopkjgfkaihaaGreatDoor
namespace Go.Proofs.YtphopkjgfkaihaaGreatDoor
open Go.RowKit

theorem own_hp {w : World} {base n : Nat} {v : Value} {ys : List Int} (h : w.ownsRow base 2 1 v n (ys.map (Value.int .i64))) : Hp w v ys := by
  obtain ⟨hl, h | ⟨g, cap, cur, rfl, _, hg, _, _, hs, ht⟩⟩ := h
  · obtain ⟨rfl, rfl⟩ := h
    obtain rfl : ys = [] := by
      apply List.eq_nil_of_length_eq_zero
      simpa using hl
    exact Hp.nil w
  · have hn : n = ys.length := by simpa using hl.symm
    subst hn
    refine ⟨some ⟨g, 0, none⟩, cap, by rw [List.length_map], fun i hi => ⟨g, 0, rfl, ?_⟩⟩
    have hi' : i < ys.length := by simpa using hi
    have e : cur[i]? = (ys.map (Value.int .i64))[i]? := by
      rw [← ht, Nat.mul_one, List.getElem?_take, if_pos hi', Array.getElem?_toList]
    rw [Nat.zero_add]
    unfold World.cell?
    rw [List.getElem?_eq_getElem hi] at e
    simp [hg, e]
theorem own_new {w wr w2 : World} {v : Value} {o : Obj} (hn : New w wr) (hr : ∀ k, v.ownBlock = some k → w.heap.size ≤ k) (hg : (wr.alloc o).grownBy w2 v.ownBlock) : New w w2 := by
  refine Below.grown (hn.alloc _) hg ?_ hr
  exact (hn.alloc o).size
theorem take_one {ys : List Int} {k : Nat} {y : Int} (h : ys[k]? = some y) : ((ys.take k).map (Value.int .i64)) ++ [.int .i64 y] = (ys.take (k + 1)).map (Value.int .i64) := by
  rw [List.take_add_one, h]
  simp
end Go.Proofs.YtphopkjgfkaihaaGreatDoor
