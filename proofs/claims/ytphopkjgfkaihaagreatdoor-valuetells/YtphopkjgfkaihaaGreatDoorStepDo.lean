/-
  States of the machine in memory: their cells; loads and stores of a whole, of a word, of a field, at the operation.
  The contracts of step.number, step.copied, step.known and step.Right: for every argument.
  The contract of step.follow: what an instruction makes of a state, for every state, instruction and row of answers.
  The contract of step.Do: for every function, state and row of answers.
-/
import Derived.Test.YtphopkjgfkaihaaGreatDoorCells
import Derived.Test.YtphopkjgfkaihaaGreatDoorPlain
import Derived.Test.YtphopkjgfkaihaaGreatDoorInsU
import Derived.Test.YtphopkjgfkaihaaGreatDoorAsmAll
import Derived.Test.YtphopkjgfkaihaaGreatDoorHeapAll
import Derived.Test.YtphopkjgfkaihaaGreatDoorNumOpDo
import Derived.Test.YtphopkjgfkaihaaGreatDoorOrders
namespace Go.Proofs.YtphopkjgfkaihaaGreatDoor
open Go.RowKit

/-- A slice's value. -/
structure Sl where
  ao : Option Addr
  n : Nat
  c : Nat
def nilS : Sl := ⟨none, 0, 0⟩
def cellsS (l : Ws) (s : Sl) (p q : Int) : List Value := (cellsW l).toList ++ [.slice s.ao s.n s.c, .int .i64 p, .int .i64 q]
theorem cellsS_len (l : Ws) (s : Sl) (p q : Int) : (cellsS l s p q).length = 51 := by
  unfold cellsS
  rw [List.length_append, Array.length_toList, cellsW_size]
  rfl
theorem cellsS_tail (l : Ws) (s : Sl) (p q : Int) (j : Nat) : (cellsS l s p q)[48 + j]? = [.slice s.ao s.n s.c, .int .i64 p, .int .i64 q][j]? := by
  unfold cellsS
  rw [List.getElem?_append_right (by rw [Array.length_toList, cellsW_size]; omega), Array.length_toList, cellsW_size, Nat.add_sub_cancel_left]
theorem cellsS_front (l : Ws) (s : Sl) (p q : Int) {i : Nat} (h : i < 48) : (cellsS l s p q)[i]? = (cellsW l)[i]? := by
  unfold cellsS
  rw [List.getElem?_append_left (by rw [Array.length_toList, cellsW_size]; exact h), Array.getElem?_toList]
theorem cellsS_word (l : Ws) (s : Sl) (p q : Int) {k : Nat} (h : k < 24) : ∀ j v, (wcells (l k))[j]? = some v → (cellsS l s p q)[2 * k + j]? = some v := by
  intro j v hv
  have hj : j < 2 := by
    have := (List.getElem?_eq_some_iff.mp hv).1
    simpa [wcells] using this
  rw [cellsS_front l s p q (by omega), cellsW_at l h hj]
  exact hv
theorem cellsS_one (l : Ws) (s : Sl) (p q : Int) : ∀ v ∈ cellsS l s p q, v.oneCell' = true := by
  intro v hv
  unfold cellsS at hv
  rw [List.mem_append] at hv
  rcases hv with hv | hv
  · exact cellsW_one l v hv
  · simp only [List.mem_cons, List.not_mem_nil, or_false] at hv
    rcases hv with rfl | rfl | rfl <;> rfl
theorem cellsS_upd (l : Ws) (s : Sl) (p q : Int) {k : Nat} (h : k < 24) (x : Wd) : (cellsS l s p q).take (2 * k) ++ wcells x ++ (cellsS l s p q).drop (2 * k + (wcells x).length) = cellsS (updW l k x) s p q := by
  have hz : (cellsW l).toList.length = 48 := by rw [Array.length_toList]; exact cellsW_size l
  have e2 : (wcells x).length = 2 := rfl
  unfold cellsS
  rw [e2, List.take_append_of_le_length (by omega), List.drop_append_of_le_length (by omega), ← List.append_assoc, ← cellsW_set l x h]
theorem cellsS_v (l : Ws) (s : Sl) (p q : Int) (s' : Sl) : (cellsS l s p q).take 48 ++ [.slice s'.ao s'.n s'.c] ++ (cellsS l s p q).drop (48 + 1) = cellsS l s' p q := by
  have hz : (cellsW l).toList.length = 48 := by rw [Array.length_toList]; exact cellsW_size l
  unfold cellsS
  rw [List.take_append_of_le_length (by omega), List.take_of_length_le (by omega), List.drop_append, List.drop_of_length_le (by omega), hz]
  simp
theorem cellsS_p (l : Ws) (s : Sl) (p q p' : Int) : (cellsS l s p q).take 49 ++ [.int .i64 p'] ++ (cellsS l s p q).drop (49 + 1) = cellsS l s p' q := by
  have hz : (cellsW l).toList.length = 48 := by rw [Array.length_toList]; exact cellsW_size l
  unfold cellsS
  rw [List.take_append, List.take_of_length_le (by omega), List.drop_append, List.drop_of_length_le (by omega), hz]
  simp
theorem cellsS_q (l : Ws) (s : Sl) (p q q' : Int) : (cellsS l s p q).take 50 ++ [.int .i64 q'] ++ (cellsS l s p q).drop (50 + 1) = cellsS l s p q' := by
  have hz : (cellsW l).toList.length = 48 := by rw [Array.length_toList]; exact cellsW_size l
  unfold cellsS
  rw [List.take_append, List.take_of_length_le (by omega), List.drop_append, List.drop_of_length_le (by omega), hz]
  simp
/-- A block holds a state, a word. -/
abbrev HasS (w : World) (g : Nat) (l : Ws) (s : Sl) (p q : Int) : Prop := HasC w g 75 (cellsS l s p q)
abbrev HasD (w : World) (g : Nat) (x : Wd) : Prop := HasC w g 72 (wcells x)
theorem infoSt : (Tryz.prog.info? 75).map (·.size) = some 51 := by kernel_rfl
theorem infoWd : (Tryz.prog.info? 72).map (·.size) = some 2 := by kernel_rfl
theorem infoAr : (Tryz.prog.info? 73).map (·.size) = some 48 := by kernel_rfl
theorem infoIn : (Tryz.prog.info? 3).map (·.size) = some 1 := by kernel_rfl
theorem infoHp : (Tryz.prog.info? 67).map (·.size) = some 1 := by kernel_rfl
section
variable {w w' : World} {g : Nat} {l : Ws} {s : Sl} {p q : Int}
theorem HasS.hp (h : HasS w g l s p q) : w.cell? ⟨g, 48, none⟩ = some (.slice s.ao s.n s.c) := h.cell (cellsS_tail l s p q 0)
theorem HasS.at (h : HasS w g l s p q) : w.cell? ⟨g, 49, none⟩ = some (.int .i64 p) := h.cell (cellsS_tail l s p q 1)
theorem HasS.ask (h : HasS w g l s p q) : w.cell? ⟨g, 50, none⟩ = some (.int .i64 q) := h.cell (cellsS_tail l s p q 2)
theorem HasS.word (h : HasS w g l s p q) {k : Nat} (hk : k < 24) : w.rangeAt g (2 * k) (wcells (l k)) := h.range _ _ (cellsS_word l s p q hk)
theorem HasS.is (h : HasS w g l s p q) {k : Nat} (hk : k < 24) : w.cell? ⟨g, k * 2, none⟩ = some (.bool (l k).1) := by
  have := h.word hk 0 _ rfl
  rwa [Nat.mul_comm] at this
theorem HasS.num (h : HasS w g l s p q) {k : Nat} (hk : k < 24) : w.cell? ⟨g, k * 2 + 1, none⟩ = some (.int .i64 (l k).2) := by
  have := h.word hk 1 _ rfl
  rwa [Nat.mul_comm] at this
theorem HasS.arr (h : HasS w g l s p q) : w.rangeAt g 0 (cellsW l).toList := h.range 0 _ fun j v hv => by
  have hj : j < 48 := by
    have := (List.getElem?_eq_some_iff.mp hv).1
    rwa [Array.length_toList, cellsW_size] at this
  rw [Nat.zero_add, cellsS_front l s p q hj, ← Array.getElem?_toList]
  exact hv
theorem HasD.is {x : Wd} (h : HasD w g x) : w.cell? ⟨g, 0, none⟩ = some (.bool x.1) := h.cell rfl
theorem HasD.num {x : Wd} (h : HasD w g x) : w.cell? ⟨g, 1, none⟩ = some (.int .i64 x.2) := h.cell rfl
end
section
variable {ops : Array Oper} {rest : List Oper} {op : Oper} {act : Act} {w : World} {Q : Exit → Act → World → Prop}
theorem wpList_ldS (hgd : op.guard = none) (a : Operand) (ho : op.op = .load 75 a) (g : Nat) (hx : act.eval a = .pointer (some ⟨g, 0, none⟩)) {l : Ws} {s : Sl} {p q : Int} (h : HasS w g l s p q)
    (hk : wpList Tryz.prog ops Q rest (act.put op.dst (.agg (cellsS l s p q).toArray)) w) : wpList Tryz.prog ops Q (op :: rest) act w :=
  wpList_load_mid hgd _ a ho g 0 hx (cellsS l s p q) _ h.all Tryz.underlying75 rfl (by rw [cellsS_len]; exact infoSt) hk
theorem wpList_ldAr (hgd : op.guard = none) (a : Operand) (ho : op.op = .load 73 a) (g : Nat) (hx : act.eval a = .pointer (some ⟨g, 0, none⟩)) {l : Ws} {s : Sl} {p q : Int} (h : HasS w g l s p q)
    (hk : wpList Tryz.prog ops Q rest (act.put op.dst (.agg (cellsW l))) w) : wpList Tryz.prog ops Q (op :: rest) act w :=
  wpList_load_mid hgd _ a ho g 0 hx (cellsW l).toList _ h.arr Tryz.underlying73 rfl (by rw [Array.length_toList, cellsW_size]; exact infoAr) (by rw [Array.toArray_toList]; exact hk)
/-- A word of a state. -/
theorem wpList_ldWd (hgd : op.guard = none) (a : Operand) (ho : op.op = .load 72 a) (g k : Nat) (hk24 : k < 24) (hx : act.eval a = .pointer (some ⟨g, k * 2, none⟩)) {l : Ws} {s : Sl} {p q : Int} (h : HasS w g l s p q)
    (hk : wpList Tryz.prog ops Q rest (act.put op.dst (.agg #[.bool (l k).1, .int .i64 (l k).2])) w) : wpList Tryz.prog ops Q (op :: rest) act w :=
  wpList_load_mid hgd _ a ho g (2 * k) (by rw [Nat.mul_comm]; exact hx) (wcells (l k)) _ (h.word hk24) Tryz.underlying72 rfl infoWd hk
/-- A word's own block. -/
theorem wpList_ldDd (hgd : op.guard = none) (a : Operand) (ho : op.op = .load 72 a) (g : Nat) (hx : act.eval a = .pointer (some ⟨g, 0, none⟩)) {x : Wd} (h : HasD w g x)
    (hk : wpList Tryz.prog ops Q rest (act.put op.dst (.agg #[.bool x.1, .int .i64 x.2])) w) : wpList Tryz.prog ops Q (op :: rest) act w :=
  wpList_load_mid hgd _ a ho g 0 hx (wcells x) _ h.all Tryz.underlying72 rfl infoWd hk
theorem wpList_stS (hgd : op.guard = none) (hdst : op.dst = none) (a b : Operand) (ho : op.op = .store 75 a b) (g : Nat) (hx : act.eval a = .pointer (some ⟨g, 0, none⟩)) {l : Ws} {s : Sl} {p q : Int} (hy : act.eval b = .agg (cellsS l s p q).toArray)
    {l' : Ws} {s' : Sl} {p' q' : Int} (h : HasS w g l' s' p' q') (hk : ∀ w', HasS w' g l s p q → Kept g w w' → wpList Tryz.prog ops Q rest act w') : wpList Tryz.prog ops Q (op :: rest) act w :=
  wpList_stX hgd hdst _ a b ho g 0 hx _ hy h (cellsS l s p q) rfl (by rw [cellsS_len, cellsS_len]; omega) (cellsS_one l s p q) (by rw [cellsS_len]; exact infoSt)
    (by rw [List.take_zero, List.nil_append, List.drop_of_length_le (by rw [cellsS_len, cellsS_len]; omega), List.append_nil]) hk
theorem wpList_stWd (hgd : op.guard = none) (hdst : op.dst = none) (a b : Operand) (ho : op.op = .store 72 a b) (g k : Nat) (hk24 : k < 24) (hx : act.eval a = .pointer (some ⟨g, k * 2, none⟩)) (x : Wd) (hy : act.eval b = .agg #[.bool x.1, .int .i64 x.2])
    {l : Ws} {s : Sl} {p q : Int} (h : HasS w g l s p q) (hk : ∀ w', HasS w' g (updW l k x) s p q → Kept g w w' → wpList Tryz.prog ops Q rest act w') : wpList Tryz.prog ops Q (op :: rest) act w :=
  wpList_stX hgd hdst _ a b ho g (2 * k) (by rw [Nat.mul_comm]; exact hx) _ hy h (wcells x) rfl (by rw [cellsS_len]; simp [wcells]; omega) (by simp [wcells, Value.oneCell']) infoWd (cellsS_upd l s p q hk24 x) hk
theorem wpList_stDd (hgd : op.guard = none) (hdst : op.dst = none) (a b : Operand) (ho : op.op = .store 72 a b) (g : Nat) (hx : act.eval a = .pointer (some ⟨g, 0, none⟩)) (x : Wd) (hy : act.eval b = .agg #[.bool x.1, .int .i64 x.2])
    {y : Wd} (h : HasD w g y) (hk : ∀ w', HasD w' g x → Kept g w w' → wpList Tryz.prog ops Q rest act w') : wpList Tryz.prog ops Q (op :: rest) act w :=
  wpList_stX hgd hdst _ a b ho g 0 hx _ hy h (wcells x) rfl (by simp [wcells]) (by simp [wcells, Value.oneCell']) infoWd (by simp [wcells]) hk
theorem wpList_stHp (hgd : op.guard = none) (hdst : op.dst = none) (a b : Operand) (ho : op.op = .store 67 a b) (g : Nat) (hx : act.eval a = .pointer (some ⟨g, 48, none⟩)) (s' : Sl) (hy : act.eval b = .slice s'.ao s'.n s'.c)
    {l : Ws} {s : Sl} {p q : Int} (h : HasS w g l s p q) (hk : ∀ w', HasS w' g l s' p q → Kept g w w' → wpList Tryz.prog ops Q rest act w') : wpList Tryz.prog ops Q (op :: rest) act w :=
  wpList_stX hgd hdst _ a b ho g 48 hx _ hy h [.slice s'.ao s'.n s'.c] rfl (by rw [cellsS_len]; simp) (by simp [Value.oneCell']) infoHp (cellsS_v l s p q s') hk
theorem wpList_stAt (hgd : op.guard = none) (hdst : op.dst = none) (a b : Operand) (ho : op.op = .store 3 a b) (g : Nat) (hx : act.eval a = .pointer (some ⟨g, 49, none⟩)) (p' : Int) (hy : act.eval b = .int .i64 p')
    {l : Ws} {s : Sl} {p q : Int} (h : HasS w g l s p q) (hk : ∀ w', HasS w' g l s p' q → Kept g w w' → wpList Tryz.prog ops Q rest act w') : wpList Tryz.prog ops Q (op :: rest) act w :=
  wpList_stX hgd hdst _ a b ho g 49 hx _ hy h [.int .i64 p'] rfl (by rw [cellsS_len]; simp) (by simp [Value.oneCell']) infoIn (cellsS_p l s p q p') hk
theorem wpList_stAsk (hgd : op.guard = none) (hdst : op.dst = none) (a b : Operand) (ho : op.op = .store 3 a b) (g : Nat) (hx : act.eval a = .pointer (some ⟨g, 50, none⟩)) (q' : Int) (hy : act.eval b = .int .i64 q')
    {l : Ws} {s : Sl} {p q : Int} (h : HasS w g l s p q) (hk : ∀ w', HasS w' g l s p q' → Kept g w w' → wpList Tryz.prog ops Q rest act w') : wpList Tryz.prog ops Q (op :: rest) act w :=
  wpList_stX hgd hdst _ a b ho g 50 hx _ hy h [.int .i64 q'] rfl (by rw [cellsS_len]; simp) (by simp [Value.oneCell']) infoIn (cellsS_q l s p q q') hk
end
def noWs : Ws := fun _ => (false, 0)
theorem zeroS : ∃ z, (∀ w, (zeroValue 75).run Tryz.prog w = .ok z w) ∧ z = .agg (cellsS noWs nilS 0 0).toArray := ⟨_, Tryz.zeroValue75, by kernel_rfl⟩
theorem zeroS_run (w : World) : (zeroValue 75).run Tryz.prog w = .ok (.agg (cellsS noWs nilS 0 0).toArray) w := by
  obtain ⟨z, h, rfl⟩ := zeroS
  exact h w
theorem zeroD_run (w : World) : (zeroValue 72).run Tryz.prog w = .ok (.agg (wcells (false, 0)).toArray) w := Tryz.zeroValue72 w
/-- A state's array of words, at a place. -/
theorem run_ixW (l : Ws) (k : Nat) (hk : k < 24) (w : World) : (Instr.index 73 (.agg (cellsW l)) (.int .i64 (k : Int))).run Tryz.prog w = .ok (.agg #[.bool (l k).1, .int .i64 (l k).2]) w := by
  unfold Instr.index
  have hu : (underlying 73).run Tryz.prog w = _ := run_underlying Tryz.underlying73 w
  obtain ⟨i, hq, h1⟩ : ∃ i, Tryz.prog.info? 72 = some i ∧ i.size = 2 := by
    have := infoWd
    cases hq : Tryz.prog.info? 72 with
    | none => rw [hq] at this; cases this
    | some i => rw [hq] at this; exact ⟨i, rfl, by simpa using this⟩
  have e0 := cellsW_at l hk (j := 0) (by omega)
  have e1 := cellsW_at l hk (j := 1) (by omega)
  have ex : (cellsW l).extract (k * 2) (k * 2 + 2) = #[.bool (l k).1, .int .i64 (l k).2] := by
    apply Array.ext_getElem?
    intro j
    rw [Array.getElem?_extract]
    rw [Nat.mul_comm]
    rcases j with _ | _ | j
    · rw [if_pos (by rw [cellsW_size]; omega), Nat.add_zero]; exact e0
    · rw [if_pos (by rw [cellsW_size]; omega)]; exact e1
    · rw [if_neg (by rw [cellsW_size]; omega)]; rfl
  simp [asIntOf, hu, part, sizeOf, typeInfo, hq, h1, ex]
  intro; omega
end Go.Proofs.YtphopkjgfkaihaaGreatDoor
namespace Go.Proofs.YtphopkjgfkaihaaGreatDoor
open Go.RowKit

theorem ret_bool {b d : Bool} (h : b = d) : Ending.returned (.bool b) = .returned (.bool d) := by rw [h]
theorem number_any (v : Int) (w : World) :
    Calls Tryz.prog 80 #[.int .i64 v] w fun e w' => e = .returned (.agg #[.bool true, .int .i64 v]) ∧ New w w' := by
  go_enter Tryz.func80, Tryz.ntmps80
  go_wp2_with (first
    | (refine wpList_alX rfl _ rfl _ zeroD_run _ rfl ?_; intro w1 g1 hg1 hl1 H1 hn1)
    | (refine wpList_stDd rfl rfl (.tmp 2) (.tmp 4) rfl g1 rfl (true, v) rfl H1 ?_; intro w2 H2 k2))
  exact bodyPost_ret (results_cell_row rfl _ _ g1 _ _ _ _ rfl H2 Tryz.underlying72 rfl infoWd) rfl ⟨rfl, k2.below _ hg1 hn1⟩
theorem number_from {w0 : World} (v : Int) (w : World) (h : New w0 w) :
    Calls Tryz.prog 80 #[.int .i64 v] w fun e w' => e = .returned (.agg #[.bool true, .int .i64 v]) ∧ New w0 w' :=
  (number_any v w).mono fun _ _ ⟨he, hw⟩ => ⟨he, h.trans hw⟩

theorem ret_v {v u : Value} (h : v = u) : Ending.returned v = .returned u := by rw [h]
set_option maxHeartbeats 1000000 in
theorem copied_in (zs : List Int) (ao : Option Addr) (n cap : Nat) (w : World) (h : Hp w (.slice ao n cap) zs) (h16 : n ≤ 16) :
    Calls Tryz.prog 51 #[.slice ao n cap] w fun e w' => ∃ v, e = .returned v ∧ Hp w' v zs ∧ New w w' ∧ Fresh w.heap.size v zs := by
  have HN : Hid (n = zs.length) := Lib.hid (by have := RowAt.len h; rwa [List.length_map] at this)
  have HS := Lib.hid h.src
  obtain ⟨i0, hi0, hz0, hz1, hz2⟩ := info_parts info64
  have HZ : Hid ((madeCells #[Value.int .i64 0] n).toList.length = (zs.map (Value.int .i64)).length) := Lib.hid (by rw [Array.length_toList, size_madeCells, List.length_map]; exact HN.out)
  clear h
  go_enter Tryz.func51, Tryz.ntmps51
  go_wp2_with (first
    | (at_make; refine wpList_make_row _ rfl (.tmp 5) (.tmp 5) 67 rfl 2 i0 (.int .i64 0) Tryz.underlying67 hi0 hz0 hz1 rfl .i64 .i64 n rfl rfl (by rw [hz2]; omega) (by omega) ?_)
    | (refine wpList_copy_splice rfl (.tmp 7) (.tmp 8) 67 67 rfl 2 Tryz.underlying67 size64 _ _ _ _ _ _ rfl rfl w.heap.size 0 (madeCells #[.int .i64 0] n).toList 2 (by rw [Array.toArray_toList]; exact alloc_at rfl _) (zs.map (Value.int .i64)) (by rw [List.length_map, ← HN.out]; exact (Nat.min_self _).symm) (fun hp => ⟨rfl, (HS.out hp).imp fun ad ⟨e1, e2⟩ => ⟨e1, fun j v hj => e2 j v hj _ (alloc_new _ _)⟩⟩) (by rw [HZ.out, Nat.zero_add]; exact Nat.le_refl _) (ints_oneCell _ _) w.heap.size w (alloc_new _ _) (Nat.le_refl _) ?_; intro w2 HG2 hB2; have HB : Hid (Blk w2 w.heap.size zs) := Lib.hid (by have := HG2.out; rw [splice_all _ _ HZ.out] at this; exact this); clear HG2))
  go_ret
  exact ⟨_, rfl, HB.out.hp HN.out _, hB2, .inr ⟨_, _, _, _, rfl, Nat.le_refl _⟩⟩
theorem copied_any {zs : List Int} {s : Sl} {w : World} (h : Hp w (.slice s.ao s.n s.c) zs) (h16 : s.n ≤ 16) :
    Calls Tryz.prog 51 #[.slice s.ao s.n s.c] w fun e w' => ∃ s' : Sl, e = .returned (.slice s'.ao s'.n s'.c) ∧ Hp w' (.slice s'.ao s'.n s'.c) zs ∧ New w w' ∧ Fresh w.heap.size (.slice s'.ao s'.n s'.c) zs := by
  refine (copied_in zs s.ao s.n s.c w h h16).mono ?_
  rintro e w' ⟨v, rfl, hv, hn, hf⟩
  obtain ⟨ao, cap, rfl⟩ := hv.form
  exact ⟨⟨ao, zs.length, cap⟩, rfl, hv, hn, hf⟩

theorem own_rowAt {w : World} {base e n : Nat} {v : Value} {cs : List Value} (h : w.ownsRow base e 1 v n cs) : RowAt w v cs := by
  obtain ⟨hl, h | ⟨g, cap, cur, rfl, _, hg, _, _, hs, ht⟩⟩ := h
  · obtain ⟨rfl, rfl⟩ := h
    obtain rfl : cs = [] := by
      apply List.eq_nil_of_length_eq_zero
      simpa using hl
    exact ⟨none, 0, rfl, fun _ hi => absurd hi (Nat.not_lt_zero _)⟩
  · have hn : n = cs.length := by simpa using hl.symm
    subst hn
    refine ⟨some ⟨g, 0, none⟩, cap, rfl, fun i hi => ⟨g, 0, rfl, ?_⟩⟩
    have e : cur[i]? = cs[i]? := by
      rw [← ht, Nat.mul_one, List.getElem?_take, if_pos hi, Array.getElem?_toList]
    rw [Nat.zero_add]
    unfold World.cell?
    rw [List.getElem?_eq_getElem hi] at e
    simp [hg, e]
/-- What is used are places. -/
theorem uses_three (x : I) : usesL x = [x.a, x.b] ∨ usesL x = [x.a] ∨ usesL x = [] := by
  rw [uses_class]
  split
  · exact .inl rfl
  · split
    · exact .inr (.inl rfl)
    · exact .inr (.inr rfl)
theorem uses_places {x : I} (h : 0 ≤ x.a ∧ x.a < 24 ∧ 0 ≤ x.b ∧ x.b < 24) : ∀ (k : Nat) (y : Int), (usesL x)[k]? = some y → ∃ j : Nat, j < 24 ∧ y = (j : Int) := by
  intro k y hy
  have hm : y ∈ usesL x := List.mem_of_getElem? hy
  have hab : y = x.a ∨ y = x.b := by
    rcases uses_three x with e | e | e <;> rw [e] at hm <;> simp at hm
    · exact hm
    · exact .inl hm
  rcases hab with rfl | rfl
  · exact ⟨x.a.toNat, by omega, by omega⟩
  · exact ⟨x.b.toNat, by omega, by omega⟩
theorem uses_few (x : I) : (usesL x).length ≤ 2 := by
  rw [uses_class]
  split
  · simp
  · split <;> simp
theorem knw_all {x : I} {l : Ws} (h : ∀ k (hk : k < (usesL x).length), (l (usesL x)[k].toNat).1 = true) : knwB x l = true := by
  unfold knwB
  rw [List.all_eq_true]
  intro y hy
  obtain ⟨k, hk, rfl⟩ := List.mem_iff_getElem.mp hy
  exact h k hk
theorem knw_no {x : I} {l : Ws} {k : Nat} (hk : k < (usesL x).length) (h : (l (usesL x)[k].toNat).1 = false) : knwB x l = false := by
  unfold knwB
  rw [List.all_eq_false]
  exact ⟨_, List.getElem_mem hk, by rw [h]; decide⟩
set_option maxHeartbeats 2000000 in
set_option maxRecDepth 100000 in
theorem knowns_any (l : Ws) (s : Sl) (p q : Int) (x : I) (hx : 0 ≤ x.a ∧ x.a < 24 ∧ 0 ≤ x.b ∧ x.b < 24) (w : World) (hl : Laid w) :
    Calls Tryz.prog 52 #[.agg (cellsS l s p q).toArray, .agg #[.int .i64 (x).op, .int .i64 (x).d, .int .i64 (x).a, .int .i64 (x).b, .int .i64 (x).n, .int .i64 (x).t]] w fun e w' => e = .returned (.bool (knwB x l)) ∧ New w w' := by
  have HL := Lib.hid hl
  have HP := Lib.hid (uses_places hx)
  have HU := Lib.hid (fun w (hl : Laid w) => uses_any x.op x.d x.a x.b x.n x.t w hl)
  clear hx hl
  go_enter Tryz.func52, Tryz.ntmps52
  go_wp2_with (first
    | (refine wpList_boxX rfl 75 (.tmp 0) rfl (cellsS l s p q) rfl ?_; intro w1 g1 hg1 hl1 H1 hn1)
    | (refine wpList_boxX rfl 79 (.tmp 1) rfl [.int .i64 x.op, .int .i64 x.d, .int .i64 x.a, .int .i64 x.b, .int .i64 x.n, .int .i64 x.t] rfl ?_; intro w2 g2 hg2 hl2 H2 hn2)
    | (refine wpList_ldI rfl (.tmp 3) rfl g2 rfl (show Has w2 g2 x from H2) ?_)
    | (go_at_call 78; refine (HU.out _ (HL.out.new (hn1.trans hn2))).mono ?_; rintro e w3 ⟨v, rfl, hv, hn3⟩; obtain ⟨ao, cap, hvs, hv2⟩ := own_rowAt hv; subst hvs; rw [List.length_map]))
  have HR : Hid (RowAt w3 (.slice ao (usesL x).length cap) ((usesL x).map (Value.int .i64))) := Lib.hid ⟨ao, cap, by rw [List.length_map], hv2⟩
  have HS := Lib.hid ((H1.new hn2).new hn3)
  have HN := Lib.hid ((hn1.trans hn2).trans hn3)
  clear hv hv2
  obtain ⟨m, HM⟩ : ∃ m, Hid ((usesL x).length = m) := ⟨_, Lib.hid rfl⟩
  rw [HM.out] at HR ⊢
  have hm : m ≤ 2 := by rw [← HM.out]; exact uses_few x
  go_loop [10] (fun kv => ∃ k : Nat, kv = .int .i64 k ∧ k ≤ m ∧ Hid (∀ i (hi : i < (usesL x).length), i < k → (l (usesL x)[i].toNat).1 = true)) (fun kv => m - (intOf kv).toNat)
  case atStart => exact ⟨0, rfl, by omega, Lib.hid (fun i _ hi => absurd hi (Nat.not_lt_zero _))⟩
  case round =>
    obtain ⟨k, rfl, hk, HB⟩ := hrel
    by_cases hlt : k < m
    · have hlt' : (k : Int) < (m : Int) := by omega
      obtain ⟨a, v, e, hix, hcell⟩ := RowAt.ix HR.out 101 Tryz.underlying101 Tryz.sizeOf3 (i := k) hlt
      have hc := hcell w3 (New.refl _)
      obtain ⟨j, hj, ej⟩ := HP.out k _ (List.getElem?_eq_getElem (by rw [HM.out]; exact hlt))
      have ev : v = .int .i64 (j : Int) := by
        rw [List.getElem?_map, List.getElem?_eq_getElem (by rw [HM.out]; exact hlt), ej] at e
        exact (Option.some.inj e).symm
      subst ev
      have hw := HasS.is HS.out hj
      have HE := Lib.hid ej
      have hj0 : (j : Int) < 24 := by omega
      clear e hcell ej
      cases hq : (l j).1 with
      | true =>
        rw [hq] at hw
        have HQ := Lib.hid hq
        clear hq
        go_wp2
        go_round
        case rel => exact ⟨k + 1, by go_num, hlt, Lib.hid (fun i hi h1 => by
          by_cases e : i = k
          · subst e; rw [HE.out]; exact HQ.out
          · exact HB.out i hi (by omega))⟩
        case measure => simp [intOf]; omega
      | false =>
        rw [hq] at hw
        have HQ : Hid (knwB x l = false) := Lib.hid (knw_no (by rw [HM.out]; exact hlt) (by rw [HE.out]; exact hq))
        clear hq
        go_wp2
        go_ret
        exact ⟨ret_bool HQ.out.symm, HN.out⟩
    · have hlt' : ¬ (k : Int) < (m : Int) := by omega
      have HQ : Hid (knwB x l = true) := Lib.hid (knw_all (fun i hi => HB.out i hi (by rw [HM.out] at hi; omega)))
      go_wp2
      go_ret
      exact ⟨ret_bool HQ.out.symm, HN.out⟩

/-! step.Right. -/
theorem right_no {f : List I} {s : Mc} {b : Bool} (h : mcB f s = b) : Ending.returned (.bool b) = .returned (.bool (mcB f s)) := by rw [h]
set_option maxHeartbeats 4000000 in
set_option maxRecDepth 100000 in
theorem stepRight_in (ao : Option Addr) (n cap : Nat) (f : List I) (m : Mc) (s : Sl) (w : World) (hl : Laid w) (hf : FunAt w (.slice ao n cap) f) (hn : n = f.length) (hh : s.n = m.h.length) :
    Calls Tryz.prog 50 #[.slice ao n cap, .agg (cellsS m.l s m.p m.q).toArray] w fun e w' => e = .returned (.bool (mcB f m)) ∧ New w w' := by
  obtain ⟨l, zs, p, q⟩ := m
  obtain ⟨so, sn, sc⟩ := s
  have HL := Lib.hid hl
  have HF := Lib.hid hf
  have HN := Lib.hid hn
  have HH : Hid (sn = zs.length) := Lib.hid hh
  clear hl hf hn hh
  have Q4 : Hid (decide (sn ≤ 16) = decide (sn ≤ 16)) := Lib.hid rfl
  by_cases c1 : (chkF f).2 = 0
  · have q1 : ((chkF f).2 == 0) = true := beq_of c1
    have C1 := Lib.hid c1
    clear c1
    by_cases c2 : p < 0
    · have E := Lib.hid (mc_not (f := f) (s := ⟨l, zs, p, q⟩) (by rintro ⟨_, h, _⟩; simp at h; omega))
      go_enter Tryz.func50, Tryz.ntmps50
      go_wp2_with (first
        | (refine wpList_boxX rfl 75 (.tmp 1) rfl (cellsS l ⟨so, sn, sc⟩ p q) rfl ?_; intro w1 g1 hg1 hl1 H1 hn1; have HS := Lib.hid H1; clear H1)
        | (go_at_call 31; refine (asmRight_any _ f _ (HL.out.new hn1) (HF.out.new hn1)).mono ?_; rw [q1]; rintro e w2 ⟨rfl, hn2⟩; have HS2 : Hid (HasS w2 g1 l ⟨so, sn, sc⟩ p q) := Lib.hid (HasC.new HS.out hn2); have k1 := HasS.hp HS2.out; have k2 := HasS.at HS2.out; have k3 := HasS.ask HS2.out)
        | (go_at_call 79; refine (hpRight_is _ _ _ _ Q4.out).mono ?_; rintro e w3 ⟨rfl, rfl⟩)
        | (refine wpList_ldAr rfl (.tmp 33) rfl g1 rfl HS2.out ?_))
      go_ret
      exact ⟨right_no E.out, hn1.trans hn2⟩
    · by_cases c3 : (n : Int) ≤ p
      · have E := Lib.hid (mc_not (f := f) (s := ⟨l, zs, p, q⟩) (by rintro ⟨_, _, h, _⟩; have := HN.out; simp at h; omega))
        go_enter Tryz.func50, Tryz.ntmps50
        go_wp2_with (first
          | (refine wpList_boxX rfl 75 (.tmp 1) rfl (cellsS l ⟨so, sn, sc⟩ p q) rfl ?_; intro w1 g1 hg1 hl1 H1 hn1; have HS := Lib.hid H1; clear H1)
          | (go_at_call 31; refine (asmRight_any _ f _ (HL.out.new hn1) (HF.out.new hn1)).mono ?_; rw [q1]; rintro e w2 ⟨rfl, hn2⟩; have HS2 : Hid (HasS w2 g1 l ⟨so, sn, sc⟩ p q) := Lib.hid (HasC.new HS.out hn2); have k1 := HasS.hp HS2.out; have k2 := HasS.at HS2.out; have k3 := HasS.ask HS2.out)
          | (go_at_call 79; refine (hpRight_is _ _ _ _ Q4.out).mono ?_; rintro e w3 ⟨rfl, rfl⟩)
          | (refine wpList_ldAr rfl (.tmp 33) rfl g1 rfl HS2.out ?_))
        go_ret
        exact ⟨right_no E.out, hn1.trans hn2⟩
      · by_cases c4 : sn ≤ 16
        · replace Q4 : Hid (decide (sn ≤ 16) = true) := Lib.hid (decide_eq_true c4)
          by_cases c5 : q < 0
          · have E := Lib.hid (mc_not (f := f) (s := ⟨l, zs, p, q⟩) (by rintro ⟨_, _, _, _, h, _⟩; simp at h; omega))
            go_enter Tryz.func50, Tryz.ntmps50
            go_wp2_with (first
              | (refine wpList_boxX rfl 75 (.tmp 1) rfl (cellsS l ⟨so, sn, sc⟩ p q) rfl ?_; intro w1 g1 hg1 hl1 H1 hn1; have HS := Lib.hid H1; clear H1)
              | (go_at_call 31; refine (asmRight_any _ f _ (HL.out.new hn1) (HF.out.new hn1)).mono ?_; rw [q1]; rintro e w2 ⟨rfl, hn2⟩; have HS2 : Hid (HasS w2 g1 l ⟨so, sn, sc⟩ p q) := Lib.hid (HasC.new HS.out hn2); have k1 := HasS.hp HS2.out; have k2 := HasS.at HS2.out; have k3 := HasS.ask HS2.out)
              | (go_at_call 79; refine (hpRight_is _ _ _ _ Q4.out).mono ?_; rintro e w3 ⟨rfl, rfl⟩)
              | (refine wpList_ldAr rfl (.tmp 33) rfl g1 rfl HS2.out ?_))
            go_ret
            exact ⟨right_no E.out, hn1.trans hn2⟩
          · go_enter Tryz.func50, Tryz.ntmps50
            go_wp2_with (first
              | (refine wpList_boxX rfl 75 (.tmp 1) rfl (cellsS l ⟨so, sn, sc⟩ p q) rfl ?_; intro w1 g1 hg1 hl1 H1 hn1; have HS := Lib.hid H1; clear H1)
              | (go_at_call 31; refine (asmRight_any _ f _ (HL.out.new hn1) (HF.out.new hn1)).mono ?_; rw [q1]; rintro e w2 ⟨rfl, hn2⟩; have HS2 : Hid (HasS w2 g1 l ⟨so, sn, sc⟩ p q) := Lib.hid (HasC.new HS.out hn2); have k1 := HasS.hp HS2.out; have k2 := HasS.at HS2.out; have k3 := HasS.ask HS2.out)
              | (go_at_call 79; refine (hpRight_is _ _ _ _ Q4.out).mono ?_; rintro e w3 ⟨rfl, rfl⟩)
              | (refine wpList_ldAr rfl (.tmp 33) rfl g1 rfl HS2.out ?_))
            go_loopw [35] (fun kv wr => ∃ k : Nat, kv = .int .i64 k ∧ k ≤ 24 ∧ Hid (∀ i < k, wdB (l i) = true) ∧ New w wr) (fun kv wr => 24 - (intOf kv).toNat)
            case atStart => exact ⟨0, rfl, by omega, Lib.hid (fun i hi => absurd hi (Nat.not_lt_zero _)), hn1.trans hn2⟩
            case round =>
              obtain ⟨k, rfl, hk, HO, hn⟩ := hrel
              by_cases hk24 : k < 24
              · have hx := fun w => run_ixW l k hk24 w
                have hk24' : (k : Int) < 24 := by omega
                obtain ⟨⟨is, v⟩, hw⟩ : ∃ x : Wd, l k = x := ⟨_, rfl⟩
                rw [hw] at hx
                have HW := Lib.hid hw
                clear hw
                by_cases hok : is = false ∧ v ≠ 0
                · obtain ⟨rfl, hv⟩ := hok
                  have qv : (v != 0) = true := by simpa using hv
                  have E := Lib.hid (mc_not (f := f) (s := ⟨l, zs, p, q⟩) (by rintro ⟨_, _, _, _, _, h⟩; have h2 : wdB (l k) = true := words_at h hk24; rw [HW.out] at h2; simp [wdB] at h2; exact hv h2))
                  clear hv
                  go_wp2_with (first
                    | (refine wpList_alX rfl _ rfl _ zeroD_run _ rfl ?_; intro w4 g4 hg4 hl4 H4 hn4; have HD := Lib.hid H4; clear H4)
                    | (refine wpList_stDd rfl rfl (.tmp 6) (.tmp 37) rfl g4 rfl (false, v) rfl HD.out ?_; intro w5 H5 k5; have j1 := HasD.is H5; have j2 := HasD.num H5; have HD5 := Lib.hid H5; clear H5))
                  go_ret
                  exact ⟨right_no E.out, k5.below _ (Nat.le_trans hn.size hg4) (hn.trans hn4)⟩
                · have hwd : wdB (l k) = true := by
                    rw [HW.out]
                    cases is with
                    | true => rfl
                    | false => simp [wdB]; by_cases e : v = 0
                               · exact e
                               · exact absurd ⟨rfl, e⟩ hok
                  have HA : Hid (∀ i < k + 1, wdB (l i) = true) := Lib.hid (fun i hi => by
                    by_cases e : i = k
                    · rw [e]; exact hwd
                    · exact HO.out i (by omega))
                  have qv : is = true ∨ (is = false ∧ (v != 0) = false) := by
                    cases is with
                    | true => exact .inl rfl
                    | false => exact .inr ⟨rfl, by simpa using fun e => hok ⟨rfl, e⟩⟩
                  clear hok hwd
                  rcases qv with rfl | ⟨rfl, qv⟩
                  all_goals
                    go_wp2_with (first
                      | (refine wpList_alX rfl _ rfl _ zeroD_run _ rfl ?_; intro w4 g4 hg4 hl4 H4 hn4; have HD := Lib.hid H4; clear H4)
                      | (refine wpList_stDd rfl rfl (.tmp 6) (.tmp 37) rfl g4 rfl (_, v) rfl HD.out ?_; intro w5 H5 k5; have j1 := HasD.is H5; have j2 := HasD.num H5; have HD5 := Lib.hid H5; clear H5))
                    go_roundw
                    case rel => exact ⟨k + 1, by go_num, hk24, Lib.hid HA.out, k5.below _ (Nat.le_trans hn.size hg4) (hn.trans hn4)⟩
                    case measure => simp [intOf]; omega
              · obtain rfl : k = 24 := by omega
                have E : Hid (mcB f ⟨l, zs, p, q⟩ = true) := Lib.hid (mc_iff.mpr ⟨C1.out, by simp; omega, by have := HN.out; simp; omega, by have := HH.out; simp; omega, by simp; omega, words_mk HO.out⟩)
                go_wp2
                go_ret
                exact ⟨right_no E.out, hn⟩
        · replace Q4 : Hid (decide (sn ≤ 16) = false) := Lib.hid (decide_eq_false c4)
          have E := Lib.hid (mc_not (f := f) (s := ⟨l, zs, p, q⟩) (by rintro ⟨_, _, _, h, _⟩; have := HH.out; simp at h; omega))
          go_enter Tryz.func50, Tryz.ntmps50
          go_wp2_with (first
            | (refine wpList_boxX rfl 75 (.tmp 1) rfl (cellsS l ⟨so, sn, sc⟩ p q) rfl ?_; intro w1 g1 hg1 hl1 H1 hn1; have HS := Lib.hid H1; clear H1)
            | (go_at_call 31; refine (asmRight_any _ f _ (HL.out.new hn1) (HF.out.new hn1)).mono ?_; rw [q1]; rintro e w2 ⟨rfl, hn2⟩; have HS2 : Hid (HasS w2 g1 l ⟨so, sn, sc⟩ p q) := Lib.hid (HasC.new HS.out hn2); have k1 := HasS.hp HS2.out; have k2 := HasS.at HS2.out; have k3 := HasS.ask HS2.out)
            | (go_at_call 79; refine (hpRight_is _ _ _ _ Q4.out).mono ?_; rintro e w3 ⟨rfl, rfl⟩)
            | (refine wpList_ldAr rfl (.tmp 33) rfl g1 rfl HS2.out ?_))
          go_ret
          exact ⟨right_no E.out, hn1.trans hn2⟩
  · have q1 : ((chkF f).2 == 0) = false := bneq_of c1
    have E := Lib.hid (mc_not (f := f) (s := ⟨l, zs, p, q⟩) (by rintro ⟨h, _⟩; exact c1 h))
    go_enter Tryz.func50, Tryz.ntmps50
    go_wp2_with (first
      | (refine wpList_boxX rfl 75 (.tmp 1) rfl (cellsS l ⟨so, sn, sc⟩ p q) rfl ?_; intro w1 g1 hg1 hl1 H1 hn1; have HS := Lib.hid H1; clear H1)
      | (go_at_call 31; refine (asmRight_any _ f _ (HL.out.new hn1) (HF.out.new hn1)).mono ?_; rw [q1]; rintro e w2 ⟨rfl, hn2⟩; have HS2 : Hid (HasS w2 g1 l ⟨so, sn, sc⟩ p q) := Lib.hid (HasC.new HS.out hn2); have k1 := HasS.hp HS2.out; have k2 := HasS.at HS2.out; have k3 := HasS.ask HS2.out)
      | (go_at_call 79; refine (hpRight_is _ _ _ _ Q4.out).mono ?_; rintro e w3 ⟨rfl, rfl⟩)
      | (refine wpList_ldAr rfl (.tmp 33) rfl g1 rfl HS2.out ?_))
    go_ret
    exact ⟨right_no E.out, hn1.trans hn2⟩
theorem stepRight_any (v : Value) (f : List I) (m : Mc) (s : Sl) (w : World) (hl : Laid w) (hf : FunAt w v f) (hh : Hp w (.slice s.ao s.n s.c) m.h) :
    Calls Tryz.prog 50 #[v, .agg (cellsS m.l s m.p m.q).toArray] w fun e w' => e = .returned (.bool (mcB f m)) ∧ New w w' := by
  obtain ⟨ao, cap, rfl⟩ := hf.form
  exact stepRight_in ao _ cap f m s w hl hf rfl (by have := RowAt.len hh; rwa [List.length_map] at this)
end Go.Proofs.YtphopkjgfkaihaaGreatDoor
namespace Go.Proofs.YtphopkjgfkaihaaGreatDoor
open Go.RowKit

/-- Where follow's variables lie. -/
structure Ds (n g3 g4 g6 g9 g10 g11 : Nat) : Prop where
  n3 : n ≤ g3
  n6 : n ≤ g6
  a4 : g4 ≠ g3
  a6 : g6 ≠ g3
  a9 : g9 ≠ g3
  a10 : g10 ≠ g3
  a11 : g11 ≠ g3
/-- What they hold. -/
structure Fr (w wx : World) (g3 g4 g6 g9 g10 g11 : Nat) (l : Ws) (s : Sl) (p q : Int) (x : I) (dd da db : Wd) : Prop where
  st : HasS wx g3 l s p q
  ins : Has wx g4 x
  res : HasS wx g6 noWs nilS 0 0
  d : HasD wx g9 dd
  a : HasD wx g10 da
  b : HasD wx g11 db
  new : New w wx
section
variable {w wx wy : World} {g3 g4 g6 g9 g10 g11 : Nat} {l l' : Ws} {s s' : Sl} {p q p' q' : Int} {x : I} {dd da db : Wd}
theorem Fr.turn (h : Fr w wx g3 g4 g6 g9 g10 g11 l s p q x dd da db) (D : Ds w.heap.size g3 g4 g6 g9 g10 g11) (H : HasS wy g3 l' s' p' q') (k : Kept g3 wx wy) : Fr w wy g3 g4 g6 g9 g10 g11 l' s' p' q' x dd da db :=
  ⟨H, (k.other _ D.a4).trans h.ins, HasC.kept h.res k D.a6, HasC.kept h.d k D.a9, HasC.kept h.a k D.a10, HasC.kept h.b k D.a11, k.below _ D.n3 h.new⟩
theorem Fr.grow (h : Fr w wx g3 g4 g6 g9 g10 g11 l s p q x dd da db) (n : New wx wy) : Fr w wy g3 g4 g6 g9 g10 g11 l s p q x dd da db :=
  ⟨HasC.new h.st n, h.ins.new n, HasC.new h.res n, HasC.new h.d n, HasC.new h.a n, HasC.new h.b n, h.new.trans n⟩
theorem Has.cell5 {w : World} {g : Nat} {x : I} (h : Has w g x) : w.cell? ⟨g, 5, none⟩ = some (.int .i64 x.t) := cell_of_row w g _ _ _ _ h
theorem Fr.cells (h : Fr w wx g3 g4 g6 g9 g10 g11 l s p q x dd da db) :
    wx.cell? ⟨g4, 0, none⟩ = some (.int .i64 x.op) ∧ wx.cell? ⟨g4, 1, none⟩ = some (.int .i64 x.d) ∧ wx.cell? ⟨g4, 2, none⟩ = some (.int .i64 x.a) ∧ wx.cell? ⟨g4, 4, none⟩ = some (.int .i64 x.n) ∧ wx.cell? ⟨g4, 5, none⟩ = some (.int .i64 x.t) ∧
    wx.cell? ⟨g3, 48, none⟩ = some (.slice s.ao s.n s.c) ∧ wx.cell? ⟨g3, 49, none⟩ = some (.int .i64 p) ∧ wx.cell? ⟨g3, 50, none⟩ = some (.int .i64 q) ∧ wx.cell? ⟨g10, 1, none⟩ = some (.int .i64 da.2) ∧ wx.cell? ⟨g11, 1, none⟩ = some (.int .i64 db.2) :=
  ⟨h.ins.cell.1, h.ins.cell.2.1, h.ins.cell.2.2.1, h.ins.cell4, h.ins.cell5, HasS.hp h.st, HasS.at h.st, HasS.ask h.st, HasD.num h.a, HasD.num h.b⟩
end
theorem run_ixA (g k : Nat) (hk : k < 24) (w : World) : (Instr.indexAt 73 (.pointer (some ⟨g, 0, none⟩)) (.int .i64 (k : Int))).run Tryz.prog w = .ok (.pointer (some ⟨g, k * 2, none⟩)) w := by
  have ea : (⟨g, 0, none⟩ : Addr).add (k * 2) = ⟨g, k * 2, none⟩ := by unfold Addr.add; split <;> simp_all
  simp [Instr.indexAt, run_underlying Tryz.underlying73, asIntOf, Instr.sureAddr, Tryz.sizeOf72, ea]
  intro; omega
section
variable {ops : Array Oper} {S : World → Prop} {op : Oper} {act : Act}
theorem ldC_if (hw : Region.wanted op (yielded ops act.tmps) = true) (t : TypeId) (hagg : ∀ w, (isAgg t).run Tryz.prog w = .ok false w) (p : Operand) (ho : op.op = .load t p) (a : Addr) (hx : act.eval p = .pointer (some a)) {v : Value} (h : ∀ w, S w → w.cell? a = some v) :
    YieldsIf Tryz.prog ops S op v act := .inl ⟨hw, fun w hw' => by
  unfold execOp
  simp only [ho, hx, Instr.loadAt, Instr.sureAddr, loadVar, Sem.run_bind, Sem.run_pure, Result.andThen_ok, hagg w]
  simp [h w hw']⟩
theorem ixA_if (hw : Region.wanted op (yielded ops act.tmps) = true) (p i : Operand) (ho : op.op = .indexAddr 73 p i) (g k : Nat) (hk : k < 24) (hx : act.eval p = .pointer (some ⟨g, 0, none⟩)) (hi : act.eval i = .int .i64 (k : Int)) :
    YieldsIf Tryz.prog ops S op (.pointer (some ⟨g, k * 2, none⟩)) act := .inl ⟨hw, fun w _ => by
  unfold execOp
  simp only [ho, hx, hi, run_ixA g k hk w, Sem.run_bind, Sem.run_pure, Result.andThen_ok]⟩
end
def oD : Obj := .cells (wcells (false, 0)).toArray 72 (0, 0)
theorem run_alD {op : Oper} (ho : op.op = .alloc 72) (a : Act) (w : World) : (execOp a.eval op).run Tryz.prog w = .ok (.value (ptr w.heap.size)) (w.alloc oD) := by
  unfold execOp
  simp only [ho, Instr.alloc, Sem.run_bind, zeroD_run w, Result.andThen_ok, newVar, newRow, Value.cells, run_newObj_alloc, Sem.run_pure]
  rfl
theorem hasD_at {w : World} {g k : Nat} (h : w.heap.size = g) (hk : g = k) : HasD (w.alloc oD) k (false, 0) := by
  subst hk h
  exact heap_alloc_new _ _
/-- Three new words. -/
theorem three_D {w : World} {x y z : Nat} (h : Three w.heap.size x y z) : HasD (((w.alloc oD).alloc oD).alloc oD) x (false, 0) ∧ HasD (((w.alloc oD).alloc oD).alloc oD) y (false, 0) ∧ HasD (((w.alloc oD).alloc oD).alloc oD) z (false, 0) := by
  have one : ∀ k, w.heap.size ≤ k → k < w.heap.size + 3 → HasD (((w.alloc oD).alloc oD).alloc oD) k (false, 0) := by
    intro k h0 h1
    have z1 : (w.alloc oD).heap.size = w.heap.size + 1 := alloc_size _ _
    have z2 : ((w.alloc oD).alloc oD).heap.size = w.heap.size + 2 := by rw [alloc_size, z1]
    have : k = w.heap.size ∨ k = w.heap.size + 1 ∨ k = w.heap.size + 2 := by omega
    rcases this with e | e | e
    · exact HasC.new (HasC.new (hasD_at rfl e.symm) (alloc_new _ _)) (alloc_new _ _)
    · exact HasC.new (hasD_at z1 e.symm) (alloc_new _ _)
    · exact hasD_at z2 e.symm
  exact ⟨one _ h.a0 h.a1, one _ h.b0 h.b1, one _ h.c0 h.c1⟩
theorem wpLS_stD {ops : Array Oper} {S : World → Prop} {Q : Exit → Act → World → Prop} {op : Oper} {rest : List Oper} {act : Act} {w : World} (hgd : op.guard = none) (hdst : op.dst = none) (a b : Operand) (ho : op.op = .store 72 a b) (g : Nat) (hx : act.eval a = .pointer (some ⟨g, 0, none⟩)) (x : Wd) (hy : act.eval b = .agg #[.bool x.1, .int .i64 x.2])
    {y : Wd} (h : HasD w g y) (hk : ∀ w', HasD w' g x → Kept g w w' → S w' ∧ wpLS Tryz.prog ops Q S rest act w') : wpLS Tryz.prog ops Q S (op :: rest) act w := by
  have hs := h.store 0 (wcells x) 72 (.agg #[.bool x.1, .int .i64 x.2]) rfl (by simp [wcells]) (by simp [wcells, Value.oneCell']) infoWd
  have hc : (wcells y).take 0 ++ wcells x ++ (wcells y).drop (0 + (wcells x).length) = wcells x := by simp [wcells]
  rw [hc] at hs
  have hr : (execOp act.eval op).run Tryz.prog w = .ok .skip (putO w g (.cells (wcells x).toArray 72 (0, 0))) := by
    unfold execOp
    simp only [ho, hx, hy, hs, Sem.run_bind, Sem.run_pure, Result.andThen_ok]
  obtain ⟨h1, h2⟩ := hk _ (putO_same h) (Kept.put _ _ _)
  exact wpLS_skip hgd hr hdst h1 h2
theorem results_ctt {fn : Func} {p u v : Tmp} {ty : TypeId} (h : fn.results = #[.cell p ty, .tmp u, .tmp v]) (tmps : Array Value) (w : World) (g : Nat) (x y z : Value) (hp : tmps.getD p undef = .pointer (some ⟨g, 0, none⟩)) (hl : (loadVar ty ⟨g, 0, none⟩).run Tryz.prog w = .ok x w)
    (hu : tmps.getD u undef = y) (hv : tmps.getD v undef = z) : (results fn tmps).run Tryz.prog w = .ok (.tuple #[x, y, z]) w := by
  have hp' : tmps[p]?.getD undef = .pointer (some ⟨g, 0, none⟩) := by simpa using hp
  have hu' : tmps[u]?.getD undef = y := by simpa using hu
  have hv' : tmps[v]?.getD undef = z := by simpa using hv
  simp [results, h, hp', hu', hv', asAddr, hl]

/-- An event's cells; a slice's value holds events. -/
def evCells (x : Ev) : List Value := [.int .i64 x.1, .int .i64 x.2.1, .int .i64 x.2.2]
def EvAt (w : World) (v : Value) (es : List Ev) : Prop := ∃ ao cap, v = .slice ao es.length cap ∧ (ao = none → cap = 0) ∧ ∀ i (h : i < es.length), ∃ b off, ao = some ⟨b, off, none⟩ ∧ w.rangeAt b (off + i * 3) (evCells es[i])
theorem EvAt.new {w w' : World} {v : Value} {es : List Ev} (h : EvAt w v es) (n : New w w') : EvAt w' v es := by
  obtain ⟨ao, cap, e, ht, hh⟩ := h
  refine ⟨ao, cap, e, ht, fun i hi => ?_⟩
  obtain ⟨b, off, e1, h1⟩ := hh i hi
  exact ⟨b, off, e1, fun j u hu => n.cell (h1 j u hu)⟩
theorem EvAt.far {w w' : World} {v : Value} {es : List Ev} {B g : Nat} (h : EvAt w v es) (f : Fresh B v es) (hg : g < B) (hk : ∀ k, k ≠ g → w'.heap[k]? = w.heap[k]?) : EvAt w' v es := by
  obtain ⟨ao, cap, e, ht, hh⟩ := h
  refine ⟨ao, cap, e, ht, fun i hi => ?_⟩
  obtain ⟨b, off, e1, h1⟩ := hh i hi
  refine ⟨b, off, e1, fun j u hu => ?_⟩
  have hb : b ≠ g := by
    rcases f with rfl | ⟨b', off', n', cap', e', hb'⟩
    · simp at hi
    · rw [e'] at e
      simp only [Value.slice.injEq] at e
      rw [← e.1] at e1
      simp only [Option.some.injEq, Addr.mk.injEq] at e1
      omega
  have := hk b hb
  have h2 := h1 j u hu
  unfold World.cell? at h2 ⊢
  simp only [this]
  exact h2
theorem EvAt.nil (w : World) : EvAt w (.slice none 0 0) [] := ⟨none, 0, rfl, fun _ => rfl, fun _ hi => absurd hi (Nat.not_lt_zero _)⟩
theorem EvAt.one {w : World} {g : Nat} {x : Ev} (h : HasC w g 164 (evCells x)) : EvAt w (.slice (some ⟨g, 0, none⟩) 1 1) [x] :=
  ⟨some ⟨g, 0, none⟩, 1, rfl, nofun, fun i hi => ⟨g, 0, rfl, by
    have : i = 0 := by simpa using hi
    subst this
    exact h.all⟩⟩
/-- What follow answers. -/
def Rs (w w' : World) (s : Sl) (e : Ending) (r : Mc × List Ev × Int) : Prop :=
  ∃ (s' : Sl) (v : Value), e = .returned (.tuple #[.agg (cellsS r.1.l s' r.1.p r.1.q).toArray, v, .int .i64 r.2.2]) ∧ Hp w' (.slice s'.ao s'.n s'.c) r.1.h ∧ EvAt w' v r.2.1 ∧ New w w' ∧ (s' = s ∨ Fresh w.heap.size (.slice s'.ao s'.n s'.c) r.1.h) ∧ Fresh w.heap.size v r.2.1
theorem Rs.of {w w' : World} {r : Mc × List Ev × Int} {l : Ws} {h : List Int} {p q how : Int} {es : List Ev} {s s0 : Sl} {v : Value} (hr : r = (⟨l, h, p, q⟩, es, how)) (h1 : Hp w' (.slice s.ao s.n s.c) h) (h2 : EvAt w' v es) (h3 : New w w') (h4 : s = s0 ∨ Fresh w.heap.size (.slice s.ao s.n s.c) h) (h5 : Fresh w.heap.size v es) :
    Rs w w' s0 (.returned (.tuple #[.agg (cellsS l s p q).toArray, v, .int .i64 how])) r := by
  subst hr
  exact ⟨s, v, rfl, h1, h2, h3, h4, h5⟩
set_option maxHeartbeats 16000000 in
set_option maxRecDepth 100000 in
theorem follow_in (l : Ws) (s : Sl) (p q o n t : Int) (kd ka kb : Nat) (hkd : kd < 24) (hka : ka < 24) (hkb : kb < 24) (hp0 : 0 ≤ p) (hp1 : p < 200) (hq0 : 0 ≤ q) (ho : 1 ≤ o ∧ o ≤ 18) (zs az : List Int) (ao : Option Addr) (an ac : Nat) (w : World)
    (hs : Hp w (.slice s.ao s.n s.c) zs) (ha : Hp w (.slice ao an ac) az) (hal : an ≤ 100000) :
    Calls Tryz.prog 53 #[.agg (cellsS l s p q).toArray, .agg #[.int .i64 o, .int .i64 kd, .int .i64 ka, .int .i64 kb, .int .i64 n, .int .i64 t], .slice ao an ac] w fun e w' => Rs w w' s e (flw ⟨o, kd, ka, kb, n, t⟩ ⟨l, zs, p, q⟩ az) := by
  have HA := Lib.hid ha
  have HAL : Hid (an = az.length) := Lib.hid ha.len
  clear ha
  have hkd' : (kd : Int) < 24 := by omega
  have hka' : (ka : Int) < 24 := by omega
  have HL := Lib.hid hs
  clear hs
  go_enter Tryz.func53, Tryz.ntmps53
  go_wp2_with (first
    | (refine wpList_boxX rfl 75 (.tmp 0) rfl (cellsS l s p q) rfl ?_; intro w1 g3 hg3 hl3 H3 hn1; have HS := Lib.hid H3; clear H3)
    | (refine wpList_boxX rfl 79 (.tmp 1) rfl [.int .i64 o, .int .i64 kd, .int .i64 ka, .int .i64 kb, .int .i64 n, .int .i64 t] rfl ?_; intro w2 g4 hg4 hl4 H4 hn2; have HI : Hid (Has w2 g4 ⟨o, kd, ka, kb, n, t⟩) := Lib.hid H4; clear H4)
    | (refine wpList_alX rfl 75 rfl _ zeroS_run _ rfl ?_; intro w3 g6 hg6 hl6 H6 hn3; have HR : Hid (HasS w3 g6 noWs nilS 0 0) := Lib.hid H6; clear H6))
  have R3 : Hid (∀ w', New w3 w' → HasS w' g3 l s p q) := Lib.hid (fun w' h => HasC.new (HasC.new (HasC.new HS.out hn2) hn3) h)
  have R4 : Hid (∀ w', New w3 w' → Has w' g4 ⟨o, kd, ka, kb, n, t⟩) := Lib.hid (fun w' h => (HI.out.new hn3).new h)
  have N3 := Lib.hid ((hn1.trans hn2).trans hn3)
  refine wp_region_noPanic ?_
  refine wp_region_held_drew (S := fun w' => New w3 w') (by kernel_rfl) ((New.refl w3).drew) (fun _ => ?_)
  refine wpAnyH_take (i := 0) (v := .pointer (some ⟨g4, 1, none⟩)) rfl (by kernel_rfl) (by kernel_rfl) (by kernel_rfl) (fun _ _ _ h => h) (Or.inl ⟨rfl, fun _ _ => by go_simp⟩) ((New.refl w3).drew) ?_
  simp only [List.getElem_toArray, List.getElem_cons_zero, Act.put, List.setIfInBounds_toArray, List.set_cons_zero, List.set_cons_succ]
  refine wpAnyH_take (i := 1) (v := .int .i64 (kd : Int)) rfl (by kernel_rfl) (by kernel_rfl) (by kernel_rfl) (fun _ _ _ h => h) (ldC_if rfl 3 Tryz.isAgg3 (.tmp 15) rfl ⟨g4, 1, none⟩ rfl (fun w' h => (R4.out w' h).cell.2.1)) ((New.refl w3).drew) ?_
  simp only [List.getElem_toArray, List.getElem_cons_zero, List.getElem_cons_succ, Act.put, List.setIfInBounds_toArray, List.set_cons_zero, List.set_cons_succ]
  refine wpAnyH_take (i := 2) (v := .pointer (some ⟨g3, 0, none⟩)) rfl (by kernel_rfl) (by kernel_rfl) (by kernel_rfl) (fun _ _ _ h => h) (Or.inl ⟨rfl, fun _ _ => by go_simp⟩) ((New.refl w3).drew) ?_
  simp only [List.getElem_toArray, List.getElem_cons_zero, List.getElem_cons_succ, Act.put, List.setIfInBounds_toArray, List.set_cons_zero, List.set_cons_succ]
  refine wpAnyH_take (i := 3) (v := .pointer (some ⟨g3, kd * 2, none⟩)) rfl (by kernel_rfl) (by kernel_rfl) (by kernel_rfl) (fun _ _ _ h => h) (ixA_if rfl (.tmp 17) (.tmp 16) rfl g3 kd hkd rfl rfl) ((New.refl w3).drew) ?_
  simp only [List.getElem_toArray, List.getElem_cons_zero, List.getElem_cons_succ, Act.put, List.setIfInBounds_toArray, List.set_cons_zero, List.set_cons_succ]
  refine wpAnyH_take (i := 4) (v := .agg #[.bool (l kd).1, .int .i64 (l kd).2]) rfl (by kernel_rfl) (by kernel_rfl) (by kernel_rfl) (fun _ _ _ h => h) (yieldsIf_load_mid (by rfl) _ _ rfl g3 (kd * 2) rfl (wcells (l kd)) _ (fun w' h => by rw [Nat.mul_comm]; exact HasS.word (R3.out w' h) hkd) Tryz.underlying72 rfl infoWd) ((New.refl w3).drew) ?_
  simp only [List.getElem_toArray, List.getElem_cons_zero, List.getElem_cons_succ, Act.put, List.setIfInBounds_toArray, List.set_cons_zero, List.set_cons_succ]
  refine wpAnyH_take (i := 5) (v := .pointer (some ⟨g4, 2, none⟩)) rfl (by kernel_rfl) (by kernel_rfl) (by kernel_rfl) (fun _ _ _ h => h) (Or.inl ⟨rfl, fun _ _ => by go_simp⟩) ((New.refl w3).drew) ?_
  simp only [List.getElem_toArray, List.getElem_cons_zero, List.getElem_cons_succ, Act.put, List.setIfInBounds_toArray, List.set_cons_zero, List.set_cons_succ]
  refine wpAnyH_take (i := 6) (v := .int .i64 (ka : Int)) rfl (by kernel_rfl) (by kernel_rfl) (by kernel_rfl) (fun _ _ _ h => h) (ldC_if rfl 3 Tryz.isAgg3 (.tmp 20) rfl ⟨g4, 2, none⟩ rfl (fun w' h => (R4.out w' h).cell.2.2.1)) ((New.refl w3).drew) ?_
  simp only [List.getElem_toArray, List.getElem_cons_zero, List.getElem_cons_succ, Act.put, List.setIfInBounds_toArray, List.set_cons_zero, List.set_cons_succ]
  refine wpAnyH_take (i := 7) (v := .pointer (some ⟨g3, 0, none⟩)) rfl (by kernel_rfl) (by kernel_rfl) (by kernel_rfl) (fun _ _ _ h => h) (Or.inl ⟨rfl, fun _ _ => by go_simp⟩) ((New.refl w3).drew) ?_
  simp only [List.getElem_toArray, List.getElem_cons_zero, List.getElem_cons_succ, Act.put, List.setIfInBounds_toArray, List.set_cons_zero, List.set_cons_succ]
  refine wpAnyH_take (i := 8) (v := .pointer (some ⟨g3, ka * 2, none⟩)) rfl (by kernel_rfl) (by kernel_rfl) (by kernel_rfl) (fun _ _ _ h => h) (ixA_if rfl (.tmp 22) (.tmp 21) rfl g3 ka hka rfl rfl) ((New.refl w3).drew) ?_
  simp only [List.getElem_toArray, List.getElem_cons_zero, List.getElem_cons_succ, Act.put, List.setIfInBounds_toArray, List.set_cons_zero, List.set_cons_succ]
  refine wpAnyH_take (i := 9) (v := .agg #[.bool (l ka).1, .int .i64 (l ka).2]) rfl (by kernel_rfl) (by kernel_rfl) (by kernel_rfl) (fun _ _ _ h => h) (yieldsIf_load_mid (by rfl) _ _ rfl g3 (ka * 2) rfl (wcells (l ka)) _ (fun w' h => by rw [Nat.mul_comm]; exact HasS.word (R3.out w' h) hka) Tryz.underlying72 rfl infoWd) ((New.refl w3).drew) ?_
  simp only [List.getElem_toArray, List.getElem_cons_zero, List.getElem_cons_succ, Act.put, List.setIfInBounds_toArray, List.set_cons_zero, List.set_cons_succ]
  refine wpAnyH_take (i := 10) (v := .pointer (some ⟨g4, 3, none⟩)) rfl (by kernel_rfl) (by kernel_rfl) (by kernel_rfl) (fun _ _ _ h => h) (Or.inl ⟨rfl, fun _ _ => by go_simp⟩) ((New.refl w3).drew) ?_
  simp only [List.getElem_toArray, List.getElem_cons_zero, List.getElem_cons_succ, Act.put, List.setIfInBounds_toArray, List.set_cons_zero, List.set_cons_succ]
  refine wpAnyH_take (i := 11) (v := .int .i64 (kb : Int)) rfl (by kernel_rfl) (by kernel_rfl) (by kernel_rfl) (fun _ _ _ h => h) (ldC_if rfl 3 Tryz.isAgg3 (.tmp 25) rfl ⟨g4, 3, none⟩ rfl (fun w' h => (R4.out w' h).cell.2.2.2)) ((New.refl w3).drew) ?_
  simp only [List.getElem_toArray, List.getElem_cons_zero, List.getElem_cons_succ, Act.put, List.setIfInBounds_toArray, List.set_cons_zero, List.set_cons_succ]
  refine wpAnyH_take (i := 12) (v := .pointer (some ⟨g3, 0, none⟩)) rfl (by kernel_rfl) (by kernel_rfl) (by kernel_rfl) (fun _ _ _ h => h) (Or.inl ⟨rfl, fun _ _ => by go_simp⟩) ((New.refl w3).drew) ?_
  simp only [List.getElem_toArray, List.getElem_cons_zero, List.getElem_cons_succ, Act.put, List.setIfInBounds_toArray, List.set_cons_zero, List.set_cons_succ]
  refine wpAnyH_take (i := 13) (v := .pointer (some ⟨g3, kb * 2, none⟩)) rfl (by kernel_rfl) (by kernel_rfl) (by kernel_rfl) (fun _ _ _ h => h) (ixA_if rfl (.tmp 27) (.tmp 26) rfl g3 kb hkb rfl rfl) ((New.refl w3).drew) ?_
  simp only [List.getElem_toArray, List.getElem_cons_zero, List.getElem_cons_succ, Act.put, List.setIfInBounds_toArray, List.set_cons_zero, List.set_cons_succ]
  refine wpAnyH_take (i := 14) (v := .agg #[.bool (l kb).1, .int .i64 (l kb).2]) rfl (by kernel_rfl) (by kernel_rfl) (by kernel_rfl) (fun _ _ _ h => h) (yieldsIf_load_mid (by rfl) _ _ rfl g3 (kb * 2) rfl (wcells (l kb)) _ (fun w' h => by rw [Nat.mul_comm]; exact HasS.word (R3.out w' h) hkb) Tryz.underlying72 rfl infoWd) ((New.refl w3).drew) ?_
  simp only [List.getElem_toArray, List.getElem_cons_zero, List.getElem_cons_succ, Act.put, List.setIfInBounds_toArray, List.set_cons_zero, List.set_cons_succ]
  refine wpAnyH_new3 (i := 15) (j := 16) (k := 17) (o := oD) (di := 9) (dj := 10) (dk := 11) (m := 3) rfl rfl rfl rfl rfl rfl rfl rfl rfl (run_alD rfl) (run_alD rfl) (run_alD rfl) (by kernel_rfl) (by decide) (by decide) (by decide) (by decide) (by decide) (by decide) (fun _ h => h.alloc _) ((New.refl w3).drew) ?_
  intro g9 g10 g11 h3 hS
  simp only [Act.put, List.setIfInBounds_toArray, List.set_cons_zero, List.set_cons_succ]
  simp only [ptr]
  have hz : w3.drew.heap.size = w3.heap.size := rfl
  rw [hz] at h3
  obtain ⟨d9, d10, d11⟩ := three_D (w := w3.drew) h3
  generalize ((w3.drew.alloc oD).alloc oD).alloc oD = wa at d9 d10 d11 hS ⊢
  refine wpAnyH_forced [18, 19, 20] _ _ _ hS (by kernel_rfl) (by simp) ?_
  simp only [List.map_cons, List.map_nil, Array.getD_eq_getD_getElem?, List.getElem?_toArray, List.getElem?_cons_succ, List.getElem?_cons_zero, Option.getD_some]
  have e9 : w3.heap.size ≤ g9 := h3.a0
  have e10 : w3.heap.size ≤ g10 := h3.b0
  have e11 : w3.heap.size ≤ g11 := h3.c0
  refine wpLS_stD rfl rfl (.tmp 9) (.tmp 19) rfl g9 rfl (l kd) rfl d9 ?_
  intro wb b9 kb9
  have nb := kb9.below w3 e9 hS
  refine ⟨nb, ?_⟩
  refine wpLS_stD rfl rfl (.tmp 10) (.tmp 24) rfl g10 rfl (l ka) rfl (HasC.kept d10 kb9 (Ne.symm h3.ab)) ?_
  intro wc b10 kb10
  have nc := kb10.below w3 e10 nb
  refine ⟨nc, ?_⟩
  refine wpLS_stD rfl rfl (.tmp 11) (.tmp 29) rfl g11 rfl (l kb) rfl (HasC.kept (HasC.kept d11 kb9 (Ne.symm h3.ac)) kb10 (Ne.symm h3.bc)) ?_
  intro wd b11 kb11
  have nd := kb11.below w3 e11 nc
  refine ⟨nd, ?_⟩
  refine wpLS_nil ?_
  refine NoPanic.normal ?_
  have D : Hid (Ds w.heap.size g3 g4 g6 g9 g10 g11) := Lib.hid ⟨hg3, by omega, by omega, by omega, by omega, by omega, by omega⟩
  have FR : Hid (Fr w wd g3 g4 g6 g9 g10 g11 l s p q ⟨o, kd, ka, kb, n, t⟩ (l kd) (l ka) (l kb)) := Lib.hid ⟨R3.out _ nd, R4.out _ nd, HasC.new HR.out nd, HasC.kept (HasC.kept b9 kb10 h3.ab) kb11 h3.ac, HasC.kept b10 kb11 h3.bc, b11, N3.out.trans nd⟩
  obtain ⟨c0, c1, c2, c4, c5, c48, c49, c50, ca, cb⟩ := FR.out.cells
  have HP : Hid (∀ w', New w w' → Hp w' (.slice s.ao s.n s.c) zs) := Lib.hid (fun w' h => HL.out.new h)
  clear HS HI HR R3 R4 N3 d9 d10 d11 b9 b10 b11 kb9 kb10 kb11 nb nc nd hS h3 e9 e10 e11 hz hg3 hg4 hg6 hl3 hl4 hl6 hn1 hn2 hn3
  have hop : o = 3 ∨ o = 2 ∨ o = 1 ∨ o = 13 ∨ o = 14 ∨ o = 15 ∨ o = 17 ∨ o = 16 ∨ o = 18 ∨ (4 ≤ o ∧ o ≤ 12) := by omega
  clear ho
  rcases hop with rfl | rfl | rfl | rfl | rfl | rfl | rfl | rfl | rfl | hop
  · have HF : Hid (flw ⟨3, kd, ka, kb, n, t⟩ ⟨l, zs, p, q⟩ az = (⟨updW (updW l ka (l kd)) kd (l ka), zs, p + 1, q⟩, [], 0)) := Lib.hid (by simp [flw])
    go_wp2_with (first
      | (refine wpList_stAt rfl rfl (.tmp 33) (.tmp 32) rfl g3 rfl (p + 1) rfl FR.out.st ?_; intro wy Hy ky; replace FR := Lib.hid (FR.out.turn D.out Hy ky); clear Hy ky; obtain ⟨c0, c1, c2, c4, c5, c48, c49, c50, ca, cb⟩ := FR.out.cells)
      | (refine wpList_ldDd rfl (.tmp 9) rfl g9 rfl FR.out.d ?_)
      | (refine wpList_ldDd rfl (.tmp 10) rfl g10 rfl FR.out.a ?_)
      | (refine wpList_stWd rfl rfl (.tmp 58) (.tmp 56) rfl g3 ka hka rfl (l kd) rfl FR.out.st ?_; intro wy Hy ky; replace FR := Lib.hid (FR.out.turn D.out Hy ky); clear Hy ky; obtain ⟨c0, c1, c2, c4, c5, c48, c49, c50, ca, cb⟩ := FR.out.cells)
      | (refine wpList_stWd rfl rfl (.tmp 63) (.tmp 61) rfl g3 kd hkd rfl (l ka) rfl FR.out.st ?_; intro wy Hy ky; replace FR := Lib.hid (FR.out.turn D.out Hy ky); clear Hy ky; obtain ⟨c0, c1, c2, c4, c5, c48, c49, c50, ca, cb⟩ := FR.out.cells)
      | (refine wpList_ldS rfl (.tmp 3) rfl g3 rfl FR.out.st ?_)
      | (refine wpList_stS rfl rfl (.tmp 6) (.tmp 146) rfl g6 rfl rfl FR.out.res ?_; intro wz Hz kz))
    exact bodyPost_ret (results_ctt (p := 6) (u := 7) (v := 8) rfl _ _ g6 _ (.slice none 0 0) (.int .i64 (0)) rfl (loadVar_C Hz Tryz.underlying75 rfl (by rw [cellsS_len]; exact infoSt)) rfl rfl) rfl (Rs.of HF.out (HP.out _ (kz.below _ D.out.n6 FR.out.new)) (EvAt.nil _) (kz.below _ D.out.n6 FR.out.new) (.inl rfl) (.inl rfl))
  · have HF : Hid (flw ⟨2, kd, ka, kb, n, t⟩ ⟨l, zs, p, q⟩ az = (⟨updW l kd (l ka), zs, p + 1, q⟩, [], 0)) := Lib.hid (by simp [flw])
    go_wp2_with (first
      | (refine wpList_stAt rfl rfl (.tmp 33) (.tmp 32) rfl g3 rfl (p + 1) rfl FR.out.st ?_; intro wy Hy ky; replace FR := Lib.hid (FR.out.turn D.out Hy ky); clear Hy ky; obtain ⟨c0, c1, c2, c4, c5, c48, c49, c50, ca, cb⟩ := FR.out.cells)
      | (refine wpList_ldDd rfl (.tmp 10) rfl g10 rfl FR.out.a ?_)
      | (refine wpList_stWd rfl rfl (.tmp 63) (.tmp 61) rfl g3 kd hkd rfl (l ka) rfl FR.out.st ?_; intro wy Hy ky; replace FR := Lib.hid (FR.out.turn D.out Hy ky); clear Hy ky; obtain ⟨c0, c1, c2, c4, c5, c48, c49, c50, ca, cb⟩ := FR.out.cells)
      | (refine wpList_ldS rfl (.tmp 3) rfl g3 rfl FR.out.st ?_)
      | (refine wpList_stS rfl rfl (.tmp 6) (.tmp 146) rfl g6 rfl rfl FR.out.res ?_; intro wz Hz kz))
    exact bodyPost_ret (results_ctt (p := 6) (u := 7) (v := 8) rfl _ _ g6 _ (.slice none 0 0) (.int .i64 (0)) rfl (loadVar_C Hz Tryz.underlying75 rfl (by rw [cellsS_len]; exact infoSt)) rfl rfl) rfl (Rs.of HF.out (HP.out _ (kz.below _ D.out.n6 FR.out.new)) (EvAt.nil _) (kz.below _ D.out.n6 FR.out.new) (.inl rfl) (.inl rfl))
  · have HF : Hid (flw ⟨1, kd, ka, kb, n, t⟩ ⟨l, zs, p, q⟩ az = (⟨updW l kd (true, n), zs, p + 1, q⟩, [], 0)) := Lib.hid (by simp [flw])
    go_wp2_with (first
      | (refine wpList_stAt rfl rfl (.tmp 33) (.tmp 32) rfl g3 rfl (p + 1) rfl FR.out.st ?_; intro wy Hy ky; replace FR := Lib.hid (FR.out.turn D.out Hy ky); clear Hy ky; obtain ⟨c0, c1, c2, c4, c5, c48, c49, c50, ca, cb⟩ := FR.out.cells)
      | (refine wpList_ldS rfl (.tmp 3) rfl g3 rfl FR.out.st ?_)
      | (refine wpList_stS rfl rfl (.tmp 6) (.tmp 146) rfl g6 rfl rfl FR.out.res ?_; intro wz Hz kz))
    have hne := newW_any wy
    have y1 : ∀ y : NewW wy, y.val.cell? ⟨g4, 1, none⟩ = some (.int .i64 kd) := fun y => (FR.out.grow y.property).cells.2.1
    have y4 : ∀ y : NewW wy, y.val.cell? ⟨g4, 4, none⟩ = some (.int .i64 n) := fun y => (FR.out.grow y.property).cells.2.2.2.1
    refine wp_region_pref 7 (New.refl wy) (by kernel_rfl) (by kernel_rfl) (by kernel_rfl) (by kernel_rfl) (by kernel_rfl) ?_
    simp only [List.take_succ_cons, List.take_zero, List.drop_succ_cons, List.drop_zero]
    repeat (go_big_quiet_step (first | (go_at_call 80; exact quiet_new (number_from _ _ (Subtype.property _)))))
    refine wpQuiet_nil ?_
    intro w7 hn7
    replace FR := Lib.hid (FR.out.grow hn7)
    obtain ⟨c0, c1, c2, c4, c5, c48, c49, c50, ca, cb⟩ := FR.out.cells
    clear y1 y4 hne hn7
    go_wp2_with (first
      | (refine wpList_stWd rfl rfl (.tmp 70) (.tmp 68) rfl g3 kd hkd rfl (true, n) rfl FR.out.st ?_; intro wy Hy ky; replace FR := Lib.hid (FR.out.turn D.out Hy ky); clear Hy ky; obtain ⟨c0, c1, c2, c4, c5, c48, c49, c50, ca, cb⟩ := FR.out.cells)
      | (refine wpList_ldS rfl (.tmp 3) rfl g3 rfl FR.out.st ?_)
      | (refine wpList_stS rfl rfl (.tmp 6) (.tmp 146) rfl g6 rfl rfl FR.out.res ?_; intro wz Hz kz))
    exact bodyPost_ret (results_ctt (p := 6) (u := 7) (v := 8) rfl _ _ g6 _ (.slice none 0 0) (.int .i64 (0)) rfl (loadVar_C Hz Tryz.underlying75 rfl (by rw [cellsS_len]; exact infoSt)) rfl rfl) rfl (Rs.of HF.out (HP.out _ (kz.below _ D.out.n6 FR.out.new)) (EvAt.nil _) (kz.below _ D.out.n6 FR.out.new) (.inl rfl) (.inl rfl))
  · have HF : Hid (flw ⟨13, kd, ka, kb, n, t⟩ ⟨l, zs, p, q⟩ az = (⟨updW l kd (true, hpLd zs (l ka).2), zs, p + 1, q⟩, [], hpHow zs (l ka).2)) := Lib.hid (by simp [flw])
    go_wp2_with (first
      | (refine wpList_stAt rfl rfl (.tmp 33) (.tmp 32) rfl g3 rfl (p + 1) rfl FR.out.st ?_; intro wy Hy ky; replace FR := Lib.hid (FR.out.turn D.out Hy ky); clear Hy ky; obtain ⟨c0, c1, c2, c4, c5, c48, c49, c50, ca, cb⟩ := FR.out.cells)
      | (go_at_call 81; refine (load_any zs _ _ _ (HP.out _ FR.out.new)).mono ?_; rintro e w5 ⟨rfl, rfl⟩)
      | (refine wpList_ldS rfl (.tmp 3) rfl g3 rfl FR.out.st ?_)
      | (refine wpList_stS rfl rfl (.tmp 6) (.tmp 146) rfl g6 rfl rfl FR.out.res ?_; intro wz Hz kz))
    have hne := newW_any w5
    have y1 : ∀ y : NewW w5, y.val.cell? ⟨g4, 1, none⟩ = some (.int .i64 kd) := fun y => (FR.out.grow y.property).cells.2.1
    have y4 : ∀ y : NewW w5, y.val.cell? ⟨g4, 4, none⟩ = some (.int .i64 n) := fun y => (FR.out.grow y.property).cells.2.2.2.1
    refine wp_region_pref 6 (New.refl w5) (by kernel_rfl) (by kernel_rfl) (by kernel_rfl) (by kernel_rfl) (by kernel_rfl) ?_
    simp only [List.take_succ_cons, List.take_zero, List.drop_succ_cons, List.drop_zero]
    repeat (go_big_quiet_step (first | (go_at_call 80; exact quiet_new (number_from _ _ (Subtype.property _)))))
    refine wpQuiet_nil ?_
    intro w7 hn7
    replace FR := Lib.hid (FR.out.grow hn7)
    obtain ⟨c0, c1, c2, c4, c5, c48, c49, c50, ca, cb⟩ := FR.out.cells
    clear y1 y4 hne hn7
    go_wp2_with (first
      | (refine wpList_stWd rfl rfl (.tmp 84) (.tmp 82) rfl g3 kd hkd rfl (true, hpLd zs (l ka).2) rfl FR.out.st ?_; intro wy Hy ky; replace FR := Lib.hid (FR.out.turn D.out Hy ky); clear Hy ky; obtain ⟨c0, c1, c2, c4, c5, c48, c49, c50, ca, cb⟩ := FR.out.cells)
      | (refine wpList_ldS rfl (.tmp 3) rfl g3 rfl FR.out.st ?_)
      | (refine wpList_stS rfl rfl (.tmp 6) (.tmp 146) rfl g6 rfl rfl FR.out.res ?_; intro wz Hz kz))
    exact bodyPost_ret (results_ctt (p := 6) (u := 7) (v := 8) rfl _ _ g6 _ (.slice none 0 0) (.int .i64 (hpHow zs (l ka).2)) rfl (loadVar_C Hz Tryz.underlying75 rfl (by rw [cellsS_len]; exact infoSt)) rfl rfl) rfl (Rs.of HF.out (HP.out _ (kz.below _ D.out.n6 FR.out.new)) (EvAt.nil _) (kz.below _ D.out.n6 FR.out.new) (.inl rfl) (.inl rfl))
  · have HF : Hid (flw ⟨14, kd, ka, kb, n, t⟩ ⟨l, zs, p, q⟩ az = (⟨l, hpSt zs (l ka).2 (l kb).2, p + 1, q⟩, [], hpHow zs (l ka).2)) := Lib.hid (by simp [flw])
    go_wp2_with (first
      | (refine wpList_stAt rfl rfl (.tmp 33) (.tmp 32) rfl g3 rfl (p + 1) rfl FR.out.st ?_; intro wy Hy ky; replace FR := Lib.hid (FR.out.turn D.out Hy ky); clear Hy ky; obtain ⟨c0, c1, c2, c4, c5, c48, c49, c50, ca, cb⟩ := FR.out.cells)
      | (go_at_call 82; have hb3 := HasC.lt FR.out.st; have hb6 := HasC.lt FR.out.res; have hbw := FR.out.new.size; refine (store_f zs _ _ _ _ _ _ (HP.out _ FR.out.new)).mono ?_; rintro e w5 ⟨vs, rfl, hv, hn5, hf⟩; obtain ⟨so, sc, rfl⟩ := hv.form; replace FR := Lib.hid (FR.out.grow hn5); have HV := Lib.hid hv; have HFr := Lib.hid hf; clear hv hf; obtain ⟨c0, c1, c2, c4, c5, c48, c49, c50, ca, cb⟩ := FR.out.cells)
      | (refine wpList_stHp rfl rfl (.tmp 95) (.tmp 93) rfl g3 rfl ⟨so, _, sc⟩ rfl FR.out.st ?_; intro wy Hy ky; replace HV := Lib.hid (Hp.far HV.out HFr.out hb3 ky.other); replace FR := Lib.hid (FR.out.turn D.out Hy ky); clear Hy; obtain ⟨c0, c1, c2, c4, c5, c48, c49, c50, ca, cb⟩ := FR.out.cells)
      | (refine wpList_ldS rfl (.tmp 3) rfl g3 rfl FR.out.st ?_)
      | (refine wpList_stS rfl rfl (.tmp 6) (.tmp 146) rfl g6 rfl rfl FR.out.res ?_; intro wz Hz kz))
    exact bodyPost_ret (results_ctt (p := 6) (u := 7) (v := 8) rfl _ _ g6 _ (.slice none 0 0) (.int .i64 (hpHow zs (l ka).2)) rfl (loadVar_C Hz Tryz.underlying75 rfl (by rw [cellsS_len]; exact infoSt)) rfl rfl) rfl (Rs.of HF.out (Hp.far HV.out HFr.out hb6 kz.other) (EvAt.nil _) (kz.below _ D.out.n6 FR.out.new) (.inr (HFr.out.mono hbw)) (.inl rfl))
  · by_cases hq : (an : Int) ≤ q
    · have HF : Hid (flw ⟨15, kd, ka, kb, n, t⟩ ⟨l, zs, p, q⟩ az = (⟨l, zs, p + 1, q⟩, [], 5)) := Lib.hid (by simp [flw, show (az.length : Int) ≤ q from by have := HAL.out; omega])
      go_wp2_with (first
        | (refine wpList_stAt rfl rfl (.tmp 33) (.tmp 32) rfl g3 rfl (p + 1) rfl FR.out.st ?_; intro wy Hy ky; replace FR := Lib.hid (FR.out.turn D.out Hy ky); clear Hy ky; obtain ⟨c0, c1, c2, c4, c5, c48, c49, c50, ca, cb⟩ := FR.out.cells)
        | (refine wpList_stS rfl rfl (.tmp 6) (.tmp 101) rfl g6 rfl rfl FR.out.res ?_; intro wz Hz kz)
        | (refine wpList_ldS rfl (.tmp 3) rfl g3 rfl FR.out.st ?_)
        | (refine wpList_stS rfl rfl (.tmp 6) (.tmp 146) rfl g6 rfl rfl FR.out.res ?_; intro wz Hz kz))
      exact bodyPost_ret (results_ctt (p := 6) (u := 7) (v := 8) rfl _ _ g6 _ (.slice none 0 0) (.int .i64 (5)) rfl (loadVar_C Hz Tryz.underlying75 rfl (by rw [cellsS_len]; exact infoSt)) rfl rfl) rfl (Rs.of HF.out (HP.out _ (kz.below _ D.out.n6 FR.out.new)) (EvAt.nil _) (kz.below _ D.out.n6 FR.out.new) (.inl rfl) (.inl rfl))
    · obtain ⟨ad, y, ey, hix, hcy⟩ := Hp.ix HA.out (i := q.toNat) (by have := HAL.out; omega)
      have HY : Hid (az[q.toNat]?.getD 0 = y) := Lib.hid (by rw [ey]; rfl)
      rw [show ((q.toNat : Nat) : Int) = q from by omega] at hix
      have HCA := Lib.hid hcy
      clear ey hcy
      have HF : Hid (flw ⟨15, kd, ka, kb, n, t⟩ ⟨l, zs, p, q⟩ az = (⟨updW l kd (true, y), zs, p + 1, q + 1⟩, [(n, (l ka).2, y)], 0)) := Lib.hid (by simp [flw, show ¬ (az.length : Int) ≤ q from by have := HAL.out; omega, HY.out])
      go_wp2_with (first
        | (refine wpList_stAt rfl rfl (.tmp 33) (.tmp 32) rfl g3 rfl (p + 1) rfl FR.out.st ?_; intro wy Hy ky; replace FR := Lib.hid (FR.out.turn D.out Hy ky); clear Hy ky; obtain ⟨c0, c1, c2, c4, c5, c48, c49, c50, ca, cb⟩ := FR.out.cells; have cA := HCA.out _ FR.out.new)
        | (refine wpList_ldS rfl (.tmp 3) rfl g3 rfl FR.out.st ?_)
        | (refine wpList_stS rfl rfl (.tmp 6) (.tmp 146) rfl g6 rfl rfl FR.out.res ?_; intro wz Hz kz))
      have HE : Hid (HasC (wy.alloc (.cells #[.int .i64 n, .int .i64 (l ka).2, .int .i64 y] 164)) wy.heap.size 164 (evCells (n, (l ka).2, y))) := Lib.hid (HasC.box wy _ [.int .i64 n, .int .i64 (l ka).2, .int .i64 y])
      have hb3 := HasC.lt FR.out.st
      have hb6 := HasC.lt FR.out.res
      have hbw : w.heap.size ≤ wy.heap.size := FR.out.new.size
      replace FR := Lib.hid (FR.out.grow (alloc_new wy (.cells #[.int .i64 n, .int .i64 (l ka).2, .int .i64 y] 164)))
      have hge : ∃ ge, ge = wy.heap.size := ⟨_, rfl⟩
      obtain ⟨ge, hge⟩ := hge
      rw [← hge] at HE hb3 hb6 hbw ⊢
      generalize wy.alloc (.cells #[.int .i64 n, .int .i64 (l ka).2, .int .i64 y] 164) = we at FR HE ⊢
      clear hge
      have hne := newW_any we
      have y1 : ∀ y : NewW we, y.val.cell? ⟨g4, 1, none⟩ = some (.int .i64 kd) := fun y => (FR.out.grow y.property).cells.2.1
      have y4 : ∀ y : NewW we, y.val.cell? ⟨g4, 4, none⟩ = some (.int .i64 n) := fun y => (FR.out.grow y.property).cells.2.2.2.1
      refine wp_region_pref 6 (New.refl we) (by kernel_rfl) (by kernel_rfl) (by kernel_rfl) (by kernel_rfl) (by kernel_rfl) ?_
      simp only [List.take_succ_cons, List.take_zero, List.drop_succ_cons, List.drop_zero]
      repeat (go_big_quiet_step (first | (go_at_call 80; exact quiet_new (number_from _ _ (Subtype.property _)))))
      refine wpQuiet_nil ?_
      intro w7 hn7
      replace FR := Lib.hid (FR.out.grow hn7)
      replace HE := Lib.hid (HasC.new HE.out hn7)
      obtain ⟨c0, c1, c2, c4, c5, c48, c49, c50, ca, cb⟩ := FR.out.cells
      clear y1 y4 hne hn7
      go_wp2_with (first
        | (refine wpList_stWd rfl rfl (.tmp 119) (.tmp 117) rfl g3 kd hkd rfl (true, y) rfl FR.out.st ?_; intro wy Hy ky; replace HE := Lib.hid (HasC.kept HE.out ky (Nat.ne_of_gt hb3)); replace FR := Lib.hid (FR.out.turn D.out Hy ky); clear Hy ky; obtain ⟨c0, c1, c2, c4, c5, c48, c49, c50, ca, cb⟩ := FR.out.cells)
        | (refine wpList_stAsk rfl rfl (.tmp 123) (.tmp 122) rfl g3 rfl (q + 1) rfl FR.out.st ?_; intro wy Hy ky; replace HE := Lib.hid (HasC.kept HE.out ky (Nat.ne_of_gt hb3)); replace FR := Lib.hid (FR.out.turn D.out Hy ky); clear Hy ky; obtain ⟨c0, c1, c2, c4, c5, c48, c49, c50, ca, cb⟩ := FR.out.cells)
        | (refine wpList_ldS rfl (.tmp 3) rfl g3 rfl FR.out.st ?_)
        | (refine wpList_stS rfl rfl (.tmp 6) (.tmp 146) rfl g6 rfl rfl FR.out.res ?_; intro wz Hz kz))
      exact bodyPost_ret (results_ctt (p := 6) (u := 7) (v := 8) rfl _ _ g6 _ (.slice (some ⟨ge, 0, none⟩) 1 1) (.int .i64 (0)) rfl (loadVar_C Hz Tryz.underlying75 rfl (by rw [cellsS_len]; exact infoSt)) rfl rfl) rfl (Rs.of HF.out (HP.out _ (kz.below _ D.out.n6 FR.out.new)) (EvAt.one (HasC.kept HE.out kz (Nat.ne_of_gt hb6))) (kz.below _ D.out.n6 FR.out.new) (.inl rfl) (.inr ⟨ge, 0, 1, 1, rfl, hbw⟩))
  · by_cases hz : (l ka).2 = 0
    · have HF : Hid (flw ⟨17, kd, ka, kb, n, t⟩ ⟨l, zs, p, q⟩ az = (⟨l, zs, t, q⟩, [], 0)) := Lib.hid (by simp [flw, hz])
      have qz : ((l ka).2 != 0) = false := by simpa using hz
      clear hz
      go_wp2_with (first
        | (refine wpList_stAt rfl rfl (.tmp 33) (.tmp 32) rfl g3 rfl (p + 1) rfl FR.out.st ?_; intro wy Hy ky; replace FR := Lib.hid (FR.out.turn D.out Hy ky); clear Hy ky; obtain ⟨c0, c1, c2, c4, c5, c48, c49, c50, ca, cb⟩ := FR.out.cells)
        | (refine wpList_stAt rfl rfl (.tmp 129) (.tmp 128) rfl g3 rfl t rfl FR.out.st ?_; intro wy Hy ky; replace FR := Lib.hid (FR.out.turn D.out Hy ky); clear Hy ky; obtain ⟨c0, c1, c2, c4, c5, c48, c49, c50, ca, cb⟩ := FR.out.cells)
        | (refine wpList_ldS rfl (.tmp 3) rfl g3 rfl FR.out.st ?_)
        | (refine wpList_stS rfl rfl (.tmp 6) (.tmp 146) rfl g6 rfl rfl FR.out.res ?_; intro wz Hz kz))
      exact bodyPost_ret (results_ctt (p := 6) (u := 7) (v := 8) rfl _ _ g6 _ (.slice none 0 0) (.int .i64 (0)) rfl (loadVar_C Hz Tryz.underlying75 rfl (by rw [cellsS_len]; exact infoSt)) rfl rfl) rfl (Rs.of HF.out (HP.out _ (kz.below _ D.out.n6 FR.out.new)) (EvAt.nil _) (kz.below _ D.out.n6 FR.out.new) (.inl rfl) (.inl rfl))
    · have HF : Hid (flw ⟨17, kd, ka, kb, n, t⟩ ⟨l, zs, p, q⟩ az = (⟨l, zs, p + 1, q⟩, [], 0)) := Lib.hid (by simp [flw, hz])
      have qz : ((l ka).2 != 0) = true := by simpa using hz
      clear hz
      go_wp2_with (first
        | (refine wpList_stAt rfl rfl (.tmp 33) (.tmp 32) rfl g3 rfl (p + 1) rfl FR.out.st ?_; intro wy Hy ky; replace FR := Lib.hid (FR.out.turn D.out Hy ky); clear Hy ky; obtain ⟨c0, c1, c2, c4, c5, c48, c49, c50, ca, cb⟩ := FR.out.cells)
        | (refine wpList_ldS rfl (.tmp 3) rfl g3 rfl FR.out.st ?_)
        | (refine wpList_stS rfl rfl (.tmp 6) (.tmp 146) rfl g6 rfl rfl FR.out.res ?_; intro wz Hz kz))
      exact bodyPost_ret (results_ctt (p := 6) (u := 7) (v := 8) rfl _ _ g6 _ (.slice none 0 0) (.int .i64 (0)) rfl (loadVar_C Hz Tryz.underlying75 rfl (by rw [cellsS_len]; exact infoSt)) rfl rfl) rfl (Rs.of HF.out (HP.out _ (kz.below _ D.out.n6 FR.out.new)) (EvAt.nil _) (kz.below _ D.out.n6 FR.out.new) (.inl rfl) (.inl rfl))
  · have HF : Hid (flw ⟨16, kd, ka, kb, n, t⟩ ⟨l, zs, p, q⟩ az = (⟨l, zs, t, q⟩, [], 0)) := Lib.hid (by simp [flw])
    go_wp2_with (first
      | (refine wpList_stAt rfl rfl (.tmp 33) (.tmp 32) rfl g3 rfl (p + 1) rfl FR.out.st ?_; intro wy Hy ky; replace FR := Lib.hid (FR.out.turn D.out Hy ky); clear Hy ky; obtain ⟨c0, c1, c2, c4, c5, c48, c49, c50, ca, cb⟩ := FR.out.cells)
      | (refine wpList_stAt rfl rfl (.tmp 129) (.tmp 128) rfl g3 rfl t rfl FR.out.st ?_; intro wy Hy ky; replace FR := Lib.hid (FR.out.turn D.out Hy ky); clear Hy ky; obtain ⟨c0, c1, c2, c4, c5, c48, c49, c50, ca, cb⟩ := FR.out.cells)
      | (refine wpList_ldS rfl (.tmp 3) rfl g3 rfl FR.out.st ?_)
      | (refine wpList_stS rfl rfl (.tmp 6) (.tmp 146) rfl g6 rfl rfl FR.out.res ?_; intro wz Hz kz))
    exact bodyPost_ret (results_ctt (p := 6) (u := 7) (v := 8) rfl _ _ g6 _ (.slice none 0 0) (.int .i64 (0)) rfl (loadVar_C Hz Tryz.underlying75 rfl (by rw [cellsS_len]; exact infoSt)) rfl rfl) rfl (Rs.of HF.out (HP.out _ (kz.below _ D.out.n6 FR.out.new)) (EvAt.nil _) (kz.below _ D.out.n6 FR.out.new) (.inl rfl) (.inl rfl))
  · have HF : Hid (flw ⟨18, kd, ka, kb, n, t⟩ ⟨l, zs, p, q⟩ az = (⟨l, zs, p + 1, q⟩, [], 1)) := Lib.hid (by simp [flw])
    go_wp2_with (first
      | (refine wpList_stAt rfl rfl (.tmp 33) (.tmp 32) rfl g3 rfl (p + 1) rfl FR.out.st ?_; intro wy Hy ky; replace FR := Lib.hid (FR.out.turn D.out Hy ky); clear Hy ky; obtain ⟨c0, c1, c2, c4, c5, c48, c49, c50, ca, cb⟩ := FR.out.cells)
      | (refine wpList_ldS rfl (.tmp 3) rfl g3 rfl FR.out.st ?_)
      | (refine wpList_stS rfl rfl (.tmp 6) (.tmp 146) rfl g6 rfl rfl FR.out.res ?_; intro wz Hz kz))
    exact bodyPost_ret (results_ctt (p := 6) (u := 7) (v := 8) rfl _ _ g6 _ (.slice none 0 0) (.int .i64 (1)) rfl (loadVar_C Hz Tryz.underlying75 rfl (by rw [cellsS_len]; exact infoSt)) rfl rfl) rfl (Rs.of HF.out (HP.out _ (kz.below _ D.out.n6 FR.out.new)) (EvAt.nil _) (kz.below _ D.out.n6 FR.out.new) (.inl rfl) (.inl rfl))
  · have OB := Lib.hid hop
    have n3 : (o == 3) = false := bneq_of (by omega)
    have n2 : (o == 2) = false := bneq_of (by omega)
    have n1 : (o == 1) = false := bneq_of (by omega)
    have n13 : (o == 13) = false := bneq_of (by omega)
    have n14 : (o == 14) = false := bneq_of (by omega)
    have n15 : (o == 15) = false := bneq_of (by omega)
    have n17 : (o == 17) = false := bneq_of (by omega)
    have n16 : (o == 16) = false := bneq_of (by omega)
    have n18 : (o == 18) = false := bneq_of (by omega)
    clear hop
    have HF : Hid (flw ⟨o, kd, ka, kb, n, t⟩ ⟨l, zs, p, q⟩ az = (⟨updW l kd (true, doV o (l ka).2 (l kb).2), zs, p + 1, q⟩, [], doH o (l kb).2)) := Lib.hid (by have h1 := OB.out; unfold flw; simp only; rw [if_neg (by omega), if_neg (by omega), if_neg (by omega), if_neg (by omega), if_neg (by omega), if_neg (by omega), if_neg (by omega), if_neg (by omega), if_neg (by omega)]; rfl)
    go_wp2_with (first
      | (refine wpList_stAt rfl rfl (.tmp 33) (.tmp 32) rfl g3 rfl (p + 1) rfl FR.out.st ?_; intro wy Hy ky; replace FR := Lib.hid (FR.out.turn D.out Hy ky); clear Hy ky; obtain ⟨c0, c1, c2, c4, c5, c48, c49, c50, ca, cb⟩ := FR.out.cells)
      | (go_at_call 83; refine (do_new o _ _ _ (New.refl _) rfl rfl).mono ?_; rintro e w5 ⟨rfl, hn5⟩; replace FR := Lib.hid (FR.out.grow hn5); obtain ⟨c0, c1, c2, c4, c5, c48, c49, c50, ca, cb⟩ := FR.out.cells)
      | (refine wpList_ldS rfl (.tmp 3) rfl g3 rfl FR.out.st ?_)
      | (refine wpList_stS rfl rfl (.tmp 6) (.tmp 146) rfl g6 rfl rfl FR.out.res ?_; intro wz Hz kz))
    have hne := newW_any w5
    have y1 : ∀ y : NewW w5, y.val.cell? ⟨g4, 1, none⟩ = some (.int .i64 kd) := fun y => (FR.out.grow y.property).cells.2.1
    have y4 : ∀ y : NewW w5, y.val.cell? ⟨g4, 4, none⟩ = some (.int .i64 n) := fun y => (FR.out.grow y.property).cells.2.2.2.1
    refine wp_region_pref 6 (New.refl w5) (by kernel_rfl) (by kernel_rfl) (by kernel_rfl) (by kernel_rfl) (by kernel_rfl) ?_
    simp only [List.take_succ_cons, List.take_zero, List.drop_succ_cons, List.drop_zero]
    repeat (go_big_quiet_step (first | (go_at_call 80; exact quiet_new (number_from _ _ (Subtype.property _)))))
    refine wpQuiet_nil ?_
    intro w7 hn7
    replace FR := Lib.hid (FR.out.grow hn7)
    obtain ⟨c0, c1, c2, c4, c5, c48, c49, c50, ca, cb⟩ := FR.out.cells
    clear y1 y4 hne hn7
    go_wp2_with (first
      | (refine wpList_stWd rfl rfl (.tmp 145) (.tmp 143) rfl g3 kd hkd rfl (true, doV o (l ka).2 (l kb).2) rfl FR.out.st ?_; intro wy Hy ky; replace FR := Lib.hid (FR.out.turn D.out Hy ky); clear Hy ky; obtain ⟨c0, c1, c2, c4, c5, c48, c49, c50, ca, cb⟩ := FR.out.cells)
      | (refine wpList_ldS rfl (.tmp 3) rfl g3 rfl FR.out.st ?_)
      | (refine wpList_stS rfl rfl (.tmp 6) (.tmp 146) rfl g6 rfl rfl FR.out.res ?_; intro wz Hz kz))
    exact bodyPost_ret (results_ctt (p := 6) (u := 7) (v := 8) rfl _ _ g6 _ (.slice none 0 0) (.int .i64 (doH o (l kb).2)) rfl (loadVar_C Hz Tryz.underlying75 rfl (by rw [cellsS_len]; exact infoSt)) rfl rfl) rfl (Rs.of HF.out (HP.out _ (kz.below _ D.out.n6 FR.out.new)) (EvAt.nil _) (kz.below _ D.out.n6 FR.out.new) (.inl rfl) (.inl rfl))
end Go.Proofs.YtphopkjgfkaihaaGreatDoor
namespace Go.Proofs.YtphopkjgfkaihaaGreatDoor
open Go.RowKit

def outC (how val : Int) (s : Sl) : List Value := [.int .i64 how, .int .i64 val, .slice s.ao s.n s.c]
abbrev HasO (w : World) (g : Nat) (how val : Int) (s : Sl) : Prop := HasC w g 85 (outC how val s)
theorem infoOut : (Tryz.prog.info? 85).map (·.size) = some 3 := by kernel_rfl
theorem zeroO_run (w : World) : (zeroValue 85).run Tryz.prog w = .ok (.agg (outC 0 0 nilS).toArray) w := Tryz.zeroValue85 w
theorem wpList_stO {ops : Array Oper} {rest : List Oper} {op : Oper} {act : Act} {w : World} {Q : Exit → Act → World → Prop} (hgd : op.guard = none) (hdst : op.dst = none) (a b : Operand) (ho : op.op = .store 85 a b) (g : Nat) (hx : act.eval a = .pointer (some ⟨g, 0, none⟩)) (how val : Int) (s : Sl) (hy : act.eval b = .agg (outC how val s).toArray)
    {how' val' : Int} {s' : Sl} (h : HasO w g how' val' s') (hk : ∀ w', HasO w' g how val s → Kept g w w' → wpList Tryz.prog ops Q rest act w') : wpList Tryz.prog ops Q (op :: rest) act w :=
  wpList_stX hgd hdst _ a b ho g 0 hx _ hy h (outC how val s) rfl (by simp [outC]) (by simp [outC, Value.oneCell']) infoOut (by simp [outC]) hk
theorem results_ctct {fn : Func} {p u v r : Tmp} {ty ty' : TypeId} (h : fn.results = #[.cell p ty, .tmp u, .cell v ty', .tmp r]) (tmps : Array Value) (w : World) (g k : Nat) (x y z x4 : Value) (hp : tmps.getD p undef = .pointer (some ⟨g, 0, none⟩)) (hl : (loadVar ty ⟨g, 0, none⟩).run Tryz.prog w = .ok x w)
    (hu : tmps.getD u undef = y) (hv : tmps.getD v undef = .pointer (some ⟨k, 0, none⟩)) (hl' : (loadVar ty' ⟨k, 0, none⟩).run Tryz.prog w = .ok z w) (hr : tmps.getD r undef = x4) : (results fn tmps).run Tryz.prog w = .ok (.tuple #[x, y, z, x4]) w := by
  have hp' : tmps[p]?.getD undef = .pointer (some ⟨g, 0, none⟩) := by simpa using hp
  have hu' : tmps[u]?.getD undef = y := by simpa using hu
  have hv' : tmps[v]?.getD undef = .pointer (some ⟨k, 0, none⟩) := by simpa using hv
  have hr' : tmps[r]?.getD undef = x4 := by simpa using hr
  simp [results, h, hp', hu', hv', hr', asAddr, hl, hl']
/-- Do's variables. -/
structure Fd (w wx : World) (g4 g6 g8 : Nat) (l : Ws) (s : Sl) (p q : Int) : Prop where
  st : HasS wx g4 l s p q
  res : HasS wx g6 noWs nilS 0 0
  out : HasO wx g8 0 0 nilS
  new : New w wx
theorem Fd.grow {w wx wy : World} {g4 g6 g8 : Nat} {l : Ws} {s : Sl} {p q : Int} (h : Fd w wx g4 g6 g8 l s p q) (n : New wx wy) : Fd w wy g4 g6 g8 l s p q := ⟨HasC.new h.st n, HasC.new h.res n, HasC.new h.out n, h.new.trans n⟩
/-- What Do answers of a state that is right. -/
def Dn (w w' : World) (e : Ending) (r : Tl) : Prop :=
  ∃ (s' : Sl) (v : Value) (so : Sl), e = .returned (.tuple #[.agg (cellsS r.s.l s' r.s.p r.s.q).toArray, v, .agg (outC r.how r.val so).toArray, .int .i64 0]) ∧ Hp w' (.slice s'.ao s'.n s'.c) r.s.h ∧ EvAt w' v r.ev ∧ Hp w' (.slice so.ao so.n so.c) r.hp ∧ New w w' ∧ Fresh w.heap.size (.slice s'.ao s'.n s'.c) r.s.h ∧ Fresh w.heap.size v r.ev ∧ Fresh w.heap.size (.slice so.ao so.n so.c) r.hp
theorem Dn.of {w w' : World} {r : Tl} {l : Ws} {h oh : List Int} {p q how val : Int} {es : List Ev} {s so : Sl} {v : Value} (hr : r = ⟨⟨l, h, p, q⟩, es, how, val, oh⟩) (h1 : Hp w' (.slice s.ao s.n s.c) h) (h2 : EvAt w' v es) (h3 : Hp w' (.slice so.ao so.n so.c) oh) (h4 : New w w') (h5 : Fresh w.heap.size (.slice s.ao s.n s.c) h) (h6 : Fresh w.heap.size v es) (h7 : Fresh w.heap.size (.slice so.ao so.n so.c) oh) :
    Dn w w' (.returned (.tuple #[.agg (cellsS l s p q).toArray, v, .agg (outC how val so).toArray, .int .i64 0])) r := by
  subst hr
  exact ⟨s, v, so, rfl, h1, h2, h3, h4, h5, h6, h7⟩
theorem follow_is {l : Ws} {s : Sl} {p q o n t : Int} {kd ka kb : Nat} (hkd : kd < 24) (hka : ka < 24) (hkb : kb < 24) (hp0 : 0 ≤ p) (hp1 : p < 200) (hq0 : 0 ≤ q) (ho : 1 ≤ o ∧ o ≤ 18) {zs az : List Int} {ao : Option Addr} {an ac : Nat} {w : World}
    (hs : Hp w (.slice s.ao s.n s.c) zs) (ha : Hp w (.slice ao an ac) az) (hal : an ≤ 100000) {l2 : Ws} {z2 : List Int} {p2 q2 how : Int} {es : List Ev} (hr : flw ⟨o, kd, ka, kb, n, t⟩ ⟨l, zs, p, q⟩ az = (⟨l2, z2, p2, q2⟩, es, how)) :
    Calls Tryz.prog 53 #[.agg (cellsS l s p q).toArray, .agg #[.int .i64 o, .int .i64 kd, .int .i64 ka, .int .i64 kb, .int .i64 n, .int .i64 t], .slice ao an ac] w fun e w' =>
      ∃ (s' : Sl) (v : Value), e = .returned (.tuple #[.agg (cellsS l2 s' p2 q2).toArray, v, .int .i64 how]) ∧ Hp w' (.slice s'.ao s'.n s'.c) z2 ∧ EvAt w' v es ∧ New w w' ∧ (s' = s ∨ Fresh w.heap.size (.slice s'.ao s'.n s'.c) z2) ∧ Fresh w.heap.size v es := by
  refine (follow_in l s p q o n t kd ka kb hkd hka hkb hp0 hp1 hq0 ho zs az ao an ac w hs ha hal).mono ?_
  rw [hr]
  exact fun e w' h => h
theorem fresh_step {B C : Nat} {s1 s2 : Sl} {zs z2 : List Int} {w w' : World} (f : Fresh B (.slice s1.ao s1.n s1.c) zs) (h1 : Hp w (.slice s1.ao s1.n s1.c) zs) (h2 : Hp w' (.slice s2.ao s2.n s2.c) z2) (hs : s2 = s1 ∨ Fresh C (.slice s2.ao s2.n s2.c) z2) (hle : B ≤ C) : Fresh B (.slice s2.ao s2.n s2.c) z2 := by
  rcases hs with rfl | h
  · rcases f with rfl | h'
    · left
      have e1 := h1.len
      have e2 := h2.len
      exact List.length_eq_zero_iff.mp (by simp at e1; omega)
    · exact .inr h'
  · exact h.mono hle
theorem wpLS_stX {ops : Array Oper} {S : World → Prop} {Q : Exit → Act → World → Prop} {op : Oper} {rest : List Oper} {act : Act} {w : World} (hgd : op.guard = none) (hdst : op.dst = none) (t : TypeId) (a b : Operand) (ho : op.op = .store t a b) (g : Nat) (hx : act.eval a = .pointer (some ⟨g, 0, none⟩)) (u : Value) (hy : act.eval b = u)
    {ty : TypeId} {cs : List Value} (h : HasC w g ty cs) (xs : List Value) (hu : u.cells = xs.toArray) (hl : cs.length = xs.length) (h1 : ∀ v ∈ xs, v.oneCell' = true) (hi : (Tryz.prog.info? t).map (·.size) = some xs.length)
    (hk : ∀ w', HasC w' g ty xs → Kept g w w' → S w' ∧ wpLS Tryz.prog ops Q S rest act w') : wpLS Tryz.prog ops Q S (op :: rest) act w := by
  have hs := h.store 0 xs t u hu (by omega) h1 hi
  have hc : cs.take 0 ++ xs ++ cs.drop (0 + xs.length) = xs := by rw [List.take_zero, List.nil_append, List.drop_of_length_le (by omega), List.append_nil]
  rw [hc] at hs
  have hr : (execOp act.eval op).run Tryz.prog w = .ok .skip (putO w g (.cells xs.toArray ty (0, 0))) := by
    unfold execOp
    simp only [ho, hx, hy, hs, Sem.run_bind, Sem.run_pure, Result.andThen_ok]
  obtain ⟨h1, h2⟩ := hk _ (putO_same h) (Kept.put _ _ _)
  exact wpLS_skip hgd hr hdst h1 h2
theorem zeroS_lit : #[Value.bool false, .int .i64 0, Value.bool false, .int .i64 0, Value.bool false, .int .i64 0, Value.bool false, .int .i64 0, Value.bool false, .int .i64 0, Value.bool false, .int .i64 0, Value.bool false, .int .i64 0, Value.bool false, .int .i64 0, Value.bool false, .int .i64 0, Value.bool false, .int .i64 0, Value.bool false, .int .i64 0, Value.bool false, .int .i64 0, Value.bool false, .int .i64 0, Value.bool false, .int .i64 0, Value.bool false, .int .i64 0, Value.bool false, .int .i64 0, Value.bool false, .int .i64 0, Value.bool false, .int .i64 0, Value.bool false, .int .i64 0, Value.bool false, .int .i64 0, Value.bool false, .int .i64 0, Value.bool false, .int .i64 0, Value.bool false, .int .i64 0, Value.bool false, .int .i64 0, .slice none 0 0, .int .i64 0, .int .i64 0] = (cellsS noWs nilS 0 0).toArray := by kernel_rfl
set_option maxHeartbeats 16000000 in
set_option maxRecDepth 100000 in
theorem stepDo_bad (v : Value) (f : List I) (m : Mc) (s : Sl) (az : List Int) (va : Value) (w : World) (hl : Laid w) (hf : FunAt w v f) (hp : Hp w (.slice s.ao s.n s.c) m.h) (_ha : Hp w va az) (hm : mcB f m = false) :
    Calls Tryz.prog 27 #[v, .agg (cellsS m.l s m.p m.q).toArray, va] w fun e w' => e = .returned (.tuple #[.agg (cellsS noWs nilS 0 0).toArray, .slice none 0 0, .agg (outC 0 0 nilS).toArray, .int .i64 1]) ∧ New w w' := by
  obtain ⟨l, zs, p, q⟩ := m
  have HL := Lib.hid hl
  have HF := Lib.hid hf
  have HP := Lib.hid hp
  have T6 : Hid True := Lib.hid trivial
  have T15 : Hid True := Lib.hid trivial
  have hzS := zeroS_lit
  clear hl hf hp
  go_enter Tryz.func27, Tryz.ntmps27
  go_wp2_with (first
    | (refine wpList_boxX rfl 75 (.tmp 1) rfl (cellsS l s p q) rfl ?_; intro w1 g4 hg4 hl4 H4 hn1; have A4 := Lib.hid H4; clear H4)
    | (clear T6; refine wpList_alX rfl 75 rfl _ zeroS_run _ rfl ?_; intro w2 g6 hg6 hl6 H6 hn2; have A6 : Hid (HasS w2 g6 noWs nilS 0 0) := Lib.hid H6; clear H6)
    | (refine wpList_alX rfl 85 rfl _ zeroO_run _ rfl ?_; intro w3 g8 hg8 hl8 H8 hn3; have FD : Hid (Fd w w3 g4 g6 g8 l s p q) := Lib.hid ⟨HasC.new (HasC.new A4.out hn2) hn3, HasC.new A6.out hn3, H8, (hn1.trans hn2).trans hn3⟩; have d46 : g4 ≠ g6 := (by omega); have d48 : g4 ≠ g8 := (by omega); have d68 : g6 ≠ g8 := (by omega); have n4 : w.heap.size ≤ g4 := hg4; have n6 : w.heap.size ≤ g6 := Nat.le_trans hn1.size hg6; have n8 : w.heap.size ≤ g8 := Nat.le_trans (hn1.trans hn2).size hg8; clear H8 A4 A6 hg4 hg6 hg8 hl4 hl6 hl8 hn1 hn2 hn3)
    | (clear T15; refine wpList_ldS rfl (.tmp 4) rfl g4 rfl FD.out.st ?_)
    | (go_at_call 50; refine (stepRight_any _ f ⟨l, zs, p, q⟩ s _ (HL.out.new FD.out.new) (HF.out.new FD.out.new) (HP.out.new FD.out.new)).mono ?_; rw [hm]; rintro e w4 ⟨rfl, hn4⟩; replace FD := Lib.hid (FD.out.grow hn4); have c48 := HasS.hp FD.out.st; clear hn4)
    | (refine wpList_stS rfl rfl (.tmp 6) (.tmp 18) rfl g6 rfl (l := noWs) (s := nilS) (p := 0) (q := 0) (by exact congrArg Value.agg hzS) FD.out.res ?_; intro wz Hz kz)
    | (refine wpList_stO rfl rfl (.tmp 8) (.tmp 19) rfl g8 rfl (0) (0) nilS rfl (HasC.kept FD.out.out kz (Ne.symm d68)) ?_; intro wo Ho ko))
  refine bodyPost_ret (results_ctct (p := 6) (u := 7) (v := 8) (r := 9) rfl _ _ g6 g8 _ (.slice none 0 0) _ (.int .i64 1) rfl (loadVar_C (HasC.kept Hz ko d68) Tryz.underlying75 rfl (by rw [cellsS_len]; exact infoSt)) rfl rfl (loadVar_C Ho Tryz.underlying85 rfl infoOut) rfl) rfl ⟨rfl, ko.below _ n8 (kz.below _ n6 FD.out.new)⟩
set_option maxHeartbeats 16000000 in
set_option maxRecDepth 100000 in
theorem stepDo_in (ao : Option Addr) (n cap : Nat) (f : List I) (l : Ws) (zs : List Int) (p q : Int) (s : Sl) (az : List Int) (bo : Option Addr) (bn bc : Nat) (w : World) (hl : Laid w) (hf : FunAt w (.slice ao n cap) f) (hp : Hp w (.slice s.ao s.n s.c) zs) (ha : Hp w (.slice bo bn bc) az) (hal : bn ≤ 100000)
    (hm : mcB f ⟨l, zs, p, q⟩ = true) (o nn t : Int) (kd ka kb : Nat) (hkd : kd < 24) (hka : ka < 24) (hkb : kb < 24) (ho : 1 ≤ o ∧ o ≤ 18) (hx : insA f p = ⟨o, kd, ka, kb, nn, t⟩) :
    Calls Tryz.prog 27 #[.slice ao n cap, .agg (cellsS l s p q).toArray, .slice bo bn bc] w fun e w' => Dn w w' e (stp f ⟨l, zs, p, q⟩ az) := by
  have hmm := mc_iff.mp hm
  have hr := (right_iff.mp hmm.1).1
  have hp0 : 0 ≤ p := hmm.2.1
  have hpn : p < f.length := hmm.2.2.1
  have hp1 : p < 200 := by omega
  have hq0 : 0 ≤ q := hmm.2.2.2.2.1
  have h16 : s.n ≤ 16 := by
    have h1 : zs.length ≤ 16 := hmm.2.2.2.1
    have h2 := hp.len
    omega
  obtain ⟨fb, fo, x, ex, hix, hrg⟩ := FunAt.ix hf (i := p.toNat) (by have := hf.len; omega)
  rw [show ((p.toNat : Nat) : Int) = p from by omega] at hix
  have hxe : x = ⟨o, kd, ka, kb, nn, t⟩ := by
    rw [← hx]
    unfold insA
    rw [List.getD_eq_getElem?_getD, ex]
    rfl
  subst hxe
  have HL := Lib.hid hl
  have HF := Lib.hid hf
  have HP := Lib.hid hp
  have HA := Lib.hid ha
  have HX := Lib.hid hrg
  have HIX := Lib.hid hx
  have HPL : Hid (0 ≤ (ka : Int) ∧ (ka : Int) < 24 ∧ 0 ≤ (kb : Int) ∧ (kb : Int) < 24) := Lib.hid (by omega)
  have T6 : Hid True := Lib.hid trivial
  have T15 : Hid True := Lib.hid trivial
  have hka' : (ka : Int) < 24 := by omega
  have HO := Lib.hid ho
  clear hl hf hp ha hrg ex hmm hr hpn hx ho
  cases hk : knwB ⟨o, kd, ka, kb, nn, t⟩ l with
  | false =>
    have HT : Hid (stp f ⟨l, zs, p, q⟩ az = ⟨⟨l, zs, p, q⟩, [], 2, 0, []⟩) := Lib.hid (by unfold stp; simp only [HIX.out]; rw [if_pos hk])
    go_enter Tryz.func27, Tryz.ntmps27
    go_wp2_with (first
      | (refine wpList_boxX rfl 75 (.tmp 1) rfl (cellsS l s p q) rfl ?_; intro w1 g4 hg4 hl4 H4 hn1; have A4 := Lib.hid H4; clear H4)
      | (clear T6; refine wpList_alX rfl 75 rfl _ zeroS_run _ rfl ?_; intro w2 g6 hg6 hl6 H6 hn2; have A6 : Hid (HasS w2 g6 noWs nilS 0 0) := Lib.hid H6; clear H6)
      | (refine wpList_alX rfl 85 rfl _ zeroO_run _ rfl ?_; intro w3 g8 hg8 hl8 H8 hn3; have FD : Hid (Fd w w3 g4 g6 g8 l s p q) := Lib.hid ⟨HasC.new (HasC.new A4.out hn2) hn3, HasC.new A6.out hn3, H8, (hn1.trans hn2).trans hn3⟩; have d46 : g4 ≠ g6 := (by omega); have d48 : g4 ≠ g8 := (by omega); have d68 : g6 ≠ g8 := (by omega); have n4 : w.heap.size ≤ g4 := hg4; have n6 : w.heap.size ≤ g6 := Nat.le_trans hn1.size hg6; have n8 : w.heap.size ≤ g8 := Nat.le_trans (hn1.trans hn2).size hg8; clear H8 A4 A6 hg4 hg6 hg8 hl4 hl6 hl8 hn1 hn2 hn3)
      | (clear T15; refine wpList_ldS rfl (.tmp 4) rfl g4 rfl FD.out.st ?_)
      | (go_at_call 50; refine (stepRight_any _ f ⟨l, zs, p, q⟩ s _ (HL.out.new FD.out.new) (HF.out.new FD.out.new) (HP.out.new FD.out.new)).mono ?_; rw [hm]; rintro e w4 ⟨rfl, hn4⟩; replace FD := Lib.hid (FD.out.grow hn4); have c48 := HasS.hp FD.out.st; clear hn4)
      | (go_at_call 51; have b4 := HasC.lt FD.out.st; have b6 := HasC.lt FD.out.res; have b8 := HasC.lt FD.out.out; refine (copied_any (s := s) (HP.out.new FD.out.new) h16).mono ?_; rintro e w5 ⟨s1, rfl, hv, hn5, hf⟩; replace FD := Lib.hid (FD.out.grow hn5); have HV := Lib.hid hv; have HFr := Lib.hid hf; clear hv hf hn5)
      | (refine wpList_stHp rfl rfl (.tmp 23) (.tmp 22) rfl g4 rfl s1 rfl FD.out.st ?_; intro w6 H6 k6; replace HV := Lib.hid (Hp.far HV.out HFr.out b4 k6.other); replace FD : Hid (Fd w w6 g4 g6 g8 l s1 p q) := Lib.hid ⟨H6, HasC.kept FD.out.res k6 (Ne.symm d46), HasC.kept FD.out.out k6 (Ne.symm d48), k6.below _ n4 FD.out.new⟩; have c49 := HasS.at FD.out.st; clear H6 k6)
      | (refine wpList_ldE rfl (.tmp 27) rfl fb fo rfl (HX.out _ FD.out.new) ?_)
      | (refine wpList_alX rfl 79 rfl _ Tryz.zeroValue79 [.int .i64 0, .int .i64 0, .int .i64 0, .int .i64 0, .int .i64 0, .int .i64 0] rfl ?_; intro w7 g10 hg10 hl10 H10 hn7; have I10 := Lib.hid H10; have d10 : g6 < g10 ∧ g8 < g10 := ⟨Nat.lt_of_lt_of_le (HasC.lt FD.out.res) hg10, Nat.lt_of_lt_of_le (HasC.lt FD.out.out) hg10⟩; clear H10)
      | (refine wpList_stX rfl rfl 79 (.tmp 10) (.tmp 28) rfl g10 0 rfl _ rfl I10.out (cells6 ⟨o, kd, ka, kb, nn, t⟩) rfl (by simp [cells6]) (by simp [cells6, Value.oneCell']) (by rw [cells6_len]; exact infoI) (cs' := cells6 ⟨o, kd, ka, kb, nn, t⟩) (by simp [cells6]) ?_; intro w8 H8 k8; have hn8 : New w6 w8 := k8.below w6 hg10 hn7; replace FD := Lib.hid (FD.out.grow hn8); replace HV := Lib.hid (HV.out.new hn8); replace I10 : Hid (Has w8 g10 ⟨o, kd, ka, kb, nn, t⟩) := Lib.hid H8; clear H8 k8 hn8 hn7 hl10 hg10)
      | (refine wpList_ldS rfl (.tmp 4) rfl g4 rfl FD.out.st ?_)
      | (refine wpList_ldI rfl (.tmp 10) rfl g10 rfl I10.out ?_)
      | (go_at_call 52; refine (knowns_any l s1 p q ⟨o, kd, ka, kb, nn, t⟩ HPL.out _ (HL.out.new FD.out.new)).mono ?_; rw [hk]; rintro e w9 ⟨rfl, hn9⟩; replace FD := Lib.hid (FD.out.grow hn9); replace HV := Lib.hid (HV.out.new hn9); replace I10 := Lib.hid (I10.out.new hn9); clear hn9)
      | (refine wpList_stS rfl rfl (.tmp 6) (.tmp 33) rfl g6 rfl rfl FD.out.res ?_; intro wz Hz kz)
      | (refine wpList_stO rfl rfl (.tmp 8) (.tmp 34) rfl g8 rfl (2) (0) nilS rfl (HasC.kept FD.out.out kz (Ne.symm d68)) ?_; intro wo Ho ko))
    exact bodyPost_ret (results_ctct (p := 6) (u := 7) (v := 8) (r := 9) rfl _ _ g6 g8 _ (.slice none 0 0) _ (.int .i64 0) rfl (loadVar_C (HasC.kept Hz ko d68) Tryz.underlying75 rfl (by rw [cellsS_len]; exact infoSt)) rfl rfl (loadVar_C Ho Tryz.underlying85 rfl infoOut) rfl) rfl (Dn.of HT.out (Hp.far (Hp.far HV.out HFr.out b6 kz.other) HFr.out b8 ko.other) (EvAt.nil _) (Hp.nil _) (ko.below _ n8 (kz.below _ n6 FD.out.new)) (HFr.out.mono (Nat.le_trans n6 (Nat.le_of_lt b6))) (.inl rfl) (.inl rfl))
  | true =>
    obtain ⟨⟨⟨l2, z2, p2, q2⟩, es, how⟩, HR⟩ : ∃ r, Hid (flw ⟨o, kd, ka, kb, nn, t⟩ ⟨l, zs, p, q⟩ az = r) := ⟨_, Lib.hid rfl⟩
    by_cases h0 : how = 0
    · have q0 : (how == 0) = true := beq_of h0
      have HT : Hid (stp f ⟨l, zs, p, q⟩ az = ⟨⟨l2, z2, p2, q2⟩, es, 0, 0, []⟩) := Lib.hid (by unfold stp; simp only [HIX.out]; rw [if_neg (by rw [hk]; decide), HR.out, if_pos h0])
      clear h0
      go_enter Tryz.func27, Tryz.ntmps27
      go_wp2_with (first
        | (refine wpList_boxX rfl 75 (.tmp 1) rfl (cellsS l s p q) rfl ?_; intro w1 g4 hg4 hl4 H4 hn1; have A4 := Lib.hid H4; clear H4)
        | (clear T6; refine wpList_alX rfl 75 rfl _ zeroS_run _ rfl ?_; intro w2 g6 hg6 hl6 H6 hn2; have A6 : Hid (HasS w2 g6 noWs nilS 0 0) := Lib.hid H6; clear H6)
        | (refine wpList_alX rfl 85 rfl _ zeroO_run _ rfl ?_; intro w3 g8 hg8 hl8 H8 hn3; have FD : Hid (Fd w w3 g4 g6 g8 l s p q) := Lib.hid ⟨HasC.new (HasC.new A4.out hn2) hn3, HasC.new A6.out hn3, H8, (hn1.trans hn2).trans hn3⟩; have d46 : g4 ≠ g6 := (by omega); have d48 : g4 ≠ g8 := (by omega); have d68 : g6 ≠ g8 := (by omega); have n4 : w.heap.size ≤ g4 := hg4; have n6 : w.heap.size ≤ g6 := Nat.le_trans hn1.size hg6; have n8 : w.heap.size ≤ g8 := Nat.le_trans (hn1.trans hn2).size hg8; clear H8 A4 A6 hg4 hg6 hg8 hl4 hl6 hl8 hn1 hn2 hn3)
        | (clear T15; refine wpList_ldS rfl (.tmp 4) rfl g4 rfl FD.out.st ?_)
        | (go_at_call 50; refine (stepRight_any _ f ⟨l, zs, p, q⟩ s _ (HL.out.new FD.out.new) (HF.out.new FD.out.new) (HP.out.new FD.out.new)).mono ?_; rw [hm]; rintro e w4 ⟨rfl, hn4⟩; replace FD := Lib.hid (FD.out.grow hn4); have c48 := HasS.hp FD.out.st; clear hn4)
        | (go_at_call 51; have b4 := HasC.lt FD.out.st; have b6 := HasC.lt FD.out.res; have b8 := HasC.lt FD.out.out; refine (copied_any (s := s) (HP.out.new FD.out.new) h16).mono ?_; rintro e w5 ⟨s1, rfl, hv, hn5, hf⟩; replace FD := Lib.hid (FD.out.grow hn5); have HV := Lib.hid hv; have HFr := Lib.hid hf; have Z5 := Lib.hid hn5.size; clear hv hf hn5)
        | (refine wpList_stHp rfl rfl (.tmp 23) (.tmp 22) rfl g4 rfl s1 rfl FD.out.st ?_; intro w6 H6 k6; replace HV := Lib.hid (Hp.far HV.out HFr.out b4 k6.other); replace FD : Hid (Fd w w6 g4 g6 g8 l s1 p q) := Lib.hid ⟨H6, HasC.kept FD.out.res k6 (Ne.symm d46), HasC.kept FD.out.out k6 (Ne.symm d48), k6.below _ n4 FD.out.new⟩; have c49 := HasS.at FD.out.st; have Z6 := Lib.hid k6.size; clear H6 k6)
        | (refine wpList_ldE rfl (.tmp 27) rfl fb fo rfl (HX.out _ FD.out.new) ?_)
        | (refine wpList_alX rfl 79 rfl _ Tryz.zeroValue79 [.int .i64 0, .int .i64 0, .int .i64 0, .int .i64 0, .int .i64 0, .int .i64 0] rfl ?_; intro w7 g10 hg10 hl10 H10 hn7; have I10 := Lib.hid H10; have d10 : g6 < g10 ∧ g8 < g10 := ⟨Nat.lt_of_lt_of_le (HasC.lt FD.out.res) hg10, Nat.lt_of_lt_of_le (HasC.lt FD.out.out) hg10⟩; clear H10)
        | (refine wpList_stX rfl rfl 79 (.tmp 10) (.tmp 28) rfl g10 0 rfl _ rfl I10.out (cells6 ⟨o, kd, ka, kb, nn, t⟩) rfl (by simp [cells6]) (by simp [cells6, Value.oneCell']) (by rw [cells6_len]; exact infoI) (cs' := cells6 ⟨o, kd, ka, kb, nn, t⟩) (by simp [cells6]) ?_; intro w8 H8 k8; have hn8 : New w6 w8 := k8.below w6 hg10 hn7; replace FD := Lib.hid (FD.out.grow hn8); replace HV := Lib.hid (HV.out.new hn8); replace I10 : Hid (Has w8 g10 ⟨o, kd, ka, kb, nn, t⟩) := Lib.hid H8; have Z8 := Lib.hid hn8.size; clear H8 k8 hn8 hn7 hl10 hg10)
        | (refine wpList_ldS rfl (.tmp 4) rfl g4 rfl FD.out.st ?_)
        | (refine wpList_ldI rfl (.tmp 10) rfl g10 rfl I10.out ?_)
        | (go_at_call 52; refine (knowns_any l s1 p q ⟨o, kd, ka, kb, nn, t⟩ HPL.out _ (HL.out.new FD.out.new)).mono ?_; rw [hk]; rintro e w9 ⟨rfl, hn9⟩; replace FD := Lib.hid (FD.out.grow hn9); replace HV := Lib.hid (HV.out.new hn9); replace I10 := Lib.hid (I10.out.new hn9); have Z9 := Lib.hid hn9.size; clear hn9)
        | (go_at_call 53; refine (follow_is hkd hka hkb hp0 hp1 hq0 HO.out HV.out (HA.out.new FD.out.new) hal HR.out).mono ?_; rintro e w10 ⟨s2, ve, rfl, hh2, hev, hn10, hs2, hfe⟩; have HS2 := Lib.hid (fresh_step HFr.out HV.out hh2 hs2 (by have := Z5.out; have := Z6.out; have := Z8.out; have := Z9.out; omega)); have HFE := Lib.hid (hfe.mono (B := w4.heap.size) (by have := Z5.out; have := Z6.out; have := Z8.out; have := Z9.out; omega)); replace FD := Lib.hid (FD.out.grow hn10); replace HV := Lib.hid (HV.out.new hn10); replace I10 := Lib.hid (I10.out.new hn10); have HH := Lib.hid hh2; have HE := Lib.hid hev; clear hh2 hev hfe hs2 hn10)
        | (refine wpList_alX rfl 75 rfl _ zeroS_run _ rfl ?_; intro w11 g11 hg11 hl11 H11 hn11; have B11 : Hid (HasS w11 g11 noWs nilS 0 0) := Lib.hid H11; clear H11)
        | (refine wpList_stS rfl rfl (.tmp 11) (.tmp 40) rfl g11 rfl (l := l2) (s := s2) (p := p2) (q := q2) rfl B11.out ?_; intro w12 H12 k12; have hn12 : New w10 w12 := k12.below w10 hg11 hn11; replace FD := Lib.hid (FD.out.grow hn12); replace HV := Lib.hid (HV.out.new hn12); replace I10 := Lib.hid (I10.out.new hn12); replace HH := Lib.hid (HH.out.new hn12); replace HE := Lib.hid (HE.out.new hn12); replace B11 : Hid (HasS w12 g11 l2 s2 p2 q2) := Lib.hid H12; clear H12 k12 hn12 hn11 hg11 hl11)
        | (refine wpList_ldS rfl (.tmp 11) rfl g11 rfl B11.out ?_)
        | (refine wpList_stS rfl rfl (.tmp 6) (.tmp 46) rfl g6 rfl rfl FD.out.res ?_; intro wz Hz kz)
        | (refine wpList_stO rfl rfl (.tmp 8) (.tmp 48) rfl g8 rfl (0) (0) nilS rfl (HasC.kept FD.out.out kz (Ne.symm d68)) ?_; intro wo Ho ko))
      exact bodyPost_ret (results_ctct (p := 6) (u := 7) (v := 8) (r := 9) rfl _ _ g6 g8 _ (ve) _ (.int .i64 0) rfl (loadVar_C (HasC.kept Hz ko d68) Tryz.underlying75 rfl (by rw [cellsS_len]; exact infoSt)) rfl rfl (loadVar_C Ho Tryz.underlying85 rfl infoOut) rfl) rfl (Dn.of HT.out (Hp.far (Hp.far HH.out HS2.out b6 kz.other) HS2.out b8 ko.other) (EvAt.far (EvAt.far HE.out HFE.out b6 kz.other) HFE.out b8 ko.other) (Hp.nil _) (ko.below _ n8 (kz.below _ n6 FD.out.new)) (HS2.out.mono (Nat.le_trans n6 (Nat.le_of_lt b6))) (HFE.out.mono (Nat.le_trans n6 (Nat.le_of_lt b6))) (.inl rfl))
    · have q0 : (how == 0) = false := bneq_of h0
      by_cases h1 : how = 1
      · have q1 : (how == 1) = true := beq_of h1
        have HT : Hid (stp f ⟨l, zs, p, q⟩ az = ⟨⟨l, zs, p, q⟩, [], how, (l ka).2, zs⟩) := Lib.hid (by unfold stp; simp only [HIX.out]; rw [if_neg (by rw [hk]; decide), HR.out, if_neg h0, if_pos h1, h1]; rfl)
        clear h0 h1
        go_enter Tryz.func27, Tryz.ntmps27
        go_wp2_with (first
          | (refine wpList_boxX rfl 75 (.tmp 1) rfl (cellsS l s p q) rfl ?_; intro w1 g4 hg4 hl4 H4 hn1; have A4 := Lib.hid H4; clear H4)
          | (clear T6; refine wpList_alX rfl 75 rfl _ zeroS_run _ rfl ?_; intro w2 g6 hg6 hl6 H6 hn2; have A6 : Hid (HasS w2 g6 noWs nilS 0 0) := Lib.hid H6; clear H6)
          | (refine wpList_alX rfl 85 rfl _ zeroO_run _ rfl ?_; intro w3 g8 hg8 hl8 H8 hn3; have FD : Hid (Fd w w3 g4 g6 g8 l s p q) := Lib.hid ⟨HasC.new (HasC.new A4.out hn2) hn3, HasC.new A6.out hn3, H8, (hn1.trans hn2).trans hn3⟩; have d46 : g4 ≠ g6 := (by omega); have d48 : g4 ≠ g8 := (by omega); have d68 : g6 ≠ g8 := (by omega); have n4 : w.heap.size ≤ g4 := hg4; have n6 : w.heap.size ≤ g6 := Nat.le_trans hn1.size hg6; have n8 : w.heap.size ≤ g8 := Nat.le_trans (hn1.trans hn2).size hg8; clear H8 A4 A6 hg4 hg6 hg8 hl4 hl6 hl8 hn1 hn2 hn3)
          | (clear T15; refine wpList_ldS rfl (.tmp 4) rfl g4 rfl FD.out.st ?_)
          | (go_at_call 50; refine (stepRight_any _ f ⟨l, zs, p, q⟩ s _ (HL.out.new FD.out.new) (HF.out.new FD.out.new) (HP.out.new FD.out.new)).mono ?_; rw [hm]; rintro e w4 ⟨rfl, hn4⟩; replace FD := Lib.hid (FD.out.grow hn4); have c48 := HasS.hp FD.out.st; clear hn4)
          | (go_at_call 51; have b4 := HasC.lt FD.out.st; have b6 := HasC.lt FD.out.res; have b8 := HasC.lt FD.out.out; refine (copied_any (s := s) (HP.out.new FD.out.new) h16).mono ?_; rintro e w5 ⟨s1, rfl, hv, hn5, hf⟩; replace FD := Lib.hid (FD.out.grow hn5); have HV := Lib.hid hv; have HFr := Lib.hid hf; have Z5 := Lib.hid hn5.size; clear hv hf hn5)
          | (refine wpList_stHp rfl rfl (.tmp 23) (.tmp 22) rfl g4 rfl s1 rfl FD.out.st ?_; intro w6 H6 k6; replace HV := Lib.hid (Hp.far HV.out HFr.out b4 k6.other); replace FD : Hid (Fd w w6 g4 g6 g8 l s1 p q) := Lib.hid ⟨H6, HasC.kept FD.out.res k6 (Ne.symm d46), HasC.kept FD.out.out k6 (Ne.symm d48), k6.below _ n4 FD.out.new⟩; have c49 := HasS.at FD.out.st; have Z6 := Lib.hid k6.size; clear H6 k6)
          | (refine wpList_ldE rfl (.tmp 27) rfl fb fo rfl (HX.out _ FD.out.new) ?_)
          | (refine wpList_alX rfl 79 rfl _ Tryz.zeroValue79 [.int .i64 0, .int .i64 0, .int .i64 0, .int .i64 0, .int .i64 0, .int .i64 0] rfl ?_; intro w7 g10 hg10 hl10 H10 hn7; have I10 := Lib.hid H10; have d10 : g6 < g10 ∧ g8 < g10 := ⟨Nat.lt_of_lt_of_le (HasC.lt FD.out.res) hg10, Nat.lt_of_lt_of_le (HasC.lt FD.out.out) hg10⟩; clear H10)
          | (refine wpList_stX rfl rfl 79 (.tmp 10) (.tmp 28) rfl g10 0 rfl _ rfl I10.out (cells6 ⟨o, kd, ka, kb, nn, t⟩) rfl (by simp [cells6]) (by simp [cells6, Value.oneCell']) (by rw [cells6_len]; exact infoI) (cs' := cells6 ⟨o, kd, ka, kb, nn, t⟩) (by simp [cells6]) ?_; intro w8 H8 k8; have hn8 : New w6 w8 := k8.below w6 hg10 hn7; replace FD := Lib.hid (FD.out.grow hn8); replace HV := Lib.hid (HV.out.new hn8); replace I10 : Hid (Has w8 g10 ⟨o, kd, ka, kb, nn, t⟩) := Lib.hid H8; have Z8 := Lib.hid hn8.size; clear H8 k8 hn8 hn7 hl10 hg10)
          | (refine wpList_ldS rfl (.tmp 4) rfl g4 rfl FD.out.st ?_)
          | (refine wpList_ldI rfl (.tmp 10) rfl g10 rfl I10.out ?_)
          | (go_at_call 52; refine (knowns_any l s1 p q ⟨o, kd, ka, kb, nn, t⟩ HPL.out _ (HL.out.new FD.out.new)).mono ?_; rw [hk]; rintro e w9 ⟨rfl, hn9⟩; replace FD := Lib.hid (FD.out.grow hn9); replace HV := Lib.hid (HV.out.new hn9); replace I10 := Lib.hid (I10.out.new hn9); have Z9 := Lib.hid hn9.size; clear hn9)
          | (go_at_call 53; refine (follow_is hkd hka hkb hp0 hp1 hq0 HO.out HV.out (HA.out.new FD.out.new) hal HR.out).mono ?_; rintro e w10 ⟨s2, ve, rfl, hh2, hev, hn10, hs2, hfe⟩; have HS2 := Lib.hid (fresh_step HFr.out HV.out hh2 hs2 (by have := Z5.out; have := Z6.out; have := Z8.out; have := Z9.out; omega)); have HFE := Lib.hid (hfe.mono (B := w4.heap.size) (by have := Z5.out; have := Z6.out; have := Z8.out; have := Z9.out; omega)); replace FD := Lib.hid (FD.out.grow hn10); replace HV := Lib.hid (HV.out.new hn10); replace I10 := Lib.hid (I10.out.new hn10); have HH := Lib.hid hh2; have HE := Lib.hid hev; clear hh2 hev hfe hs2 hn10)
          | (refine wpList_alX rfl 75 rfl _ zeroS_run _ rfl ?_; intro w11 g11 hg11 hl11 H11 hn11; have B11 : Hid (HasS w11 g11 noWs nilS 0 0) := Lib.hid H11; clear H11)
          | (refine wpList_stS rfl rfl (.tmp 11) (.tmp 40) rfl g11 rfl (l := l2) (s := s2) (p := p2) (q := q2) rfl B11.out ?_; intro w12 H12 k12; have hn12 : New w10 w12 := k12.below w10 hg11 hn11; replace FD := Lib.hid (FD.out.grow hn12); replace HV := Lib.hid (HV.out.new hn12); replace I10 := Lib.hid (I10.out.new hn12); replace HH := Lib.hid (HH.out.new hn12); replace HE := Lib.hid (HE.out.new hn12); replace B11 : Hid (HasS w12 g11 l2 s2 p2 q2) := Lib.hid H12; clear H12 k12 hn12 hn11 hg11 hl11)
          | (refine wpList_ldS rfl (.tmp 11) rfl g11 rfl B11.out ?_))
        have S0 : Hid (HasS w12.drew g4 l s1 p q ∧ Has w12.drew g10 ⟨o, kd, ka, kb, nn, t⟩) := Lib.hid ⟨HasC.new FD.out.st ((New.refl w12).drew), I10.out.new ((New.refl w12).drew)⟩
        refine wp_region_noPanic ?_
        refine wp_region_held_drew (S := fun w' => HasS w' g4 l s1 p q ∧ Has w' g10 ⟨o, kd, ka, kb, nn, t⟩) (by kernel_rfl) S0.out (fun _ => ?_)
        refine wpAnyH_take (i := 0) (v := .agg (cellsS l s1 p q).toArray) rfl (by kernel_rfl) (by kernel_rfl) (by kernel_rfl) (fun _ _ _ h => h) (yieldsIf_load_mid (by rfl) _ _ rfl g4 0 rfl (cellsS l s1 p q) _ (fun w' h => HasC.all h.1) Tryz.underlying75 rfl (by rw [cellsS_len]; exact infoSt)) S0.out ?_
        simp only [List.getElem_toArray, List.getElem_cons_zero, Act.put, List.setIfInBounds_toArray, List.set_cons_zero, List.set_cons_succ]
        refine wpAnyH_take (i := 1) (v := .int .i64 how) rfl (by kernel_rfl) (by kernel_rfl) (by kernel_rfl) (fun _ _ _ h => h) (Or.inl ⟨rfl, fun _ _ => rfl⟩) S0.out ?_
        simp only [List.getElem_toArray, List.getElem_cons_zero, List.getElem_cons_succ, Act.put, List.setIfInBounds_toArray, List.set_cons_zero, List.set_cons_succ]
        refine wpAnyH_take (i := 2) (v := .pointer (some ⟨g10, 2, none⟩)) rfl (by kernel_rfl) (by kernel_rfl) (by kernel_rfl) (fun _ _ _ h => h) (Or.inl ⟨rfl, fun _ _ => by go_simp⟩) S0.out ?_
        simp only [List.getElem_toArray, List.getElem_cons_zero, List.getElem_cons_succ, Act.put, List.setIfInBounds_toArray, List.set_cons_zero, List.set_cons_succ]
        refine wpAnyH_take (i := 3) (v := .int .i64 (ka : Int)) rfl (by kernel_rfl) (by kernel_rfl) (by kernel_rfl) (fun _ _ _ h => h) (ldC_if rfl 3 Tryz.isAgg3 (.tmp 53) rfl ⟨g10, 2, none⟩ rfl (fun w' h => h.2.cell.2.2.1)) S0.out ?_
        simp only [List.getElem_toArray, List.getElem_cons_zero, List.getElem_cons_succ, Act.put, List.setIfInBounds_toArray, List.set_cons_zero, List.set_cons_succ]
        refine wpAnyH_take (i := 4) (v := .pointer (some ⟨g4, 0, none⟩)) rfl (by kernel_rfl) (by kernel_rfl) (by kernel_rfl) (fun _ _ _ h => h) (Or.inl ⟨rfl, fun _ _ => by go_simp⟩) S0.out ?_
        simp only [List.getElem_toArray, List.getElem_cons_zero, List.getElem_cons_succ, Act.put, List.setIfInBounds_toArray, List.set_cons_zero, List.set_cons_succ]
        refine wpAnyH_take (i := 5) (v := .pointer (some ⟨g4, ka * 2, none⟩)) rfl (by kernel_rfl) (by kernel_rfl) (by kernel_rfl) (fun _ _ _ h => h) (ixA_if rfl (.tmp 55) (.tmp 54) rfl g4 ka hka rfl rfl) S0.out ?_
        simp only [List.getElem_toArray, List.getElem_cons_zero, List.getElem_cons_succ, Act.put, List.setIfInBounds_toArray, List.set_cons_zero, List.set_cons_succ]
        refine wpAnyH_take (i := 6) (v := .pointer (some ⟨g4, ka * 2 + 1, none⟩)) rfl (by kernel_rfl) (by kernel_rfl) (by kernel_rfl) (fun _ _ _ h => h) (Or.inl ⟨rfl, fun _ _ => by go_simp⟩) S0.out ?_
        simp only [List.getElem_toArray, List.getElem_cons_zero, List.getElem_cons_succ, Act.put, List.setIfInBounds_toArray, List.set_cons_zero, List.set_cons_succ]
        refine wpAnyH_take (i := 7) (v := .int .i64 (l ka).2) rfl (by kernel_rfl) (by kernel_rfl) (by kernel_rfl) (fun _ _ _ h => h) (ldC_if rfl 2 Tryz.isAgg2 (.tmp 57) rfl ⟨g4, ka * 2 + 1, none⟩ rfl (fun w' h => HasS.num h.1 hka)) S0.out ?_
        simp only [List.getElem_toArray, List.getElem_cons_zero, List.getElem_cons_succ, Act.put, List.setIfInBounds_toArray, List.set_cons_zero, List.set_cons_succ]
        refine wpAnyH_take (i := 8) (v := .pointer (some ⟨g4, 48, none⟩)) rfl (by kernel_rfl) (by kernel_rfl) (by kernel_rfl) (fun _ _ _ h => h) (Or.inl ⟨rfl, fun _ _ => by go_simp⟩) S0.out ?_
        simp only [List.getElem_toArray, List.getElem_cons_zero, List.getElem_cons_succ, Act.put, List.setIfInBounds_toArray, List.set_cons_zero, List.set_cons_succ]
        refine wpAnyH_take (i := 9) (v := .slice s1.ao s1.n s1.c) rfl (by kernel_rfl) (by kernel_rfl) (by kernel_rfl) (fun _ _ _ h => h) (ldC_if rfl 67 Tryz.isAgg67 (.tmp 59) rfl ⟨g4, 48, none⟩ rfl (fun w' h => HasS.hp h.1)) S0.out ?_
        simp only [List.getElem_toArray, List.getElem_cons_zero, List.getElem_cons_succ, Act.put, List.setIfInBounds_toArray, List.set_cons_zero, List.set_cons_succ]
        have b61 : g6 < w12.drew.heap.size := HasC.lt FD.out.res
        have b81 : g8 < w12.drew.heap.size := HasC.lt FD.out.out
        refine wpAnyH_call (i := 10) rfl rfl (by kernel_rfl) 51 #[.slice s1.ao s1.n s1.c] (by go_simp) ?_
        refine (copied_any (s := s1) (HV.out.new ((New.refl w12).drew)) (by have h1 := HV.out.len; have h2 := HP.out.len; omega)).mono ?_
        rintro e w13 ⟨s3, rfl, hv3, hn13, hf3⟩
        have N13 := Lib.hid (((New.refl w12).drew).trans hn13)
        replace S0 : Hid (HasS w13 g4 l s1 p q ∧ Has w13 g10 ⟨o, kd, ka, kb, nn, t⟩) := Lib.hid ⟨HasC.new S0.out.1 hn13, S0.out.2.new hn13⟩
        refine ⟨_, rfl, S0.out, ?_⟩
        simp only [List.getElem_toArray, List.getElem_cons_zero, List.getElem_cons_succ, Act.put, List.setIfInBounds_toArray, List.set_cons_zero, List.set_cons_succ]
        refine wpAnyH_take (i := 11) (v := .agg (outC how (l ka).2 s3).toArray) rfl (by kernel_rfl) (by kernel_rfl) (by kernel_rfl) (fun _ _ _ h => h) (Or.inl ⟨rfl, fun _ _ => by go_simp; rfl⟩) S0.out ?_
        simp only [List.getElem_toArray, List.getElem_cons_zero, List.getElem_cons_succ, Act.put, List.setIfInBounds_toArray, List.set_cons_zero, List.set_cons_succ]
        refine wpAnyH_forced [12, 13, 14, 15] _ _ _ S0.out (by kernel_rfl) (by simp) ?_
        simp only [List.map_cons, List.map_nil, Array.getD_eq_getD_getElem?, List.getElem?_toArray, List.getElem?_cons_succ, List.getElem?_cons_zero, Option.getD_some]
        replace FD := Lib.hid (FD.out.grow N13.out)
        refine wpLS_stX rfl rfl 75 (.tmp 6) (.tmp 51) rfl g6 rfl _ rfl FD.out.res (cellsS l s1 p q) rfl (by rw [cellsS_len, cellsS_len]) (cellsS_one l s1 p q) (by rw [cellsS_len]; exact infoSt) ?_
        intro wz Hz kz
        have dg10 : g10 ≠ g6 := Nat.ne_of_gt d10.1
        have dg8 : g10 ≠ g8 := Nat.ne_of_gt d10.2
        have SZ : HasS wz g4 l s1 p q ∧ Has wz g10 ⟨o, kd, ka, kb, nn, t⟩ := ⟨HasC.kept S0.out.1 kz d46, (kz.other _ dg10).trans S0.out.2⟩
        refine ⟨SZ, ?_⟩
        refine wpLS_value rfl (.slice none 0 0) SZ (by go_simp) ?_
        simp only [Act.put, List.setIfInBounds_toArray, List.set_cons_zero, List.set_cons_succ]
        refine wpLS_stX rfl rfl 85 (.tmp 8) (.tmp 62) rfl g8 rfl _ rfl (HasC.kept FD.out.out kz (Ne.symm d68)) (outC how (l ka).2 s3) rfl (by simp [outC]) (by simp [outC, Value.oneCell']) infoOut ?_
        intro wo Ho ko
        have SO : HasS wo g4 l s1 p q ∧ Has wo g10 ⟨o, kd, ka, kb, nn, t⟩ := ⟨HasC.kept SZ.1 ko d48, (ko.other _ dg8).trans SZ.2⟩
        refine ⟨SO, ?_⟩
        refine wpLS_value rfl (.int .i64 0) SO (by go_simp) ?_
        simp only [Act.put, List.setIfInBounds_toArray, List.set_cons_zero, List.set_cons_succ]
        refine wpLS_nil ?_
        refine NoPanic.normal ?_
        go_wp2
        exact bodyPost_ret (results_ctct (p := 6) (u := 7) (v := 8) (r := 9) rfl _ _ g6 g8 _ (.slice none 0 0) _ (.int .i64 0) rfl (loadVar_C (HasC.kept Hz ko d68) Tryz.underlying75 rfl (by rw [cellsS_len]; exact infoSt)) rfl rfl (loadVar_C Ho Tryz.underlying85 rfl infoOut) rfl) rfl (Dn.of HT.out (Hp.far (Hp.far (HV.out.new N13.out) HFr.out b6 kz.other) HFr.out b8 ko.other) (EvAt.nil _) (Hp.far (Hp.far hv3 hf3 b61 kz.other) hf3 b81 ko.other) (ko.below _ n8 (kz.below _ n6 FD.out.new)) (HFr.out.mono (Nat.le_trans n6 (Nat.le_of_lt b6))) (.inl rfl) (hf3.mono (Nat.le_trans n6 (Nat.le_of_lt b61))))
      · have q1 : (how == 1) = false := bneq_of h1
        have HT : Hid (stp f ⟨l, zs, p, q⟩ az = ⟨⟨l, zs, p, q⟩, [], how, 0, []⟩) := Lib.hid (by unfold stp; simp only [HIX.out]; rw [if_neg (by rw [hk]; decide), HR.out, if_neg h0, if_neg h1])
        clear h0 h1
        go_enter Tryz.func27, Tryz.ntmps27
        go_wp2_with (first
          | (refine wpList_boxX rfl 75 (.tmp 1) rfl (cellsS l s p q) rfl ?_; intro w1 g4 hg4 hl4 H4 hn1; have A4 := Lib.hid H4; clear H4)
          | (clear T6; refine wpList_alX rfl 75 rfl _ zeroS_run _ rfl ?_; intro w2 g6 hg6 hl6 H6 hn2; have A6 : Hid (HasS w2 g6 noWs nilS 0 0) := Lib.hid H6; clear H6)
          | (refine wpList_alX rfl 85 rfl _ zeroO_run _ rfl ?_; intro w3 g8 hg8 hl8 H8 hn3; have FD : Hid (Fd w w3 g4 g6 g8 l s p q) := Lib.hid ⟨HasC.new (HasC.new A4.out hn2) hn3, HasC.new A6.out hn3, H8, (hn1.trans hn2).trans hn3⟩; have d46 : g4 ≠ g6 := (by omega); have d48 : g4 ≠ g8 := (by omega); have d68 : g6 ≠ g8 := (by omega); have n4 : w.heap.size ≤ g4 := hg4; have n6 : w.heap.size ≤ g6 := Nat.le_trans hn1.size hg6; have n8 : w.heap.size ≤ g8 := Nat.le_trans (hn1.trans hn2).size hg8; clear H8 A4 A6 hg4 hg6 hg8 hl4 hl6 hl8 hn1 hn2 hn3)
          | (clear T15; refine wpList_ldS rfl (.tmp 4) rfl g4 rfl FD.out.st ?_)
          | (go_at_call 50; refine (stepRight_any _ f ⟨l, zs, p, q⟩ s _ (HL.out.new FD.out.new) (HF.out.new FD.out.new) (HP.out.new FD.out.new)).mono ?_; rw [hm]; rintro e w4 ⟨rfl, hn4⟩; replace FD := Lib.hid (FD.out.grow hn4); have c48 := HasS.hp FD.out.st; clear hn4)
          | (go_at_call 51; have b4 := HasC.lt FD.out.st; have b6 := HasC.lt FD.out.res; have b8 := HasC.lt FD.out.out; refine (copied_any (s := s) (HP.out.new FD.out.new) h16).mono ?_; rintro e w5 ⟨s1, rfl, hv, hn5, hf⟩; replace FD := Lib.hid (FD.out.grow hn5); have HV := Lib.hid hv; have HFr := Lib.hid hf; have Z5 := Lib.hid hn5.size; clear hv hf hn5)
          | (refine wpList_stHp rfl rfl (.tmp 23) (.tmp 22) rfl g4 rfl s1 rfl FD.out.st ?_; intro w6 H6 k6; replace HV := Lib.hid (Hp.far HV.out HFr.out b4 k6.other); replace FD : Hid (Fd w w6 g4 g6 g8 l s1 p q) := Lib.hid ⟨H6, HasC.kept FD.out.res k6 (Ne.symm d46), HasC.kept FD.out.out k6 (Ne.symm d48), k6.below _ n4 FD.out.new⟩; have c49 := HasS.at FD.out.st; have Z6 := Lib.hid k6.size; clear H6 k6)
          | (refine wpList_ldE rfl (.tmp 27) rfl fb fo rfl (HX.out _ FD.out.new) ?_)
          | (refine wpList_alX rfl 79 rfl _ Tryz.zeroValue79 [.int .i64 0, .int .i64 0, .int .i64 0, .int .i64 0, .int .i64 0, .int .i64 0] rfl ?_; intro w7 g10 hg10 hl10 H10 hn7; have I10 := Lib.hid H10; have d10 : g6 < g10 ∧ g8 < g10 := ⟨Nat.lt_of_lt_of_le (HasC.lt FD.out.res) hg10, Nat.lt_of_lt_of_le (HasC.lt FD.out.out) hg10⟩; clear H10)
          | (refine wpList_stX rfl rfl 79 (.tmp 10) (.tmp 28) rfl g10 0 rfl _ rfl I10.out (cells6 ⟨o, kd, ka, kb, nn, t⟩) rfl (by simp [cells6]) (by simp [cells6, Value.oneCell']) (by rw [cells6_len]; exact infoI) (cs' := cells6 ⟨o, kd, ka, kb, nn, t⟩) (by simp [cells6]) ?_; intro w8 H8 k8; have hn8 : New w6 w8 := k8.below w6 hg10 hn7; replace FD := Lib.hid (FD.out.grow hn8); replace HV := Lib.hid (HV.out.new hn8); replace I10 : Hid (Has w8 g10 ⟨o, kd, ka, kb, nn, t⟩) := Lib.hid H8; have Z8 := Lib.hid hn8.size; clear H8 k8 hn8 hn7 hl10 hg10)
          | (refine wpList_ldS rfl (.tmp 4) rfl g4 rfl FD.out.st ?_)
          | (refine wpList_ldI rfl (.tmp 10) rfl g10 rfl I10.out ?_)
          | (go_at_call 52; refine (knowns_any l s1 p q ⟨o, kd, ka, kb, nn, t⟩ HPL.out _ (HL.out.new FD.out.new)).mono ?_; rw [hk]; rintro e w9 ⟨rfl, hn9⟩; replace FD := Lib.hid (FD.out.grow hn9); replace HV := Lib.hid (HV.out.new hn9); replace I10 := Lib.hid (I10.out.new hn9); have Z9 := Lib.hid hn9.size; clear hn9)
          | (go_at_call 53; refine (follow_is hkd hka hkb hp0 hp1 hq0 HO.out HV.out (HA.out.new FD.out.new) hal HR.out).mono ?_; rintro e w10 ⟨s2, ve, rfl, hh2, hev, hn10, hs2, hfe⟩; have HS2 := Lib.hid (fresh_step HFr.out HV.out hh2 hs2 (by have := Z5.out; have := Z6.out; have := Z8.out; have := Z9.out; omega)); have HFE := Lib.hid (hfe.mono (B := w4.heap.size) (by have := Z5.out; have := Z6.out; have := Z8.out; have := Z9.out; omega)); replace FD := Lib.hid (FD.out.grow hn10); replace HV := Lib.hid (HV.out.new hn10); replace I10 := Lib.hid (I10.out.new hn10); have HH := Lib.hid hh2; have HE := Lib.hid hev; clear hh2 hev hfe hs2 hn10)
          | (refine wpList_alX rfl 75 rfl _ zeroS_run _ rfl ?_; intro w11 g11 hg11 hl11 H11 hn11; have B11 : Hid (HasS w11 g11 noWs nilS 0 0) := Lib.hid H11; clear H11)
          | (refine wpList_stS rfl rfl (.tmp 11) (.tmp 40) rfl g11 rfl (l := l2) (s := s2) (p := p2) (q := q2) rfl B11.out ?_; intro w12 H12 k12; have hn12 : New w10 w12 := k12.below w10 hg11 hn11; replace FD := Lib.hid (FD.out.grow hn12); replace HV := Lib.hid (HV.out.new hn12); replace I10 := Lib.hid (I10.out.new hn12); replace HH := Lib.hid (HH.out.new hn12); replace HE := Lib.hid (HE.out.new hn12); replace B11 : Hid (HasS w12 g11 l2 s2 p2 q2) := Lib.hid H12; clear H12 k12 hn12 hn11 hg11 hl11)
          | (refine wpList_ldS rfl (.tmp 11) rfl g11 rfl B11.out ?_)
          | (refine wpList_stS rfl rfl (.tmp 6) (.tmp 63) rfl g6 rfl rfl FD.out.res ?_; intro wz Hz kz)
          | (refine wpList_stO rfl rfl (.tmp 8) (.tmp 65) rfl g8 rfl (how) (0) nilS rfl (HasC.kept FD.out.out kz (Ne.symm d68)) ?_; intro wo Ho ko))
        exact bodyPost_ret (results_ctct (p := 6) (u := 7) (v := 8) (r := 9) rfl _ _ g6 g8 _ (.slice none 0 0) _ (.int .i64 0) rfl (loadVar_C (HasC.kept Hz ko d68) Tryz.underlying75 rfl (by rw [cellsS_len]; exact infoSt)) rfl rfl (loadVar_C Ho Tryz.underlying85 rfl infoOut) rfl) rfl (Dn.of HT.out (Hp.far (Hp.far HV.out HFr.out b6 kz.other) HFr.out b8 ko.other) (EvAt.nil _) (Hp.nil _) (ko.below _ n8 (kz.below _ n6 FD.out.new)) (HFr.out.mono (Nat.le_trans n6 (Nat.le_of_lt b6))) (.inl rfl) (.inl rfl))
theorem stepDo_good (v : Value) (f : List I) (m : Mc) (s : Sl) (az : List Int) (va : Value) (w : World) (hl : Laid w) (hf : FunAt w v f) (hp : Hp w (.slice s.ao s.n s.c) m.h) (ha : Hp w va az) (hal : az.length ≤ 100000) (hm : mcB f m = true) :
    Calls Tryz.prog 27 #[v, .agg (cellsS m.l s m.p m.q).toArray, va] w fun e w' => Dn w w' e (stp f m az) := by
  obtain ⟨ao, cap, rfl⟩ := hf.form
  obtain ⟨bo, bc, rfl⟩ := ha.form
  obtain ⟨l, zs, p, q⟩ := m
  have hr := ri_at hm
  obtain ⟨⟨o, d, a, b, nn, t⟩, hx⟩ : ∃ x, insA f p = x := ⟨_, rfl⟩
  have hx' : insA f (Mc.p ⟨l, zs, p, q⟩) = ⟨o, d, a, b, nn, t⟩ := hx
  rw [hx'] at hr
  have h1 := hr.o1; have h2 := hr.o2; have h3 := hr.d0; have h4 := hr.d1; have h5 := hr.a0; have h6 := hr.a1; have h7 := hr.b0; have h8 := hr.b1
  simp only at h1 h2 h3 h4 h5 h6 h7 h8
  obtain ⟨kd, rfl⟩ : ∃ k : Nat, d = k := ⟨d.toNat, by omega⟩
  obtain ⟨ka, rfl⟩ : ∃ k : Nat, a = k := ⟨a.toNat, by omega⟩
  obtain ⟨kb, rfl⟩ : ∃ k : Nat, b = k := ⟨b.toNat, by omega⟩
  exact stepDo_in ao _ cap f l zs p q s az bo _ bc w hl hf hp ha hal hm o nn t kd ka kb (by omega) (by omega) (by omega) ⟨h1, h2⟩ hx
end Go.Proofs.YtphopkjgfkaihaaGreatDoor
