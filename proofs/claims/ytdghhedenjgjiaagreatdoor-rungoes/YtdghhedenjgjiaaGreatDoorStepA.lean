/-
  States of the machine in memory: their cells; loads and stores of a whole, of a word, of a field, at the operation.
-/
import Derived.Test.YtdghhedenjgjiaaGreatDoorCells
import Derived.Test.YtdghhedenjgjiaaGreatDoorWordMath
namespace Go.Proofs.YtdghhedenjgjiaaGreatDoor
open Go.RowKit

/-- A slice's value. -/
structure Sl where
  ao : Option Addr
  n : Nat
  c : Nat
def nilS : Sl := ⟨none, 0, 0⟩
def cellsS (l : Ws) (s : Sl) (p q : Int) : List Value := (cellsW l).toList ++ [.slice s.ao s.n s.c, .int .i64 p, .int .i64 q]
theorem cellsS_len (l : Ws) (s : Sl) (p q : Int) : (cellsS l s p q).length = 51 := by
  unfold cellsS
  rw [List.length_append, Array.length_toList, cellsW_size]
  rfl
theorem cellsS_tail (l : Ws) (s : Sl) (p q : Int) (j : Nat) : (cellsS l s p q)[48 + j]? = [.slice s.ao s.n s.c, .int .i64 p, .int .i64 q][j]? := by
  unfold cellsS
  rw [List.getElem?_append_right (by rw [Array.length_toList, cellsW_size]; omega), Array.length_toList, cellsW_size, Nat.add_sub_cancel_left]
theorem cellsS_front (l : Ws) (s : Sl) (p q : Int) {i : Nat} (h : i < 48) : (cellsS l s p q)[i]? = (cellsW l)[i]? := by
  unfold cellsS
  rw [List.getElem?_append_left (by rw [Array.length_toList, cellsW_size]; exact h), Array.getElem?_toList]
theorem cellsS_word (l : Ws) (s : Sl) (p q : Int) {k : Nat} (h : k < 24) : ∀ j v, (wcells (l k))[j]? = some v → (cellsS l s p q)[2 * k + j]? = some v := by
  intro j v hv
  have hj : j < 2 := by
    have := (List.getElem?_eq_some_iff.mp hv).1
    simpa [wcells] using this
  rw [cellsS_front l s p q (by omega), cellsW_at l h hj]
  exact hv
theorem cellsS_one (l : Ws) (s : Sl) (p q : Int) : ∀ v ∈ cellsS l s p q, v.oneCell' = true := by
  intro v hv
  unfold cellsS at hv
  rw [List.mem_append] at hv
  rcases hv with hv | hv
  · exact cellsW_one l v hv
  · simp only [List.mem_cons, List.not_mem_nil, or_false] at hv
    rcases hv with rfl | rfl | rfl <;> rfl
theorem cellsS_upd (l : Ws) (s : Sl) (p q : Int) {k : Nat} (h : k < 24) (x : Wd) : (cellsS l s p q).take (2 * k) ++ wcells x ++ (cellsS l s p q).drop (2 * k + (wcells x).length) = cellsS (updW l k x) s p q := by
  have hz : (cellsW l).toList.length = 48 := by rw [Array.length_toList]; exact cellsW_size l
  have e2 : (wcells x).length = 2 := rfl
  unfold cellsS
  rw [e2, List.take_append_of_le_length (by omega), List.drop_append_of_le_length (by omega), ← List.append_assoc, ← cellsW_set l x h]
theorem cellsS_v (l : Ws) (s : Sl) (p q : Int) (s' : Sl) : (cellsS l s p q).take 48 ++ [.slice s'.ao s'.n s'.c] ++ (cellsS l s p q).drop (48 + 1) = cellsS l s' p q := by
  have hz : (cellsW l).toList.length = 48 := by rw [Array.length_toList]; exact cellsW_size l
  unfold cellsS
  rw [List.take_append_of_le_length (by omega), List.take_of_length_le (by omega), List.drop_append, List.drop_of_length_le (by omega), hz]
  simp
theorem cellsS_p (l : Ws) (s : Sl) (p q p' : Int) : (cellsS l s p q).take 49 ++ [.int .i64 p'] ++ (cellsS l s p q).drop (49 + 1) = cellsS l s p' q := by
  have hz : (cellsW l).toList.length = 48 := by rw [Array.length_toList]; exact cellsW_size l
  unfold cellsS
  rw [List.take_append, List.take_of_length_le (by omega), List.drop_append, List.drop_of_length_le (by omega), hz]
  simp
theorem cellsS_q (l : Ws) (s : Sl) (p q q' : Int) : (cellsS l s p q).take 50 ++ [.int .i64 q'] ++ (cellsS l s p q).drop (50 + 1) = cellsS l s p q' := by
  have hz : (cellsW l).toList.length = 48 := by rw [Array.length_toList]; exact cellsW_size l
  unfold cellsS
  rw [List.take_append, List.take_of_length_le (by omega), List.drop_append, List.drop_of_length_le (by omega), hz]
  simp
/-- A block holds a state, a word. -/
abbrev HasS (w : World) (g : Nat) (l : Ws) (s : Sl) (p q : Int) : Prop := HasC w g 28 (cellsS l s p q)
abbrev HasD (w : World) (g : Nat) (x : Wd) : Prop := HasC w g 24 (wcells x)
theorem infoSt : (Tryz.prog.info? 28).map (·.size) = some 51 := by kernel_rfl
theorem infoWd : (Tryz.prog.info? 24).map (·.size) = some 2 := by kernel_rfl
theorem infoAr : (Tryz.prog.info? 25).map (·.size) = some 48 := by kernel_rfl
theorem infoIn : (Tryz.prog.info? 3).map (·.size) = some 1 := by kernel_rfl
theorem infoHp : (Tryz.prog.info? 26).map (·.size) = some 1 := by kernel_rfl
section
variable {w w' : World} {g : Nat} {l : Ws} {s : Sl} {p q : Int}
theorem HasS.hp (h : HasS w g l s p q) : w.cell? ⟨g, 48, none⟩ = some (.slice s.ao s.n s.c) := h.cell (cellsS_tail l s p q 0)
theorem HasS.at (h : HasS w g l s p q) : w.cell? ⟨g, 49, none⟩ = some (.int .i64 p) := h.cell (cellsS_tail l s p q 1)
theorem HasS.ask (h : HasS w g l s p q) : w.cell? ⟨g, 50, none⟩ = some (.int .i64 q) := h.cell (cellsS_tail l s p q 2)
theorem HasS.word (h : HasS w g l s p q) {k : Nat} (hk : k < 24) : w.rangeAt g (2 * k) (wcells (l k)) := h.range _ _ (cellsS_word l s p q hk)
theorem HasS.is (h : HasS w g l s p q) {k : Nat} (hk : k < 24) : w.cell? ⟨g, k * 2, none⟩ = some (.bool (l k).1) := by
  have := h.word hk 0 _ rfl
  rwa [Nat.mul_comm] at this
theorem HasS.num (h : HasS w g l s p q) {k : Nat} (hk : k < 24) : w.cell? ⟨g, k * 2 + 1, none⟩ = some (.int .i64 (l k).2) := by
  have := h.word hk 1 _ rfl
  rwa [Nat.mul_comm] at this
theorem HasS.arr (h : HasS w g l s p q) : w.rangeAt g 0 (cellsW l).toList := h.range 0 _ fun j v hv => by
  have hj : j < 48 := by
    have := (List.getElem?_eq_some_iff.mp hv).1
    rwa [Array.length_toList, cellsW_size] at this
  rw [Nat.zero_add, cellsS_front l s p q hj, ← Array.getElem?_toList]
  exact hv
theorem HasD.is {x : Wd} (h : HasD w g x) : w.cell? ⟨g, 0, none⟩ = some (.bool x.1) := h.cell rfl
theorem HasD.num {x : Wd} (h : HasD w g x) : w.cell? ⟨g, 1, none⟩ = some (.int .i64 x.2) := h.cell rfl
end
section
variable {ops : Array Oper} {rest : List Oper} {op : Oper} {act : Act} {w : World} {Q : Exit → Act → World → Prop}
theorem wpList_ldS (hgd : op.guard = none) (a : Operand) (ho : op.op = .load 28 a) (g : Nat) (hx : act.eval a = .pointer (some ⟨g, 0, none⟩)) {l : Ws} {s : Sl} {p q : Int} (h : HasS w g l s p q)
    (hk : wpList Tryz.prog ops Q rest (act.put op.dst (.agg (cellsS l s p q).toArray)) w) : wpList Tryz.prog ops Q (op :: rest) act w :=
  wpList_load_mid hgd _ a ho g 0 hx (cellsS l s p q) _ h.all Tryz.underlying28 rfl (by rw [cellsS_len]; exact infoSt) hk
theorem wpList_ldAr (hgd : op.guard = none) (a : Operand) (ho : op.op = .load 25 a) (g : Nat) (hx : act.eval a = .pointer (some ⟨g, 0, none⟩)) {l : Ws} {s : Sl} {p q : Int} (h : HasS w g l s p q)
    (hk : wpList Tryz.prog ops Q rest (act.put op.dst (.agg (cellsW l))) w) : wpList Tryz.prog ops Q (op :: rest) act w :=
  wpList_load_mid hgd _ a ho g 0 hx (cellsW l).toList _ h.arr Tryz.underlying25 rfl (by rw [Array.length_toList, cellsW_size]; exact infoAr) (by rw [Array.toArray_toList]; exact hk)
/-- A word of a state. -/
theorem wpList_ldWd (hgd : op.guard = none) (a : Operand) (ho : op.op = .load 24 a) (g k : Nat) (hk24 : k < 24) (hx : act.eval a = .pointer (some ⟨g, k * 2, none⟩)) {l : Ws} {s : Sl} {p q : Int} (h : HasS w g l s p q)
    (hk : wpList Tryz.prog ops Q rest (act.put op.dst (.agg #[.bool (l k).1, .int .i64 (l k).2])) w) : wpList Tryz.prog ops Q (op :: rest) act w :=
  wpList_load_mid hgd _ a ho g (2 * k) (by rw [Nat.mul_comm]; exact hx) (wcells (l k)) _ (h.word hk24) Tryz.underlying24 rfl infoWd hk
/-- A word's own block. -/
theorem wpList_ldDd (hgd : op.guard = none) (a : Operand) (ho : op.op = .load 24 a) (g : Nat) (hx : act.eval a = .pointer (some ⟨g, 0, none⟩)) {x : Wd} (h : HasD w g x)
    (hk : wpList Tryz.prog ops Q rest (act.put op.dst (.agg #[.bool x.1, .int .i64 x.2])) w) : wpList Tryz.prog ops Q (op :: rest) act w :=
  wpList_load_mid hgd _ a ho g 0 hx (wcells x) _ h.all Tryz.underlying24 rfl infoWd hk
theorem wpList_stS (hgd : op.guard = none) (hdst : op.dst = none) (a b : Operand) (ho : op.op = .store 28 a b) (g : Nat) (hx : act.eval a = .pointer (some ⟨g, 0, none⟩)) {l : Ws} {s : Sl} {p q : Int} (hy : act.eval b = .agg (cellsS l s p q).toArray)
    {l' : Ws} {s' : Sl} {p' q' : Int} (h : HasS w g l' s' p' q') (hk : ∀ w', HasS w' g l s p q → Kept g w w' → wpList Tryz.prog ops Q rest act w') : wpList Tryz.prog ops Q (op :: rest) act w :=
  wpList_stX hgd hdst _ a b ho g 0 hx _ hy h (cellsS l s p q) rfl (by rw [cellsS_len, cellsS_len]; omega) (cellsS_one l s p q) (by rw [cellsS_len]; exact infoSt)
    (by rw [List.take_zero, List.nil_append, List.drop_of_length_le (by rw [cellsS_len, cellsS_len]; omega), List.append_nil]) hk
theorem wpList_stWd (hgd : op.guard = none) (hdst : op.dst = none) (a b : Operand) (ho : op.op = .store 24 a b) (g k : Nat) (hk24 : k < 24) (hx : act.eval a = .pointer (some ⟨g, k * 2, none⟩)) (x : Wd) (hy : act.eval b = .agg #[.bool x.1, .int .i64 x.2])
    {l : Ws} {s : Sl} {p q : Int} (h : HasS w g l s p q) (hk : ∀ w', HasS w' g (updW l k x) s p q → Kept g w w' → wpList Tryz.prog ops Q rest act w') : wpList Tryz.prog ops Q (op :: rest) act w :=
  wpList_stX hgd hdst _ a b ho g (2 * k) (by rw [Nat.mul_comm]; exact hx) _ hy h (wcells x) rfl (by rw [cellsS_len]; simp [wcells]; omega) (by simp [wcells, Value.oneCell']) infoWd (cellsS_upd l s p q hk24 x) hk
theorem wpList_stDd (hgd : op.guard = none) (hdst : op.dst = none) (a b : Operand) (ho : op.op = .store 24 a b) (g : Nat) (hx : act.eval a = .pointer (some ⟨g, 0, none⟩)) (x : Wd) (hy : act.eval b = .agg #[.bool x.1, .int .i64 x.2])
    {y : Wd} (h : HasD w g y) (hk : ∀ w', HasD w' g x → Kept g w w' → wpList Tryz.prog ops Q rest act w') : wpList Tryz.prog ops Q (op :: rest) act w :=
  wpList_stX hgd hdst _ a b ho g 0 hx _ hy h (wcells x) rfl (by simp [wcells]) (by simp [wcells, Value.oneCell']) infoWd (by simp [wcells]) hk
theorem wpList_stHp (hgd : op.guard = none) (hdst : op.dst = none) (a b : Operand) (ho : op.op = .store 26 a b) (g : Nat) (hx : act.eval a = .pointer (some ⟨g, 48, none⟩)) (s' : Sl) (hy : act.eval b = .slice s'.ao s'.n s'.c)
    {l : Ws} {s : Sl} {p q : Int} (h : HasS w g l s p q) (hk : ∀ w', HasS w' g l s' p q → Kept g w w' → wpList Tryz.prog ops Q rest act w') : wpList Tryz.prog ops Q (op :: rest) act w :=
  wpList_stX hgd hdst _ a b ho g 48 hx _ hy h [.slice s'.ao s'.n s'.c] rfl (by rw [cellsS_len]; simp) (by simp [Value.oneCell']) infoHp (cellsS_v l s p q s') hk
theorem wpList_stAt (hgd : op.guard = none) (hdst : op.dst = none) (a b : Operand) (ho : op.op = .store 3 a b) (g : Nat) (hx : act.eval a = .pointer (some ⟨g, 49, none⟩)) (p' : Int) (hy : act.eval b = .int .i64 p')
    {l : Ws} {s : Sl} {p q : Int} (h : HasS w g l s p q) (hk : ∀ w', HasS w' g l s p' q → Kept g w w' → wpList Tryz.prog ops Q rest act w') : wpList Tryz.prog ops Q (op :: rest) act w :=
  wpList_stX hgd hdst _ a b ho g 49 hx _ hy h [.int .i64 p'] rfl (by rw [cellsS_len]; simp) (by simp [Value.oneCell']) infoIn (cellsS_p l s p q p') hk
theorem wpList_stAsk (hgd : op.guard = none) (hdst : op.dst = none) (a b : Operand) (ho : op.op = .store 3 a b) (g : Nat) (hx : act.eval a = .pointer (some ⟨g, 50, none⟩)) (q' : Int) (hy : act.eval b = .int .i64 q')
    {l : Ws} {s : Sl} {p q : Int} (h : HasS w g l s p q) (hk : ∀ w', HasS w' g l s p q' → Kept g w w' → wpList Tryz.prog ops Q rest act w') : wpList Tryz.prog ops Q (op :: rest) act w :=
  wpList_stX hgd hdst _ a b ho g 50 hx _ hy h [.int .i64 q'] rfl (by rw [cellsS_len]; simp) (by simp [Value.oneCell']) infoIn (cellsS_q l s p q q') hk
end
def noWs : Ws := fun _ => (false, 0)
theorem zeroS : ∃ z, (∀ w, (zeroValue 28).run Tryz.prog w = .ok z w) ∧ z = .agg (cellsS noWs nilS 0 0).toArray := ⟨_, Tryz.zeroValue28, by kernel_rfl⟩
theorem zeroS_run (w : World) : (zeroValue 28).run Tryz.prog w = .ok (.agg (cellsS noWs nilS 0 0).toArray) w := by
  obtain ⟨z, h, rfl⟩ := zeroS
  exact h w
theorem zeroD_run (w : World) : (zeroValue 24).run Tryz.prog w = .ok (.agg (wcells (false, 0)).toArray) w := Tryz.zeroValue24 w
/-- A state's array of words, at a place. -/
theorem run_ixW (l : Ws) (k : Nat) (hk : k < 24) (w : World) : (Instr.index 25 (.agg (cellsW l)) (.int .i64 (k : Int))).run Tryz.prog w = .ok (.agg #[.bool (l k).1, .int .i64 (l k).2]) w := by
  unfold Instr.index
  have hu : (underlying 25).run Tryz.prog w = _ := run_underlying Tryz.underlying25 w
  obtain ⟨i, hq, h1⟩ : ∃ i, Tryz.prog.info? 24 = some i ∧ i.size = 2 := by
    have := infoWd
    cases hq : Tryz.prog.info? 24 with
    | none => rw [hq] at this; cases this
    | some i => rw [hq] at this; exact ⟨i, rfl, by simpa using this⟩
  have e0 := cellsW_at l hk (j := 0) (by omega)
  have e1 := cellsW_at l hk (j := 1) (by omega)
  have ex : (cellsW l).extract (k * 2) (k * 2 + 2) = #[.bool (l k).1, .int .i64 (l k).2] := by
    apply Array.ext_getElem?
    intro j
    rw [Array.getElem?_extract]
    rw [Nat.mul_comm]
    rcases j with _ | _ | j
    · rw [if_pos (by rw [cellsW_size]; omega), Nat.add_zero]; exact e0
    · rw [if_pos (by rw [cellsW_size]; omega)]; exact e1
    · rw [if_neg (by rw [cellsW_size]; omega)]; rfl
  simp [asIntOf, hu, part, sizeOf, typeInfo, hq, h1, ex]
  intro; omega
end Go.Proofs.YtdghhedenjgjiaaGreatDoor
