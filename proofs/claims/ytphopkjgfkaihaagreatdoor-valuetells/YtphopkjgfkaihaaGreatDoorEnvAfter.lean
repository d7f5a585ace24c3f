/-
  Tables of sources and rows of words, as plain functions on places: which are good, what is behind an instruction, one behind another, what fills them. No program stands in this text but the numbers of types.
  Blocks that hold a table of sources or a row of words: laws on loads and stores of the whole and of a part, at the operation.
  The contracts of env's small functions: right, New, Good, orNew: for every table; nothing that was in memory has turned.
  The contract of env.After: for every table and instruction.
  The contract of env.After, of a Mov and a Swap; for every table and instruction.
-/
import Derived.Test.YtphopkjgfkaihaaGreatDoorPlain
import Derived.Test.YtphopkjgfkaihaaGreatDoorProg
import Derived.Deep.MidRow
import Derived.Test.YtphopkjgfkaihaaGreatDoorInsAll
import Derived.Deep.LoopGhost
import Derived.RegionTactic
import Derived.BigRegion
namespace Go.Proofs.YtphopkjgfkaihaaGreatDoor
open Go.RowKit

/-- A source: kind 0: what a place had; 1: a number; others: none. -/
abbrev Sr := Nat × Int
def sv (s : Sr) : Value := if s.1 = 0 then .iface 145 (.agg #[.int .i64 s.2]) else if s.1 = 1 then .iface 143 (.agg #[.int .i64 s.2]) else .nilIface
abbrev Tb := Nat → Sr
def cellsT (t : Tb) : Array Value := ((List.range 24).map fun i => sv (t i)).toArray
def upd (t : Tb) (k : Nat) (s : Sr) : Tb := fun i => if i = k then s else t i
theorem cellsT_size (t : Tb) : (cellsT t).size = 24 := by simp [cellsT]
theorem cellsT_at (t : Tb) {k : Nat} (h : k < 24) : (cellsT t)[k]? = some (sv (t k)) := by simp [cellsT, h]
theorem cellsT_ext {t u : Tb} (h : ∀ i < 24, t i = u i) : cellsT t = cellsT u := by
  unfold cellsT
  congr 1
  apply List.map_congr_left
  intro i hi
  rw [h i (List.mem_range.mp hi)]
theorem cellsT_set (t : Tb) {k : Nat} (s : Sr) (h : k < 24) : (cellsT t).toList.take k ++ [sv s] ++ (cellsT t).toList.drop (k + 1) = (cellsT (upd t k s)).toList := by
  have e : (cellsT t).toList.take k ++ [sv s] ++ (cellsT t).toList.drop (k + 1) = (cellsT t).toList.set k (sv s) := by
    rw [List.set_eq_take_append_cons_drop, if_pos (by simp [cellsT, h])]
    simp
  rw [e]
  apply List.ext_getElem?
  intro i
  rw [List.getElem?_set]
  simp only [cellsT, List.length_map, List.length_range, List.getElem?_map, h, upd, if_true]
  by_cases hik : k = i
  · subst hik; simp [h]
  · rw [if_neg hik]
    by_cases hi : i < 24
    · simp [hi, Ne.symm hik]
    · simp [hi]
theorem sv_one (s : Sr) : (sv s).cells = #[sv s] ∧ (sv s).oneCell' = true := by
  unfold sv
  split
  · exact ⟨rfl, rfl⟩
  · split <;> exact ⟨rfl, rfl⟩
theorem cellsT_one (t : Tb) : ∀ v ∈ (cellsT t).toList, v.oneCell' = true := by
  intro v hv
  simp only [cellsT, List.mem_map] at hv
  obtain ⟨i, _, rfl⟩ := hv
  exact (sv_one _).2

/-! Which sources may be; tables; what they become. -/
def okS (s : Sr) : Bool := decide (s.1 = 1 ∨ s.1 = 0 ∧ 0 ≤ s.2 ∧ s.2 < 24)
def goodT (t : Tb) : Bool := (List.range 24).all fun i => okS (t i)
theorem good_mk {t : Tb} (h : ∀ i < 24, okS (t i) = true) : goodT t = true := List.all_eq_true.mpr fun i hi => h i (List.mem_range.mp hi)
def newT : Tb := fun i => (0, (i : Int))
def orN (t : Tb) : Tb := if goodT t = true then t else newT
def aft (t : Tb) (x : I) : Tb :=
  if rightB x.d = true ∧ rightB x.a = true then
    if x.op = 1 then upd (orN t) x.d.toNat (1, x.n)
    else if x.op = 2 then upd (orN t) x.d.toNat (orN t x.a.toNat)
    else if x.op = 3 then upd (upd (orN t) x.d.toNat (orN t x.a.toNat)) x.a.toNat (orN t x.d.toNat)
    else orN t
  else orN t
def thn (a b : Tb) : Tb := fun i => if (orN b i).1 = 0 then orN a (orN b i).2.toNat else orN b i
def fil (t : Tb) (l : Ws) : Ws := fun i => if (orN t i).1 = 0 then l (orN t i).2.toNat else (true, (orN t i).2)
theorem good_at {t : Tb} (h : goodT t = true) {i : Nat} (hi : i < 24) : okS (t i) = true := (List.all_eq_true.mp h) i (List.mem_range.mpr hi)
theorem good_new : goodT newT = true := by
  refine good_mk ?_
  intro i hi
  simp [okS, newT]
  omega
theorem good_orN (t : Tb) : goodT (orN t) = true := by
  unfold orN
  split
  · assumption
  · exact good_new
theorem orN_good {t : Tb} (h : goodT t = true) : orN t = t := if_pos h
theorem ok_cases {s : Sr} (h : okS s = true) : s.1 = 1 ∨ (s.1 = 0 ∧ 0 ≤ s.2 ∧ s.2 < 24) := of_decide_eq_true h
theorem good_upd {t : Tb} {s : Sr} (h : goodT t = true) (hs : okS s = true) (k : Nat) : goodT (upd t k s) = true := by
  refine good_mk fun i hi => ?_
  unfold upd
  split
  · exact hs
  · exact good_at h hi
theorem right_lt {l : Int} (h : rightB l = true) : l.toNat < 24 ∧ 0 ≤ l ∧ l < 24 := by
  have := of_decide_eq_true h
  omega
theorem good_aft (t : Tb) (x : I) : goodT (aft t x) = true := by
  have g := good_orN t
  unfold aft
  split
  · next h =>
    have h1 := (right_lt h.1).1
    have h2 := (right_lt h.2).1
    split
    · exact good_upd g (by simp [okS]) _
    · split
      · exact good_upd g (good_at g h2) _
      · split
        · exact good_upd (good_upd g (good_at g h2) _) (good_at g h1) _
        · exact g
  · exact g
theorem good_thn (a b : Tb) : goodT (thn a b) = true := by
  refine good_mk fun i hi => ?_
  unfold thn
  have hb := good_at (good_orN b) hi
  split
  · next h0 =>
    rcases ok_cases hb with h | h
    · omega
    · exact good_at (good_orN a) (by omega)
  · exact hb
end Go.Proofs.YtphopkjgfkaihaaGreatDoor
namespace Go.Proofs.YtphopkjgfkaihaaGreatDoor
open Go.RowKit

def HasT (w : World) (g : Nat) (t : Tb) : Prop := w.heap[g]? = some (.cells (cellsT t) 29 (0, 0))
theorem infoT : (Tryz.prog.info? 29).map (·.size) = some 24 := by kernel_rfl
theorem infoS : (Tryz.prog.info? 27).map (·.size) = some 1 := by kernel_rfl
theorem HasT.new {w w' : World} {g : Nat} {t : Tb} (h : HasT w g t) (n : New w w') : HasT w' g t := n.heap h
theorem HasT.put {w : World} {g k : Nat} {t : Tb} (h : HasT w g t) (hk : g ≠ k) (o : Obj) : HasT (putO w k o) g t := by unfold HasT; rw [putO_other hk]; exact h
theorem HasT.box (w : World) (t : Tb) : HasT (w.alloc (.cells (cellsT t) 29)) w.heap.size t := heap_alloc_new _ _
def noT : Tb := fun _ => (2, 0)
def oT (t : Tb) : Obj := .cells (cellsT t) 29 (0, 0)
theorem HasT.stored {w : World} {g : Nat} {t : Tb} (h : HasT w g t) (u : Tb) : HasT (putO w g (oT u)) g u := putO_same h
section
variable {ops : Array Oper} {rest : List Oper} {op : Oper} {act : Act} {w : World} {Q : Exit → Act → World → Prop}
theorem wpList_ldT (hgd : op.guard = none) (p : Operand) (ho : op.op = .load 29 p)
    (g : Nat) (hx : act.eval p = .pointer (some ⟨g, 0, none⟩)) {t : Tb} (h : HasT w g t)
    (hk : wpList Tryz.prog ops Q rest (act.put op.dst (.agg (cellsT t))) w) : wpList Tryz.prog ops Q (op :: rest) act w :=
  wpList_load_row hgd _ p ho g hx _ _ _ _ h Tryz.underlying29 rfl (by rw [cellsT_size]; exact infoT) hk
theorem HasT.store {g : Nat} {t : Tb} (h : HasT w g t) (u : Tb) : (Instr.storeAt 29 (.pointer (some ⟨g, 0, none⟩)) (.agg (cellsT u))).run Tryz.prog w = .ok () (putO w g (oT u)) :=
  store_row w g _ _ _ h (by rw [cellsT_size, cellsT_size]) (by rw [cellsT_size]; exact infoT) (cellsT_one u)
theorem wpList_stT (hgd : op.guard = none) (hdst : op.dst = none) (p q : Operand) (ho : op.op = .store 29 p q)
    (g : Nat) (hx : act.eval p = .pointer (some ⟨g, 0, none⟩)) (u : Tb) (hy : act.eval q = .agg (cellsT u)) {t : Tb} (h : HasT w g t)
    (hk : wpList Tryz.prog ops Q rest act (putO w g (oT u))) : wpList Tryz.prog ops Q (op :: rest) act w :=
  wpList_plain hgd fun _ hK => by
    unfold Oper.wp execOp
    simp only [ho, hx, hy, h.store u, Sem.run_bind, Sem.run_pure, Result.andThen_ok]
    refine hK _ _ ?_
    rw [hdst]
    exact hk
/-- The same, the world behind it under a new name. -/
theorem wpList_stTx (hgd : op.guard = none) (hdst : op.dst = none) (p q : Operand) (ho : op.op = .store 29 p q)
    (g : Nat) (hx : act.eval p = .pointer (some ⟨g, 0, none⟩)) (u : Tb) (hy : act.eval q = .agg (cellsT u)) {t : Tb} (h : HasT w g t) {w0 : World} (hn : New w0 w) (hg : w0.heap.size ≤ g)
    (hk : ∀ w', HasT w' g u → New w0 w' → wpList Tryz.prog ops Q rest act w') : wpList Tryz.prog ops Q (op :: rest) act w :=
  wpList_stT hgd hdst p q ho g hx u hy h (hk _ (h.stored u) (hn.put hg _))
theorem HasT.cell {g : Nat} {t : Tb} (h : HasT w g t) {k : Nat} (hk : k < 24) : w.cell? ⟨g, k, none⟩ = some (sv (t k)) := by
  rw [cell_of_row w g k _ _ _ h, cellsT_at t hk]
/-- A source is loaded out of a table's block. -/
theorem wpList_ldSr (hgd : op.guard = none) (p : Operand) (ho : op.op = .load 27 p)
    (g k : Nat) (hk24 : k < 24) (hx : act.eval p = .pointer (some ⟨g, k, none⟩)) {t : Tb} (h : HasT w g t)
    (hk : wpList Tryz.prog ops Q rest (act.put op.dst (sv (t k))) w) : wpList Tryz.prog ops Q (op :: rest) act w :=
  wpList_plain hgd fun _ hK => by
    unfold Oper.wp execOp
    have hc := h.cell hk24
    simp only [ho, hx, Instr.loadAt, Instr.sureAddr, loadVar, Sem.run_bind, Sem.run_pure, Result.andThen_ok, Tryz.isAgg27 w]
    simp [hc]
    exact hK _ _ hk
/-- A source is stored into a table's block. -/
theorem HasT.store1 {g k : Nat} (hk : k < 24) {t : Tb} (h : HasT w g t) (s : Sr) : (Instr.storeAt 27 (.pointer (some ⟨g, k, none⟩)) (sv s)).run Tryz.prog w = .ok () (putO w g (oT (upd t k s))) := by
  have hs := run_storeCells_at (P := Tryz.prog) g k _ [sv s] 0 _ w h (by rw [cellsT_size]; simp; omega) (by simpa using (sv_one s).2)
  obtain ⟨i, hq, h1⟩ : ∃ i, Tryz.prog.info? 27 = some i ∧ i.size = 1 := by
    have := infoS
    cases hq : Tryz.prog.info? 27 with
    | none => rw [hq] at this; cases this
    | some i => rw [hq] at this; exact ⟨i, rfl, by simpa using this⟩
  rw [Nat.add_zero, List.length_singleton, cellsT_set t s hk, Array.toArray_toList, setRow_putO h] at hs
  simp [Instr.storeAt, Instr.sureAddr, storeVar, sizeOf, typeInfo, hq, h1, (sv_one s).1, hs, oT]
theorem wpList_stSr (hgd : op.guard = none) (hdst : op.dst = none) (p q : Operand) (ho : op.op = .store 27 p q)
    (g k : Nat) (hk24 : k < 24) (hx : act.eval p = .pointer (some ⟨g, k, none⟩)) (s : Sr) (hy : act.eval q = sv s) {t : Tb} (h : HasT w g t)
    (hk : wpList Tryz.prog ops Q rest act (putO w g (oT (upd t k s)))) : wpList Tryz.prog ops Q (op :: rest) act w :=
  wpList_plain hgd fun _ hK => by
    unfold Oper.wp execOp
    simp only [ho, hx, hy, h.store1 hk24 s, Sem.run_bind, Sem.run_pure, Result.andThen_ok]
    refine hK _ _ ?_
    rw [hdst]
    exact hk
end
/-- A table's value, at a place. -/
theorem run_ixT (t : Tb) (k : Nat) (hk : k < 24) (w : World) : (Instr.index 29 (.agg (cellsT t)) (.int .i64 (k : Int))).run Tryz.prog w = .ok (sv (t k)) w := by
  unfold Instr.index
  have hu : (underlying 29).run Tryz.prog w = _ := run_underlying Tryz.underlying29 w
  obtain ⟨i, hq, h1⟩ : ∃ i, Tryz.prog.info? 27 = some i ∧ i.size = 1 := by
    have := infoS
    cases hq : Tryz.prog.info? 27 with
    | none => rw [hq] at this; cases this
    | some i => rw [hq] at this; exact ⟨i, rfl, by simpa using this⟩
  simp [asIntOf, hu, part, sizeOf, typeInfo, hq, h1, cellsT_at t hk]
  intro; omega
end Go.Proofs.YtphopkjgfkaihaaGreatDoor
namespace Go.Proofs.YtphopkjgfkaihaaGreatDoor
open Go.RowKit

def wasV (n : Int) : Value := .iface 145 (.agg #[.int .i64 n])
def isV (n : Int) : Value := .iface 143 (.agg #[.int .i64 n])
theorem sv_was (n : Int) : sv (0, n) = wasV n := rfl
theorem sv_is (n : Int) : sv (1, n) = isV n := rfl
theorem sv_no {s : Sr} (h0 : s.1 ≠ 0) (h1 : s.1 ≠ 1) : sv s = .nilIface := by unfold sv; rw [if_neg h0, if_neg h1]
theorem s_cases (s : Sr) : (∃ n, s = (0, n)) ∨ (∃ n, s = (1, n)) ∨ (s.1 ≠ 0 ∧ s.1 ≠ 1) := by
  obtain ⟨k, n⟩ := s
  by_cases h0 : k = 0
  · exact .inl ⟨n, by rw [h0]⟩
  · by_cases h1 : k = 1
    · exact .inr (.inl ⟨n, by rw [h1]⟩)
    · exact .inr (.inr ⟨h0, h1⟩)
theorem ta_ww (n : Int) (w : World) : (Instr.typeAssert (.iface 145 (.agg #[.int .i64 n])) 27 145 true).run Tryz.prog w = .ok (.tuple #[.agg #[.int .i64 n], .bool true]) w := by kernel_rfl
theorem ta_wi (n : Int) (w : World) : (Instr.typeAssert (.iface 145 (.agg #[.int .i64 n])) 27 143 true).run Tryz.prog w = .ok (.tuple #[.agg #[.int .i64 0], .bool false]) w := by kernel_rfl
theorem ta_ii (n : Int) (w : World) : (Instr.typeAssert (.iface 143 (.agg #[.int .i64 n])) 27 143 true).run Tryz.prog w = .ok (.tuple #[.agg #[.int .i64 n], .bool true]) w := by kernel_rfl
theorem ta_iw (n : Int) (w : World) : (Instr.typeAssert (.iface 143 (.agg #[.int .i64 n])) 27 145 true).run Tryz.prog w = .ok (.tuple #[.agg #[.int .i64 0], .bool false]) w := by kernel_rfl
theorem ta_nw (w : World) : (Instr.typeAssert .nilIface 27 145 true).run Tryz.prog w = .ok (.tuple #[.agg #[.int .i64 0], .bool false]) w := by kernel_rfl
theorem ta_ni (w : World) : (Instr.typeAssert .nilIface 27 143 true).run Tryz.prog w = .ok (.tuple #[.agg #[.int .i64 0], .bool false]) w := by kernel_rfl

theorem rightS_any (s : Sr) (w : World) :
    Calls Tryz.prog 131 #[sv s] w fun e w' => e = .returned (.bool (okS s)) ∧ New w w' := by
  rcases s_cases s with ⟨n, rfl⟩ | ⟨n, rfl⟩ | ⟨h0, h1⟩
  · have e : okS (0, n) = rightB n := by simp [okS, rightB]
    rw [e, sv_was]
    clear e
    have k1 := ta_ww n
    unfold wasV
    go_enter Tryz.func131, Tryz.ntmps131
    go_wp2_with (go_at_call 36; refine (right_any _ _).mono ?_; rintro e w1 ⟨rfl, rfl⟩)
    go_ret
    exact ⟨rfl, (New.refl _).alloc _⟩
  · have e : okS (1, n) = true := by simp [okS]
    rw [e, sv_is]
    clear e
    have k1 := ta_iw n
    have k2 := ta_ii n
    unfold isV
    go_enter Tryz.func131, Tryz.ntmps131
    go_wp2
    go_ret
    exact ⟨rfl, (New.refl _).alloc _⟩
  · have e : okS s = false := by simp [okS, h0, h1]
    rw [e, sv_no h0 h1]
    clear e
    have k1 := ta_nw
    have k2 := ta_ni
    go_enter Tryz.func131, Tryz.ntmps131
    go_wp2
    go_ret
    exact ⟨rfl, New.refl _⟩

/-- The zero table, as it is made. -/
theorem zeroT : cellsT noT = #[.nilIface, .nilIface, .nilIface, .nilIface, .nilIface, .nilIface, .nilIface, .nilIface, .nilIface, .nilIface, .nilIface, .nilIface, .nilIface, .nilIface, .nilIface, .nilIface, .nilIface, .nilIface, .nilIface, .nilIface, .nilIface, .nilIface, .nilIface, .nilIface] := by kernel_rfl
theorem HasT.zero (w : World) : HasT (w.alloc (.cells #[.nilIface, .nilIface, .nilIface, .nilIface, .nilIface, .nilIface, .nilIface, .nilIface, .nilIface, .nilIface, .nilIface, .nilIface, .nilIface, .nilIface, .nilIface, .nilIface, .nilIface, .nilIface, .nilIface, .nilIface, .nilIface, .nilIface, .nilIface, .nilIface] 29)) w.heap.size noT := by rw [← zeroT]; exact HasT.box w noT
/-- A table whose first places are the first table's. -/
def upto (k : Nat) : Tb := fun i => if i < k then newT i else noT i
theorem upto_step {k : Nat} : upd (upto k) k (0, (k : Int)) = upto (k + 1) := by
  funext i
  unfold upd upto
  by_cases h : i = k
  · subst h; simp [newT]
  · rw [if_neg h]
    by_cases h2 : i < k
    · rw [if_pos h2, if_pos (by omega)]
    · rw [if_neg h2, if_neg (by omega)]
theorem upto_all : cellsT (upto 24) = cellsT newT := cellsT_ext fun i hi => by unfold upto; rw [if_pos hi]
theorem resT (fn : Func) {p : Tmp} (h : fn.results = #[.cell p 29]) (tmps : Array Value) (w : World) (g : Nat) (t : Tb) (hp : tmps.getD p undef = .pointer (some ⟨g, 0, none⟩)) (hg : HasT w g t) :
    (results fn tmps).run Tryz.prog w = .ok (.agg (cellsT t)) w :=
  results_cell_row h tmps w g _ _ _ _ hp hg Tryz.underlying29 rfl (by rw [cellsT_size]; exact infoT)
set_option maxHeartbeats 1000000 in
set_option maxRecDepth 100000 in
theorem envNew_any (w : World) :
    Calls Tryz.prog 60 #[] w fun e w' => e = .returned (.agg (cellsT newT)) ∧ New w w' := by
  go_enter Tryz.func60, Tryz.ntmps60
  go_wp2
  rw [← zeroT]
  go_loopw [3] (fun kv wr => ∃ k : Nat, kv = .int .i64 k ∧ k ≤ 24 ∧ HasT wr w.heap.size noT ∧ HasT wr (w.heap.size + 1) (upto k) ∧ New w wr) (fun kv wr => 24 - (intOf kv).toNat)
  case atStart => exact ⟨0, rfl, by omega, (HasT.box w noT).new (alloc_new _ _), alloc_at (by rw [alloc_size]) _, (alloc_new _ _).alloc _⟩
  case round =>
    obtain ⟨k, rfl, hk, h0, h1, hn⟩ := hrel
    have H0 := Lib.hid h0
    have H1 := Lib.hid h1
    have HN := Lib.hid hn
    clear h0 h1 hn
    by_cases hk24 : k < 24
    · go_wp2_with (refine wpList_stSr rfl rfl (.tmp 10) (.tmp 9) rfl (w.heap.size + 1) k hk24 rfl (0, (k : Int)) rfl H1.out ?_)
      go_roundw
      case rel =>
        rw [upto_step]
        exact ⟨k + 1, by go_num, hk24, H0.out.put (by omega) _, H1.out.stored _, HN.out.put (by omega) _⟩
      case measure => simp [intOf]; omega
    · obtain rfl : k = 24 := by omega
      go_wp2_with (first
        | (refine wpList_ldT rfl (.tmp 1) rfl (w.heap.size + 1) rfl H1.out ?_)
        | (refine wpList_stT rfl rfl (.tmp 0) (.tmp 12) rfl w.heap.size rfl (upto 24) rfl H0.out ?_))
      rw [← upto_all]
      refine bodyPost_ret (resT _ rfl _ _ w.heap.size (upto 24) rfl (H0.out.stored _)) rfl ⟨rfl, HN.out.put (by omega) _⟩

set_option maxHeartbeats 1000000 in
set_option maxRecDepth 100000 in
theorem envGood_any (t : Tb) (w : World) :
    Calls Tryz.prog 113 #[.agg (cellsT t)] w fun e w' => e = .returned (.bool (goodT t)) ∧ New w w' := by
  have hix : ∀ (k : Nat) (hk : k < 24) (w : World), (Instr.index 29 (.agg (cellsT t)) (.int .i64 (k : Int))).run Tryz.prog w = .ok (sv (t k)) w := fun k hk w => run_ixT t k hk w
  have HX := Lib.hid hix
  clear hix
  go_enter Tryz.func113, Tryz.ntmps113
  go_wp2_with (refine wpList_ldT rfl (.tmp 1) rfl w.heap.size rfl (HasT.box w t) ?_)
  go_loopw [6] (fun kv wr => ∃ k : Nat, kv = .int .i64 k ∧ k ≤ 24 ∧ Hid (∀ i < k, okS (t i) = true) ∧ New w wr) (fun kv wr => 24 - (intOf kv).toNat)
  case atStart => exact ⟨0, rfl, by omega, Lib.hid (fun i hi => absurd hi (Nat.not_lt_zero _)), alloc_new _ _⟩
  case round =>
    obtain ⟨k, rfl, hk, HO, hn⟩ := hrel
    by_cases hk24 : k < 24
    · have hx := HX.out k hk24
      cases hok : okS (t k) with
      | true =>
        have HA : Hid (∀ i < k + 1, okS (t i) = true) := Lib.hid (fun i hi => by
          by_cases e : i = k
          · rw [e]; exact hok
          · exact HO.out i (by omega))
        go_wp2_with (go_at_call 131; refine (rightS_any (t k) _).mono ?_; rw [hok]; rintro e w1 ⟨rfl, hn1⟩)
        go_roundw
        case rel => exact ⟨k + 1, by go_num, hk24, Lib.hid HA.out, hn.trans hn1⟩
        case measure => simp [intOf]; omega
      | false =>
        have HB : Hid (goodT t = false) := Lib.hid (by
          cases hg : goodT t with
          | false => rfl
          | true => rw [good_at hg hk24] at hok; cases hok)
        go_wp2_with (go_at_call 131; refine (rightS_any (t k) _).mono ?_; rw [hok]; rintro e w1 ⟨rfl, hn1⟩)
        rw [HB.out]
        go_ret
        exact ⟨rfl, hn.trans hn1⟩
    · obtain rfl : k = 24 := by omega
      have HB : Hid (goodT t = true) := Lib.hid (good_mk HO.out)
      go_wp2
      rw [HB.out]
      go_ret
      exact ⟨rfl, hn⟩
theorem orNew_any (t : Tb) (w : World) :
    Calls Tryz.prog 96 #[.agg (cellsT t)] w fun e w' => e = .returned (.agg (cellsT (orN t))) ∧ New w w' := by
  have b1 : HasT ((w.alloc (.cells (cellsT t) 29)).alloc (.cells (cellsT noT) 29)) w.heap.size t := (HasT.box w t).new (alloc_new _ _)
  have b2 : HasT ((w.alloc (.cells (cellsT t) 29)).alloc (.cells (cellsT noT) 29)) (w.heap.size + 1) noT := alloc_at (by rw [alloc_size]) _
  have B1 := Lib.hid b1
  have B2 := Lib.hid b2
  have HN : Hid (New w ((w.alloc (.cells (cellsT t) 29)).alloc (.cells (cellsT noT) 29))) := Lib.hid ((alloc_new _ _).alloc _)
  clear b1 b2
  cases hg : goodT t with
  | true =>
    have e : orN t = t := orN_good hg
    rw [e]
    clear e
    rw [zeroT] at B1 B2 HN
    go_enter Tryz.func96, Tryz.ntmps96
    go_wp2_with (first
      | (go_at_call 113; refine (envGood_any t _).mono ?_; rw [hg]; rintro e w1 ⟨rfl, hn1⟩)
      | (refine wpList_ldT rfl (.tmp 1) rfl w.heap.size rfl B1.out ?_)
      | (refine wpList_ldT rfl (.tmp 1) rfl w.heap.size rfl (B1.out.new hn1) ?_)
      | (refine wpList_stT rfl rfl (.tmp 2) (.tmp 5) rfl (w.heap.size + 1) rfl t rfl (B2.out.new hn1) ?_))
    refine bodyPost_ret (resT _ rfl _ _ (w.heap.size + 1) t rfl ((B2.out.new hn1).stored _)) rfl ⟨rfl, (HN.out.trans hn1).put (by omega) _⟩
  | false =>
    have e : orN t = newT := if_neg (by rw [hg]; decide)
    rw [e]
    clear e
    rw [zeroT] at B1 B2 HN
    go_enter Tryz.func96, Tryz.ntmps96
    go_wp2_with (first
      | (go_at_call 113; refine (envGood_any t _).mono ?_; rw [hg]; rintro e w1 ⟨rfl, hn1⟩)
      | (go_at_call 60; refine (envNew_any _).mono ?_; rintro e w2 ⟨rfl, hn2⟩)
      | (refine wpList_ldT rfl (.tmp 1) rfl w.heap.size rfl B1.out ?_)
      | (refine wpList_stT rfl rfl (.tmp 2) (.tmp 6) rfl (w.heap.size + 1) rfl newT rfl ((B2.out.new hn1).new hn2) ?_))
    refine bodyPost_ret (resT _ rfl _ _ (w.heap.size + 1) newT rfl (((B2.out.new hn1).new hn2).stored _)) rfl ⟨rfl, ((HN.out.trans hn1).trans hn2).put (by omega) _⟩
end Go.Proofs.YtphopkjgfkaihaaGreatDoor
namespace Go.Proofs.YtphopkjgfkaihaaGreatDoor
open Go.RowKit

/-- What After's three variables hold. -/
def StF (w wx : World) (t : Tb) (x : I) : Prop := HasT wx w.heap.size t ∧ Has wx (w.heap.size + 1) x ∧ HasT wx (w.heap.size + 2) noT ∧ New w wx
theorem stF_made (w : World) (t : Tb) (x : I) (w1 : World) (h : New (((w.alloc (.cells (cellsT t) 29)).alloc (.cells #[.int .i64 x.op, .int .i64 x.d, .int .i64 x.a, .int .i64 x.b, .int .i64 x.n, .int .i64 x.t] 79)).alloc (.cells (cellsT noT) 29)) w1) (u : Tb) :
    StF w (putO w1 w.heap.size (oT u)) u x := by
  have a1 := (((HasT.box w t).new (alloc_new _ _)).new (alloc_new _ _)).new h
  refine ⟨a1.stored u, ?_, ?_, ?_⟩
  · refine Has.put (Has.new (Has.new (g := w.heap.size + 1) ?_ (alloc_new _ _)) h) _ (by omega)
    exact alloc_at (by rw [alloc_size]) _
  · refine HasT.put (HasT.new (g := w.heap.size + 2) ?_ h) (by omega) _
    exact alloc_at (by rw [alloc_size, alloc_size]) _
  · exact ((((alloc_new _ _).alloc _).alloc _).trans h).put (Nat.le_refl _) _
set_option maxHeartbeats 2000000 in
set_option maxRecDepth 100000 in
theorem after_out (t : Tb) (x : I) (h : ¬ (rightB x.d = true ∧ rightB x.a = true)) (w : World) :
    Calls Tryz.prog 62 #[.agg (cellsT t), .agg #[.int .i64 (x).op, .int .i64 (x).d, .int .i64 (x).a, .int .i64 (x).b, .int .i64 (x).n, .int .i64 (x).t]] w fun e w' => e = .returned (.agg (cellsT (orN t))) ∧ New w w' := by
  have b1 := Lib.hid (((HasT.box w t).new (alloc_new _ (.cells #[.int .i64 x.op, .int .i64 x.d, .int .i64 x.a, .int .i64 x.b, .int .i64 x.n, .int .i64 x.t] 79))).new (alloc_new _ (.cells (cellsT noT) 29)))
  have HM := Lib.hid (stF_made w t x)
  rw [zeroT] at b1 HM
  have hd : rightB x.d = false ∨ (rightB x.d = true ∧ rightB x.a = false) := by
    cases h1 : rightB x.d
    · exact .inl rfl
    · cases h2 : rightB x.a
      · exact .inr ⟨rfl, rfl⟩
      · exact absurd ⟨h1, h2⟩ h
  clear h
  rcases hd with hd | ⟨hd, ha⟩
  all_goals
    go_enter Tryz.func62, Tryz.ntmps62
    go_wp2_with (first
      | (refine wpList_ldT rfl (.tmp 2) rfl w.heap.size rfl b1.out ?_)
      | (refine wpList_ldT rfl (.tmp 2) rfl w.heap.size rfl HX.out.1 ?_)
      | (go_at_call 96; refine (orNew_any t _).mono ?_; rintro e w1 ⟨rfl, hn1⟩)
      | (refine wpList_stT rfl rfl (.tmp 2) (.tmp 6) rfl w.heap.size rfl (orN t) rfl (b1.out.new hn1) ?_; have HX := Lib.hid (HM.out w1 hn1 (orN t)); generalize putO w1 w.heap.size (oT (orN t)) = wx at HX ⊢; have c0 := HX.out.2.1.cell)
      | (go_at_call 36; refine (right_any _ _).mono ?_; rintro e w2 ⟨rfl, rfl⟩)
      | (refine wpList_stT rfl rfl (.tmp 4) (.tmp 17) rfl (w.heap.size + 2) rfl (orN t) rfl HX.out.2.2.1 ?_))
    refine bodyPost_ret (resT _ rfl _ _ (w.heap.size + 2) (orN t) rfl (HX.out.2.2.1.stored _)) rfl ⟨rfl, HX.out.2.2.2.put (by omega) _⟩

theorem int_of_right {l : Int} (h : rightB l = true) : ∃ k : Nat, l = (k : Int) ∧ k < 24 := ⟨l.toNat, by have := right_lt h; omega, (right_lt h).1⟩
set_option maxHeartbeats 2000000 in
set_option maxRecDepth 100000 in
theorem after_other (t : Tb) (x : I) (hd : rightB x.d = true) (ha : rightB x.a = true) (h1 : (x.op == 1) = false) (h2 : (x.op == 2) = false) (h3 : (x.op == 3) = false) (w : World) :
    Calls Tryz.prog 62 #[.agg (cellsT t), .agg #[.int .i64 (x).op, .int .i64 (x).d, .int .i64 (x).a, .int .i64 (x).b, .int .i64 (x).n, .int .i64 (x).t]] w fun e w' => e = .returned (.agg (cellsT (orN t))) ∧ New w w' := by
  have b1 := Lib.hid (((HasT.box w t).new (alloc_new _ (.cells #[.int .i64 x.op, .int .i64 x.d, .int .i64 x.a, .int .i64 x.b, .int .i64 x.n, .int .i64 x.t] 79))).new (alloc_new _ (.cells (cellsT noT) 29)))
  have HM := Lib.hid (stF_made w t x)
  rw [zeroT] at b1 HM
  go_enter Tryz.func62, Tryz.ntmps62
  go_wp2_with (first
      | (refine wpList_ldT rfl (.tmp 2) rfl w.heap.size rfl b1.out ?_)
      | (refine wpList_ldT rfl (.tmp 2) rfl w.heap.size rfl HX.out.1 ?_)
      | (go_at_call 96; refine (orNew_any t _).mono ?_; rintro e w1 ⟨rfl, hn1⟩)
      | (refine wpList_stT rfl rfl (.tmp 2) (.tmp 6) rfl w.heap.size rfl (orN t) rfl (b1.out.new hn1) ?_; have HX := Lib.hid (HM.out w1 hn1 (orN t)); generalize putO w1 w.heap.size (oT (orN t)) = wx at HX ⊢; have c0 := HX.out.2.1.cell; have c4 := HX.out.2.1.cell4)
      | (go_at_call 36; refine (right_any _ _).mono ?_; rintro e w2 ⟨rfl, rfl⟩)
      | (refine wpList_stT rfl rfl (.tmp 4) (.tmp 54) rfl (w.heap.size + 2) rfl (orN t) rfl HX.out.2.2.1 ?_))
  refine bodyPost_ret (resT _ rfl _ _ (w.heap.size + 2) (orN t) rfl (HX.out.2.2.1.stored _)) rfl ⟨rfl, HX.out.2.2.2.put (by omega) _⟩
set_option maxHeartbeats 2000000 in
set_option maxRecDepth 100000 in
theorem after_const (t : Tb) (o d a b n u : Int) (kd : Nat) (hkd : kd < 24) (hdd : d = (kd : Int)) (hd : rightB d = true) (ha : rightB a = true) (h1 : (o == 1) = true) (w : World) :
    Calls Tryz.prog 62 #[.agg (cellsT t), .agg #[.int .i64 o, .int .i64 d, .int .i64 a, .int .i64 b, .int .i64 n, .int .i64 u]] w fun e w' => e = .returned (.agg (cellsT (upd (orN t) kd (1, n)))) ∧ New w w' := by
  subst hdd
  have b1 := Lib.hid (((HasT.box w t).new (alloc_new _ (.cells #[.int .i64 o, .int .i64 kd, .int .i64 a, .int .i64 b, .int .i64 n, .int .i64 u] 79))).new (alloc_new _ (.cells (cellsT noT) 29)))
  have HM := Lib.hid (stF_made w t ⟨o, kd, a, b, n, u⟩)
  rw [zeroT] at b1 HM
  go_enter Tryz.func62, Tryz.ntmps62
  go_wp2_with (first
      | (refine wpList_ldT rfl (.tmp 2) rfl w.heap.size rfl b1.out ?_)
      | (refine wpList_ldT rfl (.tmp 2) rfl w.heap.size rfl HX.out.1 ?_)
      | (go_at_call 96; refine (orNew_any t _).mono ?_; rintro e w1 ⟨rfl, hn1⟩)
      | (refine wpList_stT rfl rfl (.tmp 2) (.tmp 6) rfl w.heap.size rfl (orN t) rfl (b1.out.new hn1) ?_; have HX := Lib.hid (HM.out w1 hn1 (orN t)); generalize putO w1 w.heap.size (oT (orN t)) = wx at HX ⊢; have c0 := HX.out.2.1.cell; have c4 := HX.out.2.1.cell4)
      | (go_at_call 36; refine (right_any _ _).mono ?_; rintro e w2 ⟨rfl, rfl⟩)
      | (refine wpList_stSr rfl rfl (.tmp 28) (.tmp 27) rfl w.heap.size kd hkd rfl (1, n) rfl HX.out.1 ?_)
      | (refine wpList_ldT rfl (.tmp 2) rfl w.heap.size rfl (HX.out.1.stored _) ?_)
      | (refine wpList_stT rfl rfl (.tmp 4) (.tmp 54) rfl (w.heap.size + 2) rfl (upd (orN t) kd (1, n)) rfl (HX.out.2.2.1.put (by omega) _) ?_))
  refine bodyPost_ret (resT _ rfl _ _ (w.heap.size + 2) _ rfl ((HX.out.2.2.1.put (by omega) _).stored _)) rfl ⟨rfl, (HX.out.2.2.2.put (by omega) _).put (by omega) _⟩
end Go.Proofs.YtphopkjgfkaihaaGreatDoor
namespace Go.Proofs.YtphopkjgfkaihaaGreatDoor
open Go.RowKit

/-- A cell of a table's block is stored, as the walk writes it. -/
theorem HasT.set {w : World} {g k : Nat} (hk : k < 24) {t : Tb} (h : HasT w g t) (s : Sr) : HasT (w.setCell ⟨g, k, none⟩ (sv s)) g (upd t k s) := by
  have := heap_setCell_same w g k _ _ (sv s) h
  unfold HasT
  rw [this]
  have e := cellsT_set t s hk
  have e2 : (cellsT t).setIfInBounds k (sv s) = cellsT (upd t k s) := by
    apply Array.toList_inj.mp
    rw [← e, Array.toList_setIfInBounds, List.set_eq_take_append_cons_drop, if_pos (by rw [Array.length_toList, cellsT_size]; exact hk)]
    simp
  rw [e2]
theorem HasT.setOther {w : World} {g : Nat} {a : Addr} {t : Tb} (h : HasT w g t) (hk : g ≠ a.block) (v : Value) : HasT (w.setCell a v) g t := by
  unfold HasT
  rw [heap_setCell_other w a g v hk]
  exact h
theorem sv_ok {s : Sr} (h : okS s = true) : ∃ T v, sv s = .iface T v := by
  rcases ok_cases h with h | h
  · exact ⟨_, _, by unfold sv; rw [if_neg (by omega), if_pos h]⟩
  · exact ⟨_, _, by unfold sv; rw [if_pos h.1]⟩
set_option maxHeartbeats 2000000 in
set_option maxRecDepth 100000 in
theorem after_mov (t : Tb) (o d a b n u : Int) (kd ka : Nat) (hkd : kd < 24) (hka : ka < 24) (hdd : d = (kd : Int)) (haa : a = (ka : Int)) (hd : rightB d = true) (ha : rightB a = true) (h1 : (o == 1) = false) (h2 : (o == 2) = true) (w : World) :
    Calls Tryz.prog 62 #[.agg (cellsT t), .agg #[.int .i64 o, .int .i64 d, .int .i64 a, .int .i64 b, .int .i64 n, .int .i64 u]] w fun e w' => e = .returned (.agg (cellsT (upd (orN t) kd (orN t ka)))) ∧ New w w' := by
  subst hdd
  subst haa
  have b1 := Lib.hid (((HasT.box w t).new (alloc_new _ (.cells #[.int .i64 o, .int .i64 kd, .int .i64 ka, .int .i64 b, .int .i64 n, .int .i64 u] 79))).new (alloc_new _ (.cells (cellsT noT) 29)))
  have HM := Lib.hid (stF_made w t ⟨o, kd, ka, b, n, u⟩)
  rw [zeroT] at b1 HM
  go_enter Tryz.func62, Tryz.ntmps62
  go_wp2_with (first
      | (refine wpList_ldT rfl (.tmp 2) rfl w.heap.size rfl b1.out ?_)
      | (refine wpList_ldT rfl (.tmp 2) rfl w.heap.size rfl HX.out.1 ?_)
      | (go_at_call 96; refine (orNew_any t _).mono ?_; rintro e w1 ⟨rfl, hn1⟩)
      | (refine wpList_stT rfl rfl (.tmp 2) (.tmp 6) rfl w.heap.size rfl (orN t) rfl (b1.out.new hn1) ?_; have HX := Lib.hid (HM.out w1 hn1 (orN t)); generalize putO w1 w.heap.size (oT (orN t)) = wx at HX ⊢; have c0 := HX.out.2.1.cell; have c4 := HX.out.2.1.cell4)
      | (go_at_call 36; refine (right_any _ _).mono ?_; rintro e w2 ⟨rfl, rfl⟩))
  have q1 := HX.out.1.cell hka
  have q2 := HX.out.1.cell hkd
  obtain ⟨T, v, hv⟩ := sv_ok (good_at (good_orN t) hka)
  rw [hv] at q1
  have HV := Lib.hid hv
  clear hv
  have q3 := frozen_of_row _ w.heap.size kd _ _ HX.out.1
  go_region
  have HT : Hid (HasT _ w.heap.size (upd (orN t) kd (orN t ka))) := Lib.hid (HX.out.1.set hkd (orN t ka))
  have HR := Lib.hid (HX.out.2.2.1.setOther (a := ⟨w.heap.size, kd, none⟩) (by show w.heap.size + 2 ≠ w.heap.size; omega) (sv (orN t ka)))
  have HN := Lib.hid ((Below.setCell HX.out.2.2.2 (p := ⟨w.heap.size, kd, none⟩) (Nat.le_refl _) (sv (orN t ka))))
  rw [HV.out] at HT HR HN
  go_wp2_with (first
    | (refine wpList_ldT rfl (.tmp 2) rfl w.heap.size rfl HT.out ?_)
    | (refine wpList_stT rfl rfl (.tmp 4) (.tmp 54) rfl (w.heap.size + 2) rfl (upd (orN t) kd (orN t ka)) rfl HR.out ?_))
  refine bodyPost_ret (resT _ rfl _ _ (w.heap.size + 2) _ rfl (HasT.stored HR.out _)) rfl ⟨rfl, New.put (New.drew HN.out) (by omega) _⟩
set_option maxHeartbeats 2000000 in
set_option maxRecDepth 100000 in
theorem after_swap (t : Tb) (o d a b n u : Int) (kd ka : Nat) (hkd : kd < 24) (hka : ka < 24) (hdd : d = (kd : Int)) (haa : a = (ka : Int)) (hd : rightB d = true) (ha : rightB a = true) (h1 : (o == 1) = false) (h2 : (o == 2) = false) (h3 : (o == 3) = true) (w : World) :
    Calls Tryz.prog 62 #[.agg (cellsT t), .agg #[.int .i64 o, .int .i64 d, .int .i64 a, .int .i64 b, .int .i64 n, .int .i64 u]] w fun e w' => e = .returned (.agg (cellsT (upd (upd (orN t) kd (orN t ka)) ka (orN t kd)))) ∧ New w w' := by
  subst hdd
  subst haa
  have b1 := Lib.hid (((HasT.box w t).new (alloc_new _ (.cells #[.int .i64 o, .int .i64 kd, .int .i64 ka, .int .i64 b, .int .i64 n, .int .i64 u] 79))).new (alloc_new _ (.cells (cellsT noT) 29)))
  have HM := Lib.hid (stF_made w t ⟨o, kd, ka, b, n, u⟩)
  rw [zeroT] at b1 HM
  go_enter Tryz.func62, Tryz.ntmps62
  go_wp2_with (first
      | (refine wpList_ldT rfl (.tmp 2) rfl w.heap.size rfl b1.out ?_)
      | (refine wpList_ldT rfl (.tmp 2) rfl w.heap.size rfl HX.out.1 ?_)
      | (go_at_call 96; refine (orNew_any t _).mono ?_; rintro e w1 ⟨rfl, hn1⟩)
      | (refine wpList_stT rfl rfl (.tmp 2) (.tmp 6) rfl w.heap.size rfl (orN t) rfl (b1.out.new hn1) ?_; have HX := Lib.hid (HM.out w1 hn1 (orN t)); generalize putO w1 w.heap.size (oT (orN t)) = wx at HX ⊢; have c0 := HX.out.2.1.cell; have c4 := HX.out.2.1.cell4)
      | (go_at_call 36; refine (right_any _ _).mono ?_; rintro e w2 ⟨rfl, rfl⟩))
  have q1 := HX.out.1.cell hka
  have q2 := HX.out.1.cell hkd
  obtain ⟨T, v, hv⟩ := sv_ok (good_at (good_orN t) hka)
  obtain ⟨T', v', hv'⟩ := sv_ok (good_at (good_orN t) hkd)
  have q3 := frozen_of_row _ w.heap.size kd _ _ HX.out.1
  have q4 := frozen_of_row _ w.heap.size ka _ _ HX.out.1
  have HT1 : Hid (HasT _ w.heap.size (upd (orN t) kd (orN t ka))) := Lib.hid (HX.out.1.set hkd (orN t ka))
  obtain ⟨v2, q5⟩ : ∃ v2, (World.setCell _ ⟨w.heap.size, kd, none⟩ (sv (orN t ka))).cell? ⟨w.heap.size, ka, none⟩ = some v2 := ⟨_, HT1.out.cell hka⟩
  have HT : Hid (HasT _ w.heap.size (upd (upd (orN t) kd (orN t ka)) ka (orN t kd))) := Lib.hid (HT1.out.set hka (orN t kd))
  have HR := Lib.hid ((HX.out.2.2.1.setOther (a := ⟨w.heap.size, kd, none⟩) (by show w.heap.size + 2 ≠ w.heap.size; omega) (sv (orN t ka))).setOther (a := ⟨w.heap.size, ka, none⟩) (by show w.heap.size + 2 ≠ w.heap.size; omega) (sv (orN t kd)))
  have HN := Lib.hid (Below.setCell (Below.setCell HX.out.2.2.2 (p := ⟨w.heap.size, kd, none⟩) (Nat.le_refl _) (sv (orN t ka))) (p := ⟨w.heap.size, ka, none⟩) (Nat.le_refl _) (sv (orN t kd)))
  rw [hv] at q1 q5
  rw [hv'] at q2
  rw [hv, hv'] at HT HR HN
  clear hv hv' HT1
  go_region
  go_wp2_with (first
    | (refine wpList_ldT rfl (.tmp 2) rfl w.heap.size rfl HT.out ?_)
    | (refine wpList_stT rfl rfl (.tmp 4) (.tmp 54) rfl (w.heap.size + 2) rfl (upd (upd (orN t) kd (orN t ka)) ka (orN t kd)) rfl HR.out ?_))
  refine bodyPost_ret (resT _ rfl _ _ (w.heap.size + 2) _ rfl (HasT.stored HR.out _)) rfl ⟨rfl, New.put (New.drew HN.out) (by omega) _⟩
/-- env.After, of every table and instruction. -/
theorem after_any (t : Tb) (x : I) (w : World) :
    Calls Tryz.prog 62 #[.agg (cellsT t), .agg #[.int .i64 (x).op, .int .i64 (x).d, .int .i64 (x).a, .int .i64 (x).b, .int .i64 (x).n, .int .i64 (x).t]] w fun e w' => e = .returned (.agg (cellsT (aft t x))) ∧ New w w' := by
  by_cases h : rightB x.d = true ∧ rightB x.a = true
  · obtain ⟨kd, ed, hkd⟩ := int_of_right h.1
    obtain ⟨ka, ea, hka⟩ := int_of_right h.2
    have td : x.d.toNat = kd := by rw [ed]; rfl
    have ta : x.a.toNat = ka := by rw [ea]; rfl
    unfold aft
    rw [if_pos h, td, ta]
    by_cases h1 : x.op = 1
    · rw [if_pos h1]
      exact after_const t x.op x.d x.a x.b x.n x.t kd hkd ed h.1 h.2 (beq_of h1) w
    · rw [if_neg h1]
      by_cases h2 : x.op = 2
      · rw [if_pos h2]
        exact after_mov t x.op x.d x.a x.b x.n x.t kd ka hkd hka ed ea h.1 h.2 (bneq_of h1) (beq_of h2) w
      · rw [if_neg h2]
        by_cases h3 : x.op = 3
        · rw [if_pos h3]
          exact after_swap t x.op x.d x.a x.b x.n x.t kd ka hkd hka ed ea h.1 h.2 (bneq_of h1) (bneq_of h2) (beq_of h3) w
        · rw [if_neg h3]
          exact after_other t x h.1 h.2 (bneq_of h1) (bneq_of h2) (bneq_of h3) w
  · unfold aft
    rw [if_neg h]
    exact after_out t x h w
end Go.Proofs.YtphopkjgfkaihaaGreatDoor
