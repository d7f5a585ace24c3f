/-
  The contract of num.Do (with the map of operations that each call makes): for every op and every two numbers what is told is 'hasB', 'doV', 'doH'; nothing that was in memory has turned.
-/
import Derived.Test.YtphopkjgfkaihaaGreatDoorProg
import Derived.Test.YtphopkjgfkaihaaGreatDoorPlain
import Derived.WalkSpells
import Derived.WalkLawsBesides
import Derived.MapKept
import Derived.Lib.Hide
import Derived.Shelf.Abstract
namespace Go.Proofs.YtphopkjgfkaihaaGreatDoor
open Go.RowKit

def opFn : Nat → Nat
  | 0 => 117 | 1 => 118 | 2 => 119 | 3 => 120 | 4 => 121
  | 5 => 122 | 6 => 123 | 7 => 124 | 8 => 125 | _ => 0
def opEnt (k : Nat) : MapEntry := { key := .int .i64 (k + 4 : Nat), val := .func (.func (opFn k)) #[] #[], born := k }
def opArr (n : Nat) : Array MapEntry := ((List.range n).map opEnt).toArray
def opObj (n : Nat) : Obj := .map (opArr n) n

theorem findNow_ops : ∀ n ≤ 9, Instr.findNow (.int .i64) (.int .i64 (n + 4 : Nat)) (opArr n).toList 0 = some none := by
  intro n hn
  have : n = 0 ∨ n = 1 ∨ n = 2 ∨ n = 3 ∨ n = 4 ∨ n = 5 ∨ n = 6 ∨ n = 7 ∨ n = 8 ∨ n = 9 := by omega
  rcases this with rfl | rfl | rfl | rfl | rfl | rfl | rfl | rfl | rfl | rfl <;> rfl
theorem arr_push (n : Nat) : (opArr n).push (opEnt n) = opArr (n + 1) := by simp [opArr, List.range_succ]

theorem push_set {α : Type} (xs : Array α) (a b : α) : (xs.push a).setIfInBounds xs.size b = xs.push b := by
  apply Array.ext'; simp
theorem run_mapInsert_new {P : Program} (w : World) (t kt et : TypeId) (d : TypeDesc) (es : Array MapEntry) (clock : Nat) (key val : Value) (ht : P.underlying t = some (.map kt et)) (hk : P.underlying kt = some d) (hd : MapKept.IsKey d key)
    (hf : Instr.findNow d key es.toList 0 = some none) :
    (Instr.mapUpdate t (.map (some w.heap.size)) key val).run P (w.alloc (.map es clock)) = .ok () (w.alloc (.map (es.push { key, val, born := clock }) (clock + 1))) := by
  have hb : (w.alloc (.map es clock)).heap[w.heap.size]? = some (.map es clock) := by show (w.heap.push _)[_]? = _; simp
  have hc : (Instr.checkKey false 10000 kt key).run P (w.alloc (.map es clock)) = .ok () (w.alloc (.map es clock)) := MapKept.run_checkKey (k := key) hk hd false 9999
  simp [Instr.mapUpdate, run_underlying ht, MapKept.run_getObj_map hb, hc, MapKept.run_findKey hk hf, MapKept.run_setObj_map _ hb, Result.andThen]
  rw [show (w.alloc (Obj.map es clock)).heap = w.heap.push (.map es clock) from rfl, push_set]
  rfl
theorem run_insert (n : Nat) (hn : n ≤ 9) (w : World) :
    (Instr.mapUpdate 186 (.map (some w.heap.size)) (.int .i64 (n + 4 : Nat)) (.func (.func (opFn n)) #[] #[])).run Tryz.prog (w.alloc (opObj n)) = .ok () (w.alloc (opObj (n + 1))) := by
  have h := run_mapInsert_new (P := Tryz.prog) w 186 3 184 (.int .i64) (opArr n) n (.int .i64 (n + 4 : Nat)) (.func (.func (opFn n)) #[] #[]) (by kernel_rfl) (by kernel_rfl) rfl (findNow_ops n hn)
  have e := arr_push n
  unfold opEnt at e
  rw [e] at h
  exact h

set_option maxHeartbeats 400000 in
theorem operations_any (w : World) :
    Calls Tryz.prog 106 #[] w fun e w' => e = .returned (.map (some w.heap.size)) ∧ w' = w.alloc (opObj 9) := by
  have hmm : ∀ w, Sem.run Tryz.prog (Instr.makeMap 186 none) w = Result.ok (Value.map (some w.heap.size)) (w.alloc (opObj 0)) := fun w => @run_makeMap Tryz.prog 186 w
  have h0 := run_insert 0 (by decide) w
  have h1 := run_insert 1 (by decide) w
  have h2 := run_insert 2 (by decide) w
  have h3 := run_insert 3 (by decide) w
  have h4 := run_insert 4 (by decide) w
  have h5 := run_insert 5 (by decide) w
  have h6 := run_insert 6 (by decide) w
  have h7 := run_insert 7 (by decide) w
  have h8 := run_insert 8 (by decide) w
  simp only [Nat.reduceAdd, Int.cast_ofNat_Int, opFn] at h0 h1 h2 h3 h4 h5 h6 h7 h8
  go_enter Tryz.func106, Tryz.ntmps106
  go_wp2
  go_ret
  exact ⟨rfl, rfl⟩

theorem run_lookup_found {P : Program} (w : World) (t kt et : TypeId) (d : TypeDesc) (es : Array MapEntry) (clock i : Nat) (key v : Value) (ht : P.underlying t = some (.map kt et)) (hk : P.underlying kt = some d) (hd : MapKept.IsKey d key)
    (hf : Instr.findNow d key es.toList 0 = some (some (i, v))) :
    (Instr.lookup t (.map (some w.heap.size)) key true).run P (w.alloc (.map es clock)) = .ok (.tuple #[v, .bool true]) (w.alloc (.map es clock)) := by
  have hb : (w.alloc (.map es clock)).heap[w.heap.size]? = some (.map es clock) := by show (w.heap.push _)[_]? = _; simp
  have hc : ∀ e, (Instr.checkKey e 10000 kt key).run P (w.alloc (.map es clock)) = .ok () (w.alloc (.map es clock)) := fun e => MapKept.run_checkKey (k := key) hk hd e 9999
  simp [Instr.lookup, run_underlying ht, MapKept.run_getObj_map hb, hc, MapKept.run_findKey hk hf, Result.andThen]
theorem run_lookup_none {P : Program} (w : World) (t kt et : TypeId) (d : TypeDesc) (es : Array MapEntry) (clock : Nat) (key z : Value) (ht : P.underlying t = some (.map kt et)) (hk : P.underlying kt = some d) (hd : MapKept.IsKey d key)
    (hz : ∀ w, (zeroValue et).run P w = .ok z w) (hf : Instr.findNow d key es.toList 0 = some none) :
    (Instr.lookup t (.map (some w.heap.size)) key true).run P (w.alloc (.map es clock)) = .ok (.tuple #[z, .bool false]) (w.alloc (.map es clock)) := by
  have hb : (w.alloc (.map es clock)).heap[w.heap.size]? = some (.map es clock) := by show (w.heap.push _)[_]? = _; simp
  have hc : ∀ e, (Instr.checkKey e 10000 kt key).run P (w.alloc (.map es clock)) = .ok () (w.alloc (.map es clock)) := fun e => MapKept.run_checkKey (k := key) hk hd e 9999
  simp [Instr.lookup, run_underlying ht, MapKept.run_getObj_map hb, hc, MapKept.run_findKey hk hf, hz, Result.andThen]

theorem findNow_yes : ∀ n < 9, Instr.findNow (.int .i64) (.int .i64 (n + 4 : Nat)) (opArr 9).toList 0 = some (some (n, .func (.func (opFn n)) #[] #[])) := by
  intro n hn
  have : n = 0 ∨ n = 1 ∨ n = 2 ∨ n = 3 ∨ n = 4 ∨ n = 5 ∨ n = 6 ∨ n = 7 ∨ n = 8 := by omega
  rcases this with rfl | rfl | rfl | rfl | rfl | rfl | rfl | rfl | rfl <;> rfl
theorem findNow_no (op : Int) (h : op < 4 ∨ 12 < op) : Instr.findNow (.int .i64) (.int .i64 op) (opArr 9).toList 0 = some none := by
  have hn : ∀ k : Nat, k < 9 → (op == ((k + 4 : Nat) : Int)) = false := fun k hk => by rw [beq_eq_false_iff_ne]; omega
  have : (opArr 9).toList = [opEnt 0, opEnt 1, opEnt 2, opEnt 3, opEnt 4, opEnt 5, opEnt 6, opEnt 7, opEnt 8] := rfl
  rw [this]
  simp only [Instr.findNow, opEnt, Instr.sameNow, if_true, hn 0 (by decide), hn 1 (by decide), hn 2 (by decide), hn 3 (by decide), hn 4 (by decide), hn 5 (by decide), hn 6 (by decide), hn 7 (by decide), hn 8 (by decide)]

theorem look_yes (n : Nat) (hn : n < 9) (w : World) : (Instr.lookup 186 (.map (some w.heap.size)) (.int .i64 (n + 4 : Nat)) true).run Tryz.prog (w.alloc (opObj 9)) = .ok (.tuple #[.func (.func (opFn n)) #[] #[], .bool true]) (w.alloc (opObj 9)) :=
  run_lookup_found w 186 3 184 (.int .i64) (opArr 9) 9 n _ _ (by kernel_rfl) (by kernel_rfl) rfl (findNow_yes n hn)
theorem look_no (op : Int) (h : op < 4 ∨ 12 < op) (w : World) : (Instr.lookup 186 (.map (some w.heap.size)) (.int .i64 op) true).run Tryz.prog (w.alloc (opObj 9)) = .ok (.tuple #[.nilFunc, .bool false]) (w.alloc (opObj 9)) :=
  run_lookup_none w 186 3 184 (.int .i64) (opArr 9) 9 _ _ (by kernel_rfl) (by kernel_rfl) rfl (fun _ => by kernel_rfl) (findNow_no op h)

theorem num_add_any (a b : Int) (w : World) :
    Calls Tryz.prog 117 #[.int .i64 a, .int .i64 b] w fun e w' => e = .returned (.tuple #[.int .i64 (wrap64 (a + b)), .int .i64 0]) ∧ w' = w := by
  go_enter Tryz.func117, Tryz.ntmps117
  go_wp2
  go_ret2
  exact ⟨rfl, rfl⟩
theorem num_sub_any (a b : Int) (w : World) :
    Calls Tryz.prog 118 #[.int .i64 a, .int .i64 b] w fun e w' => e = .returned (.tuple #[.int .i64 (wrap64 (a - b)), .int .i64 0]) ∧ w' = w := by
  go_enter Tryz.func118, Tryz.ntmps118
  go_wp2
  go_ret2
  exact ⟨rfl, rfl⟩
theorem num_mul_any (a b : Int) (w : World) :
    Calls Tryz.prog 119 #[.int .i64 a, .int .i64 b] w fun e w' => e = .returned (.tuple #[.int .i64 (wrap64 (a * b)), .int .i64 0]) ∧ w' = w := by
  go_enter Tryz.func119, Tryz.ntmps119
  go_wp2
  go_ret2
  exact ⟨rfl, rfl⟩
theorem num_div_any (a b : Int) (w : World) (hb : (b == 0) = false) :
    Calls Tryz.prog 120 #[.int .i64 a, .int .i64 b] w fun e w' => e = .returned (.tuple #[.int .i64 (wrap64 (a.tdiv b)), .int .i64 0]) ∧ w' = w := by
  have hb' : ¬ b = 0 := by simpa using hb
  go_enter Tryz.func120, Tryz.ntmps120
  go_wp2
  go_ret2
  exact ⟨rfl, rfl⟩
theorem div_zero (a : Int) (w : World) :
    Calls Tryz.prog 120 #[.int .i64 a, .int .i64 0] w fun e w' => e = .returned (.tuple #[.int .i64 0, .int .i64 3]) ∧ w' = w := by
  go_enter Tryz.func120, Tryz.ntmps120
  go_wp2
  go_ret2
  exact ⟨rfl, rfl⟩
theorem num_and_any (a b : Int) (w : World) :
    Calls Tryz.prog 121 #[.int .i64 a, .int .i64 b] w fun e w' => e = .returned (.tuple #[.int .i64 (bits .and .i64 a b), .int .i64 0]) ∧ w' = w := by
  go_enter Tryz.func121, Tryz.ntmps121
  go_wp2
  go_ret2
  exact ⟨rfl, rfl⟩
theorem num_or_any (a b : Int) (w : World) :
    Calls Tryz.prog 122 #[.int .i64 a, .int .i64 b] w fun e w' => e = .returned (.tuple #[.int .i64 (bits .or .i64 a b), .int .i64 0]) ∧ w' = w := by
  go_enter Tryz.func122, Tryz.ntmps122
  go_wp2
  go_ret2
  exact ⟨rfl, rfl⟩
theorem xnum_or_any (a b : Int) (w : World) :
    Calls Tryz.prog 123 #[.int .i64 a, .int .i64 b] w fun e w' => e = .returned (.tuple #[.int .i64 (bits .xor .i64 a b), .int .i64 0]) ∧ w' = w := by
  go_enter Tryz.func123, Tryz.ntmps123
  go_wp2
  go_ret2
  exact ⟨rfl, rfl⟩
theorem num_less_any (a b : Int) (w : World) :
    Calls Tryz.prog 124 #[.int .i64 a, .int .i64 b] w fun e w' => e = .returned (.tuple #[.int .i64 (if a < b then 1 else 0), .int .i64 0]) ∧ w' = w := by
  by_cases h : a < b
  · rw [if_pos h]
    go_enter Tryz.func124, Tryz.ntmps124
    go_wp2
    go_ret2
    exact ⟨rfl, rfl⟩
  · rw [if_neg h]
    go_enter Tryz.func124, Tryz.ntmps124
    go_wp2
    go_ret2
    exact ⟨rfl, rfl⟩
theorem num_same_any (a b : Int) (w : World) :
    Calls Tryz.prog 125 #[.int .i64 a, .int .i64 b] w fun e w' => e = .returned (.tuple #[.int .i64 (if a = b then 1 else 0), .int .i64 0]) ∧ w' = w := by
  by_cases h : a = b
  · rw [if_pos h]
    have h' : (a == b) = true := by simpa using h
    clear h
    go_enter Tryz.func125, Tryz.ntmps125
    go_wp2
    go_ret2
    exact ⟨rfl, rfl⟩
  · rw [if_neg h]
    have h' : (a == b) = false := by simpa using h
    clear h
    go_enter Tryz.func125, Tryz.ntmps125
    go_wp2
    go_ret2
    exact ⟨rfl, rfl⟩

/-- num.Do at an operation that is one: by the function that the map has. -/
theorem do_by (n : Nat) (hn : n < 9) (a b v h : Int) (w : World) (f : Nat) (hf : opFn n = f)
    (hent : ∀ args w, (callFunc f args).run Tryz.prog w = .ok (.enter f args) w)
    (hc : ∀ w, Calls Tryz.prog f #[.int .i64 a, .int .i64 b] w fun e w' => e = .returned (.tuple #[.int .i64 v, .int .i64 h]) ∧ w' = w) :
    Calls Tryz.prog 83 #[.int .i64 (n + 4 : Nat), .int .i64 a, .int .i64 b] w fun e w' => e = .returned (.tuple #[.int .i64 v, .int .i64 h]) ∧ w' = w.alloc (opObj 9) := by
  have hl := look_yes n hn w
  rw [hf] at hl
  clear hf
  generalize ((n + 4 : Nat) : Int) = op at hl ⊢
  have H := Lib.hid hc
  clear hc
  go_enter Tryz.func83, Tryz.ntmps83
  go_wp2_with (first | (go_at_call 106; refine (operations_any _).mono ?_; rintro e w' ⟨rfl, rfl⟩) | (refine (H.out _).mono ?_; rintro e w' ⟨rfl, rfl⟩))
  go_ret2
  exact ⟨rfl, rfl⟩

theorem do_no (op a b : Int) (h : op < 4 ∨ 12 < op) (w : World) :
    Calls Tryz.prog 83 #[.int .i64 op, .int .i64 a, .int .i64 b] w fun e w' => e = .returned (.tuple #[.int .i64 0, .int .i64 2]) ∧ w' = w.alloc (opObj 9) := by
  have hl := look_no op h w
  clear h
  go_enter Tryz.func83, Tryz.ntmps83
  go_wp2_with (go_at_call 106; refine (operations_any _).mono ?_; rintro e w' ⟨rfl, rfl⟩)
  go_ret2
  exact ⟨rfl, rfl⟩
theorem do_any (op a b : Int) (w : World) :
    Calls Tryz.prog 83 #[.int .i64 op, .int .i64 a, .int .i64 b] w fun e w' => e = .returned (.tuple #[.int .i64 (doV op a b), .int .i64 (doH op b)]) ∧ w' = w.alloc (opObj 9) := by
  by_cases h : op < 4 ∨ 12 < op
  · have h1 : doV op a b = 0 := by unfold doV; rw [if_neg (by omega), if_neg (by omega), if_neg (by omega), if_neg (by omega), if_neg (by omega), if_neg (by omega), if_neg (by omega), if_neg (by omega), if_neg (by omega)]
    have h2 : doH op b = 2 := by unfold doH; rw [if_pos h]
    rw [h1, h2]
    exact do_no op a b h w
  · have : op = 4 ∨ op = 5 ∨ op = 6 ∨ op = 7 ∨ op = 8 ∨ op = 9 ∨ op = 10 ∨ op = 11 ∨ op = 12 := by omega
    clear h
    rcases this with rfl | rfl | rfl | rfl | rfl | rfl | rfl | rfl | rfl
    · exact do_by 0 (by decide) a b _ 0 w _ rfl (fun args w => enters_of Tryz.func117 (by kernel_rfl) rfl args w) (num_add_any a b)
    · exact do_by 1 (by decide) a b _ 0 w _ rfl (fun args w => enters_of Tryz.func118 (by kernel_rfl) rfl args w) (num_sub_any a b)
    · exact do_by 2 (by decide) a b _ 0 w _ rfl (fun args w => enters_of Tryz.func119 (by kernel_rfl) rfl args w) (num_mul_any a b)
    · by_cases hb : b = 0
      · subst hb
        exact do_by 3 (by decide) a 0 0 3 w _ rfl (fun args w => enters_of Tryz.func120 (by kernel_rfl) rfl args w) (div_zero a)
      · have h1 : doV 7 a b = wrap64 (a.tdiv b) := by simp [doV, hb]
        have h2 : doH 7 b = 0 := by simp [doH, hb]
        rw [h1, h2]
        exact do_by 3 (by decide) a b _ 0 w _ rfl (fun args w => enters_of Tryz.func120 (by kernel_rfl) rfl args w) (fun w => num_div_any a b w (by simpa using hb))
    · exact do_by 4 (by decide) a b _ 0 w _ rfl (fun args w => enters_of Tryz.func121 (by kernel_rfl) rfl args w) (num_and_any a b)
    · exact do_by 5 (by decide) a b _ 0 w _ rfl (fun args w => enters_of Tryz.func122 (by kernel_rfl) rfl args w) (num_or_any a b)
    · exact do_by 6 (by decide) a b _ 0 w _ rfl (fun args w => enters_of Tryz.func123 (by kernel_rfl) rfl args w) (xnum_or_any a b)
    · exact do_by 7 (by decide) a b _ 0 w _ rfl (fun args w => enters_of Tryz.func124 (by kernel_rfl) rfl args w) (num_less_any a b)
    · exact do_by 8 (by decide) a b _ 0 w _ rfl (fun args w => enters_of Tryz.func125 (by kernel_rfl) rfl args w) (num_same_any a b)

theorem do_new {w0 : World} (op a b : Int) (w : World) (h : New w0 w) {v q : Int} (hv : doV op a b = v) (hq : doH op b = q) :
    Calls Tryz.prog 83 #[.int .i64 op, .int .i64 a, .int .i64 b] w fun e w' => e = .returned (.tuple #[.int .i64 v, .int .i64 q]) ∧ New w0 w' := by
  subst hv hq
  refine (do_any op a b w).mono ?_
  rintro e w' ⟨rfl, rfl⟩
  exact ⟨rfl, h.alloc _⟩
end Go.Proofs.YtphopkjgfkaihaaGreatDoor
