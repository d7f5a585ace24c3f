/-
  Equality of words and of rows of words, as the program's operators reckon it.
-/
import Derived.Test.YtfjlglnjonijdaaGreatDoorEnvEq
import Derived.Test.YtfjlglnjonijdaaGreatDoorEnvAW
namespace Go.Proofs.YtfjlglnjonijdaaGreatDoor
open Go.RowKit
theorem eqIn_word (d : Nat) (x y : Wd) (w : World) : (Op.equalIn (d + 2) 24 (.agg #[.bool x.1, .int .i64 x.2]) (.agg #[.bool y.1, .int .i64 y.2])).run Tryz.prog w = .ok (decide (x = y)) w := by
  have hS : Tryz.prog.underlying 24 = some (.struct (Tryz.prog.fieldsOf 24)) := by kernel_rfl
  rw [run_equalIn_agg w (d + 1) 24 _ _ hS (by kernel_rfl)]
  simp only [Program.fieldsOf, Tryz.underlying24]
  have u3 := Tryz.underlying2
  have a3 := Tryz.isAgg2
  have u4 := Tryz.underlying4
  have a4 := Tryz.isAgg4
  obtain ⟨x1, x2⟩ := x
  obtain ⟨y1, y2⟩ := y
  go_simp
  by_cases h1 : x1 = y1 <;> by_cases h2 : x2 = y2 <;> simp [h1, h2]
theorem part_word (l : Ws) {k : Nat} (hk : k < 24) (w : World) : (part 24 (cellsW l) (k * 2)).run Tryz.prog w = .ok (.agg #[.bool (l k).1, .int .i64 (l k).2]) w := by
  unfold part
  have e : (cellsW l).extract (k * 2) (k * 2 + 2) = #[.bool (l k).1, .int .i64 (l k).2] := by
    apply Array.ext_getElem?
    intro j
    rw [Array.getElem?_extract]
    have hz := cellsW_size l
    by_cases hj : j < 2
    · rw [if_pos (by rw [hz]; omega), show k * 2 + j = 2 * k + j by omega, cellsW_at l hk hj]
      simp [wcells]
    · rw [if_neg (by rw [hz]; omega), Array.getElem?_eq_none (by simp; omega)]
  simp [Tryz.isAgg24 w, e]
theorem cellsD : Tryz.prog.cellsOf 24 = 2 := by kernel_rfl
def eqW (l m : Ws) : Bool := (List.range 24).all fun i => decide (l i = m i)
theorem items_word (l m : Ws) (d : Nat) (w : World) : ∀ is : List Nat, (∀ i ∈ is, i < 24) → (Op.eqItems (d + 2) 24 2 (cellsW l) (cellsW m) is).run Tryz.prog w = .ok (is.all fun i => decide (l i = m i)) w
  | [], _ => by simp [Op.eqItems]
  | i :: is, h => by
    have hi := h i (by simp)
    have ih := items_word l m d w is (fun j hj => h j (by simp [hj]))
    simp only [Op.eqItems, Sem.run_bind, part_word l hi, part_word m hi, Result.andThen_ok, eqIn_word d (l i) (m i)]
    by_cases e : l i = m i
    · simp [e, ih]
    · simp [e]
theorem equal_W (l m : Ws) (w : World) : (Op.equalIn 10000 25 (.agg (cellsW l)) (.agg (cellsW m))).run Tryz.prog w = .ok (eqW l m) w := by
  obtain ⟨i, hi⟩ := info_some 24 (by kernel_rfl)
  rw [show (10000 : Nat) = 9999 + 1 from rfl, run_equalIn_array w 9999 _ _ Tryz.underlying25 hi, cellsD]
  exact items_word l m 9997 w _ (fun i hi => List.mem_range.mp hi)

theorem eqW_iff {t u : Ws} : eqW t u = true ↔ ∀ i < 24, t i = u i := by simp [eqW]
theorem eql_W (l m : Ws) (w : World) : (binOp .eql 25 (.agg (cellsW l)) (.agg (cellsW m))).run Tryz.prog w = .ok (.bool (eqW l m)) w := by
  rw [run_eql_struct, equal_W l m]; rfl
theorem guard_W (l m : Ws) (op : BinOp) (x y : Operand) (w : World) : (eqGuard op 25 x y (.agg (cellsW l)) (.agg (cellsW m))).run Tryz.prog w = .ok () w :=
  run_eqGuard_agg w op 25 x y _ _ (by kernel_rfl)
end Go.Proofs.YtfjlglnjonijdaaGreatDoor
