/-
  The reference's digits of a number (joineryref01.digits, Text): for every number of 64 bits the decimal numeral.
-/
import Derived.Test.YthdbehalbcoibaaDoorProg
import Derived.Test.YthdbehalbcoibaaDoorNumP
namespace Go.Proofs.YthdbehalbcoibaaDoor
open Go.RowKit

theorem rem_neg {a b : Int} (h : a ≤ 0) : a.tmod b ≤ 0 := by
  have := Int.tmod_nonneg b (a := -a) (by omega)
  rw [Int.neg_tmod] at this
  omega
def digB (n : Int) : ByteArray := ⟨(Lib.decDigits n.natAbs).toArray⟩
theorem digB_toList (n : Int) : (digB n).data.toList = Lib.decDigits n.natAbs := by simp [digB]

theorem one_byte (x : Int) (w : World) :
    Sem.run Tryd.prog (convert 45 9 (.slice (some ⟨w.heap.size, 0, none⟩) 1 1)) (w.alloc (.cells #[.int .u8 x] 5)) = .ok (.string (strOfNums [x])) (w.alloc (.cells #[.int .u8 x] 5)) := by
  refine run_convert_bytes_arg _ 45 5 Tryd.underlying45 Tryd.underlying5 _ _ _ _ [x] rfl ?_ 9 Tryd.underlying9
  intro i hi
  obtain rfl : i = 0 := by simp at hi; omega
  exact cell_one_new w (.int .u8 x) 5 0 _ rfl
theorem ofInt_digit {n : Int} (h0 : n ≤ 0) : (wrap64 (48 - n.tmod 10) % 256).toNat = 48 + n.natAbs % 10 := by
  have h1 : (n.tmod 10).natAbs = n.natAbs % 10 := Int.natAbs_tmod n 10
  have h2 := rem_neg (b := 10) h0
  have h3 : n.natAbs % 10 < 10 := Nat.mod_lt _ (by decide)
  generalize n.tmod 10 = r at *
  generalize n.natAbs % 10 = k at *
  have h4 : wrap64 (48 - r) = 48 + (k : Int) := by unfold wrap64; omega
  rw [h4]
  omega
theorem digB_size {n : Int} (h0 : -9223372036854775808 ≤ n) (h1 : n ≤ 0) : (digB n).size ≤ 19 := by
  have := nDigits_le 18 n.natAbs (by omega)
  show (Lib.decDigits n.natAbs).toArray.size ≤ 19
  simp [Lib.decDigits_length]
  omega

theorem digits_small (n : Int) (h0 : n ≤ 0) (h1 : -10 < n) (w : World) :
    Calls Tryd.prog 11 #[.int .i64 n] w fun e w' => e = .returned (.string (digB n)) ∧ New w w' := by
  have hb := fun x => one_byte x w
  go_enter Tryd.func11, Tryd.ntmps11
  go_wp2
  go_ret
  refine ⟨ret_str ?_, (New.refl _).alloc _⟩
  rw [digB_toList, strOfNums_data, Lib.decDigits_one (by omega)]
  simp only [List.map_cons, List.map_nil]
  rw [ofInt_digit h0, Nat.mod_eq_of_lt (by omega)]

theorem digits_any : ∀ (m : Nat) (n : Int), n.natAbs < m → -9223372036854775808 ≤ n → n ≤ 0 → ∀ w : World,
    Calls Tryd.prog 11 #[.int .i64 n] w fun e w' => e = .returned (.string (digB n)) ∧ New w w' := by
  intro m
  induction m with
  | zero => intro n h; omega
  | succ m ih =>
    intro n hm hlo h0 w
    by_cases h1 : -10 < n
    · exact digits_small n h0 h1 w
    · have hb := fun x => one_byte x w
      have hd : n.tdiv 10 = -((n.natAbs / 10 : Nat) : Int) := by
        have e := Int.neg_tdiv n 10
        rw [Int.tdiv_eq_ediv_of_nonneg (by omega)] at e
        omega
      have hc := ih (n.tdiv 10) (by omega) (by omega) (by omega)
      have H := Lib.hid hc
      have HD := Lib.hid hd
      clear ih hc hd
      go_enter Tryd.func11, Tryd.ntmps11
      go_wp2_with fail
      refine (H.out _).mono ?_
      rintro e w1 ⟨rfl, hn⟩
      have hz := digB_size (n := n.tdiv 10) (by have := HD.out; omega) (by have := HD.out; omega)
      have hz1 := strOfNums_size [wrap64 (48 - n.tmod 10) % 256]
      go_wp2
      go_ret
      refine ⟨ret_str ?_, ((New.refl _).alloc _).trans hn⟩
      have hd := HD.out
      rw [ByteArray.data_append, Array.toList_append, digB_toList, digB_toList, strOfNums_data, decDigits_big (u := n.natAbs) (by omega)]
      simp only [List.map_cons, List.map_nil]
      rw [ofInt_digit h0, show (n.tdiv 10).natAbs = n.natAbs / 10 from by omega]

theorem refText_any (n : Int) (h : In64 n) (w : World) :
    Calls Tryd.prog 7 #[.int .i64 n] w fun e w' => e = .returned (.string (textB n)) ∧ New w w' := by
  unfold In64 at h
  by_cases hn : n < 0
  · have hc := digits_any (n.natAbs + 1) n (by omega) (by omega) (by omega) w
    have hz := digB_size (n := n) (by omega) (by omega)
    have H := Lib.hid hc
    clear hc
    go_enter Tryd.func7, Tryd.ntmps7
    go_wp2_with (go_at_call 11; refine (H.out).mono ?_; rintro e w1 ⟨rfl, hn1⟩)
    go_ret
    refine ⟨ret_str ?_, hn1⟩
    rw [ByteArray.data_append, Array.toList_append, digB_toList, textB_toList, Lib.itoa, if_pos hn]
    rfl
  · have hc := digits_any (n.natAbs + 1) (-n) (by omega) (by omega) (by omega) w
    have H := Lib.hid hc
    clear hc
    go_enter Tryd.func7, Tryd.ntmps7
    go_wp2_with (go_at_call 11; refine (H.out).mono ?_; rintro e w1 ⟨rfl, hn1⟩)
    go_ret
    refine ⟨ret_str ?_, hn1⟩
    rw [digB_toList, textB_toList, Lib.itoa, if_neg (by omega)]
    congr 1
    omega

end Go.Proofs.YthdbehalbcoibaaDoor
