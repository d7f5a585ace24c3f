/-
  The contracts of heap.Right, heap.where and heap.Load: for every row of numbers.
-/
import Derived.Test.YtdghhedenjgjiaaGreatDoorRowAt
import Derived.Test.YtdghhedenjgjiaaGreatDoorHeapMath
namespace Go.Proofs.YtdghhedenjgjiaaGreatDoor
open Go.RowKit

/-- A slice's value that holds a row of numbers. -/
def Hp (w : World) (v : Value) (zs : List Int) : Prop := RowAt w v (zs.map (.int .i64))
theorem Hp.new {w w' : World} {v : Value} {zs : List Int} (h : Hp w v zs) (n : New w w') : Hp w' v zs := RowAt.new h n
theorem Hp.form {w : World} {v : Value} {zs : List Int} (h : Hp w v zs) : ∃ ao cap, v = .slice ao zs.length cap := by
  obtain ⟨ao, cap, e, _⟩ := h
  exact ⟨ao, cap, by rw [e, List.length_map]⟩
theorem Hp.ix {w : World} {ao : Option Addr} {n cap : Nat} {zs : List Int} (h : Hp w (.slice ao n cap) zs) {i : Nat} (hi : i < zs.length) :
    ∃ (a : Addr) (x : Int), zs[i]? = some x ∧ (∀ w', (Instr.indexAt 26 (.slice ao n cap) (.int .i64 (i : Int))).run Tryz.prog w' = .ok (.pointer (some a)) w') ∧ ∀ w', New w w' → w'.cell? a = some (.int .i64 x) := by
  have hl : n = zs.length := by have := RowAt.len h; rwa [List.length_map] at this
  obtain ⟨a, v, e, h1, h2⟩ := RowAt.ix h 26 Tryz.underlying26 Tryz.sizeOf2 (i := i) (by omega)
  rw [List.getElem?_map] at e
  cases hx : zs[i]? with
  | none => rw [hx] at e; cases e
  | some x => rw [hx] at e; obtain rfl := Option.some.inj e; exact ⟨a, x, rfl, h1, h2⟩
theorem Hp.nil (w : World) : Hp w (.slice none 0 0) [] := ⟨none, 0, rfl, fun _ hi => absurd hi (Nat.not_lt_zero _)⟩
theorem ret_vi {v : Value} {a c : Int} (h : a = c) : Ending.returned (.tuple #[v, .int .i64 a]) = .returned (.tuple #[v, .int .i64 c]) := by rw [h]
def whV (zs : List Int) (a : Int) : Int := if inB zs a = true then a else 0
theorem whV_out {zs : List Int} {a : Int} (h : inB zs a = false) : whV zs a = 0 := if_neg (by rw [h]; decide)
theorem ret_ib {a c : Int} {b d : Bool} (h : a = c) (h' : b = d) : Ending.returned (.tuple #[.int .i64 a, .bool b]) = .returned (.tuple #[.int .i64 c, .bool d]) := by rw [h, h']
theorem hpRight_any (ao : Option Addr) (n cap : Nat) (w : World) :
    Calls Tryz.prog 38 #[.slice ao n cap] w fun e w' => e = .returned (.bool (decide (n ≤ 16))) ∧ w' = w := by
  by_cases h : n ≤ 16
  · have h' : (n : Int) ≤ 16 := by omega
    go_enter Tryz.func38, Tryz.ntmps38
    go_wp2
    go_ret
    exact ⟨by simp [h], rfl⟩
  · have h' : ¬ (n : Int) ≤ 16 := by omega
    go_enter Tryz.func38, Tryz.ntmps38
    go_wp2
    go_ret
    exact ⟨by simp, rfl⟩
theorem hpRight_is (ao : Option Addr) (n cap : Nat) (w : World) {b : Bool} (h : decide (n ≤ 16) = b) :
    Calls Tryz.prog 38 #[.slice ao n cap] w fun e w' => e = .returned (.bool b) ∧ w' = w := h ▸ hpRight_any ao n cap w
set_option maxHeartbeats 1000000 in
theorem where_any (zs : List Int) (a : Int) (ao : Option Addr) (n cap : Nat) (w : World) (hn : n = zs.length) :
    Calls Tryz.prog 70 #[.slice ao n cap, .int .i64 a] w fun e w' => e = .returned (.tuple #[.int .i64 (whV zs a), .bool (inB zs a)]) ∧ w' = w := by
  have HN := Lib.hid hn
  clear hn
  by_cases h16 : n ≤ 16
  · have D16 : Hid (decide (n ≤ 16) = true) := Lib.hid (decide_eq_true h16)
    go_enter Tryz.func70, Tryz.ntmps70
    go_wp2_with (go_at_call 38; refine (hpRight_is _ _ _ _ D16.out).mono ?_; rintro e w1 ⟨rfl, rfl⟩)
    go_loop [12] (fun kv => ∃ k : Nat, kv = .int .i64 k ∧ k ≤ n ∧ Hid (∀ j : Nat, j < k → (j : Int) ≠ a)) (fun kv => n - (intOf kv).toNat)
    case atStart => exact ⟨0, rfl, by omega, Lib.hid (fun j hj => by omega)⟩
    case round =>
      obtain ⟨k, rfl, hk, HB⟩ := hrel
      by_cases hlt : k < n
      · have hlt' : (k : Int) < (n : Int) := by omega
        by_cases he : (k : Int) = a
        · have q := beq_of he
          have HI : Hid (inB zs a = true) := Lib.hid (by rw [← he]; exact inB_mk (by have := HN.out; omega) (by have := HN.out; omega))
          have HE := Lib.hid he
          clear he
          go_wp2
          go_ret2
          refine ⟨?_, rfl⟩
          exact ret_ib (HE.out.trans (if_pos HI.out).symm) HI.out.symm
        · have q := bneq_of he
          have HE := Lib.hid he
          clear he
          go_wp2
          go_round
          case rel => exact ⟨k + 1, by go_num, hlt, Lib.hid (fun j hj => by
            by_cases e : j = k
            · subst e; exact HE.out
            · exact HB.out j (by omega))⟩
          case measure => simp [intOf]; omega
      · have hlt' : ¬ (k : Int) < (n : Int) := by omega
        have HI : Hid (inB zs a = false) := Lib.hid (inB_none fun j hj => HB.out j (by have := HN.out; omega))
        go_wp2
        go_ret2
        refine ⟨?_, rfl⟩
        exact ret_ib (whV_out HI.out).symm HI.out.symm
  · have D16 : Hid (decide (n ≤ 16) = false) := Lib.hid (decide_eq_false h16)
    have HI : Hid (inB zs a = false) := Lib.hid (inB_big a (by have := HN.out; omega))
    go_enter Tryz.func70, Tryz.ntmps70
    go_wp2_with (go_at_call 38; refine (hpRight_is _ _ _ _ D16.out).mono ?_; rintro e w1 ⟨rfl, rfl⟩)
    go_ret2
    refine ⟨?_, rfl⟩
    exact ret_ib (whV_out HI.out).symm HI.out.symm
theorem where_is (zs : List Int) (a : Int) (ao : Option Addr) (n cap : Nat) (w : World) (hn : n = zs.length) (hi : inB zs a = true) :
    Calls Tryz.prog 70 #[.slice ao n cap, .int .i64 a] w fun e w' => e = .returned (.tuple #[.int .i64 a, .bool true]) ∧ w' = w := by
  have := where_any zs a ao n cap w hn
  rw [hi, show whV zs a = a from if_pos hi] at this
  exact this
theorem where_out (zs : List Int) (a : Int) (ao : Option Addr) (n cap : Nat) (w : World) (hn : n = zs.length) (hi : inB zs a = false) :
    Calls Tryz.prog 70 #[.slice ao n cap, .int .i64 a] w fun e w' => e = .returned (.tuple #[.int .i64 0, .bool false]) ∧ w' = w := by
  have := where_any zs a ao n cap w hn
  rw [hi, whV_out hi] at this
  exact this
set_option maxHeartbeats 1000000 in
theorem load_in (zs : List Int) (a : Int) (ao : Option Addr) (n cap : Nat) (w : World) (h : Hp w (.slice ao n cap) zs) :
    Calls Tryz.prog 55 #[.slice ao n cap, .int .i64 a] w fun e w' => e = .returned (.tuple #[.int .i64 (hpLd zs a), .int .i64 (hpHow zs a)]) ∧ w' = w := by
  have HN : Hid (n = zs.length) := Lib.hid (by have := RowAt.len h; rwa [List.length_map] at this)
  cases hi : inB zs a with
  | true =>
    have hd := inB_nat hi
    obtain ⟨p, x, e, hx, hc⟩ := Hp.ix h hd.2.2
    rw [← hd.2.1] at hx
    have hc' := hc w (New.refl w)
    have HE : Hid (x = hpLd zs a) := Lib.hid (by rw [hpLd_in hi] at e; exact (Option.some.inj e).symm)
    have HH := Lib.hid (hpHow_in hi)
    have HI : Hid (inB zs a = true) := Lib.hid hi
    clear h hd e hc
    go_enter Tryz.func55, Tryz.ntmps55
    go_wp2_with (go_at_call 70; refine (where_is zs a _ _ _ _ HN.out HI.out).mono ?_; rintro e w1 ⟨rfl, rfl⟩)
    go_ret2
    refine ⟨?_, rfl⟩
    exact ret_pair HE.out HH.out.symm
  | false =>
    have HE := Lib.hid (hpLd_out hi)
    have HH := Lib.hid (hpHow_out hi)
    have HI : Hid (inB zs a = false) := Lib.hid hi
    clear h
    go_enter Tryz.func55, Tryz.ntmps55
    go_wp2_with (go_at_call 70; refine (where_out zs a _ _ _ _ HN.out HI.out).mono ?_; rintro e w1 ⟨rfl, rfl⟩)
    go_ret2
    refine ⟨?_, rfl⟩
    exact ret_pair HE.out.symm HH.out.symm
theorem load_any (zs : List Int) (a : Int) (v : Value) (w : World) (h : Hp w v zs) :
    Calls Tryz.prog 55 #[v, .int .i64 a] w fun e w' => e = .returned (.tuple #[.int .i64 (hpLd zs a), .int .i64 (hpHow zs a)]) ∧ w' = w := by
  obtain ⟨ao, cap, rfl⟩ := h.form
  exact load_in zs a ao _ cap w h
end Go.Proofs.YtdghhedenjgjiaaGreatDoor
