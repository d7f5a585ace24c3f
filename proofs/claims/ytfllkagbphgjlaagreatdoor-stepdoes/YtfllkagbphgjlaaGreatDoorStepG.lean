/-
  Layer 7's bound on what its laws look at ('great').
-/
import Derived.Test.YtfllkagbphgjlaaGreatDoorStepG0
import Derived.Test.YtfllkagbphgjlaaGreatDoorStepF
namespace Go.Proofs.YtfllkagbphgjlaaGreatDoor
open Go.RowKit

/-- The law's bound. -/
def greatB (n k a : Nat) : Bool := decide (300 < n ∨ 100 < k ∨ 1000 < a)
set_option maxHeartbeats 1000000 in
theorem great_any (ao : Option Addr) (n cap : Nat) (l : Ws) (s : Sl) (p q : Int) (bo : Option Addr) (bn bc : Nat) (w : World) :
    Calls Tryz.prog 11 #[.slice ao n cap, .agg (cellsS l s p q).toArray, .slice bo bn bc] w fun e w' => e = .returned (.bool (greatB n s.n bn)) ∧ New w w' := by
  obtain ⟨so, sn, sc⟩ := s
  unfold greatB
  by_cases c1 : (300 : Int) < (n : Int)
  · rw [decide_eq_true (by omega)]
    go_enter Tryz.func11, Tryz.ntmps11
    go_wp2_with (first
      | (refine wpList_boxX rfl 28 (.tmp 1) rfl (cellsS l ⟨so, sn, sc⟩ p q) rfl ?_; intro w1 g1 hg1 hl1 H1 hn1; have k1 := HasS.hp H1; have HS := Lib.hid H1; clear H1))
    go_ret
    exact ⟨rfl, hn1⟩
  · by_cases c2 : (100 : Int) < (sn : Int)
    · rw [decide_eq_true (by right; left; show 100 < sn; omega)]
      go_enter Tryz.func11, Tryz.ntmps11
      go_wp2_with (first
        | (refine wpList_boxX rfl 28 (.tmp 1) rfl (cellsS l ⟨so, sn, sc⟩ p q) rfl ?_; intro w1 g1 hg1 hl1 H1 hn1; have k1 := HasS.hp H1; have HS := Lib.hid H1; clear H1))
      go_ret
      exact ⟨rfl, hn1⟩
    · by_cases c3 : (1000 : Int) < (bn : Int)
      · rw [decide_eq_true (by omega)]
        go_enter Tryz.func11, Tryz.ntmps11
        go_wp2_with (first
          | (refine wpList_boxX rfl 28 (.tmp 1) rfl (cellsS l ⟨so, sn, sc⟩ p q) rfl ?_; intro w1 g1 hg1 hl1 H1 hn1; have k1 := HasS.hp H1; have HS := Lib.hid H1; clear H1))
        go_ret
        exact ⟨rfl, hn1⟩
      · rw [decide_eq_false (by rintro (h | h | h) <;> (try simp only at h) <;> omega)]
        go_enter Tryz.func11, Tryz.ntmps11
        go_wp2_with (first
          | (refine wpList_boxX rfl 28 (.tmp 1) rfl (cellsS l ⟨so, sn, sc⟩ p q) rfl ?_; intro w1 g1 hg1 hl1 H1 hn1; have k1 := HasS.hp H1; have HS := Lib.hid H1; clear H1))
        go_ret
        exact ⟨rfl, hn1⟩
theorem great_is {w0 : World} {v va : Value} {f : List I} {l : Ws} {s : Sl} {p q : Int} {zs az : List Int} {w : World} (_h : New w0 w) (hf : FunAt w v f) (hp : Hp w (.slice s.ao s.n s.c) zs) (ha : Hp w va az) {b : Bool} (hb : greatB f.length zs.length az.length = b) :
    Calls Tryz.prog 11 #[v, .agg (cellsS l s p q).toArray, va] w fun e w' => e = .returned (.bool b) ∧ New w w' := by
  obtain ⟨ao, cap, rfl⟩ := hf.form
  obtain ⟨bo, bc, rfl⟩ := ha.form
  have := great_any ao f.length cap l s p q bo az.length bc w
  rw [hp.len, hb] at this
  exact this
theorem not_great {n k a : Nat} (h : greatB n k a = false) : n ≤ 300 ∧ k ≤ 100 ∧ a ≤ 1000 := by
  have := of_decide_eq_false h
  omega
end Go.Proofs.YtfllkagbphgjlaaGreatDoor
