/-
  A source as the reference's, in plain words.
  The contracts of layer 5's reference (New, Good, good).
-/
import Derived.Test.YtphopkjgfkaihaaGreatDoorEnvAfter
import Derived.Test.YtphopkjgfkaihaaGreatDoorOwn2
namespace Go.Proofs.YtphopkjgfkaihaaGreatDoor
open Go.RowKit

/-- A source as the reference's. -/
def refS (s : Sr) : Int × Int := if s.1 = 0 then (0, s.2) else if s.1 = 1 then (1, s.2) else (2, 0)
end Go.Proofs.YtphopkjgfkaihaaGreatDoor
namespace Go.Proofs.YtphopkjgfkaihaaGreatDoor
open Go.RowKit

def rcells (s : Sr) : List Value := [.int .i64 (refS s).1, .int .i64 (refS s).2]
theorem infoR2 : (Tryz.prog.info? 113).map (fun i => (i.zero, i.size, i.bytes)) = some (some (.agg #[.int .i64 0, .int .i64 0]), 2, 16) := by kernel_rfl
theorem sizeR : ∀ w, (sizeOf 113).run Tryz.prog w = .ok 2 w := Tryz.sizeOf113
theorem own_newE {w w' : World} {B n : Nat} {e : TypeId} {v : Value} {g : Nat → List Value} (h : OwnG w B e v n g) (hn : New w w') : OwnG w' B e v n g :=
  ⟨h.1, h.2.elim .inl fun ⟨k, cap, cur, h1, h2, h3, h4⟩ => .inr ⟨k, cap, cur, h1, h2, hn.heap h3, h4⟩⟩
set_option maxHeartbeats 2000000 in
set_option maxRecDepth 100000 in
theorem refNew_own (w : World) :
    Calls Tryz.prog 102 #[] w fun e w' => ∃ v, e = .returned v ∧ OwnG w' w.heap.size 113 v 24 (fun i => rcells (newT i)) ∧ New w w' := by
  go_enter Tryz.func102, Tryz.ntmps102
  go_wp2
  go_loopw [1, 2] (fun v iv wr => ∃ k : Nat, iv = .int .i64 k ∧ k ≤ 24 ∧ Hid (OwnG wr w.heap.size 113 v k (fun i => rcells (newT i))) ∧ Hid (New w wr)) (fun _ iv _ => 24 - (intOf iv).toNat)
  case atStart => exact ⟨0, rfl, by omega, Lib.hid (OwnG.nil _ _ _ _), Lib.hid (New.refl _)⟩
  case round =>
    obtain ⟨k, rfl, hk, R2, R3⟩ := hrel
    by_cases hk24 : k < 24
    · have hlt := R3.out.size
      go_wp2_with (at_builtin; refine wpList_app2 rfl (.tmp 7) (.tmp 10) 43 113 rfl Tryz.underlying43 infoR2 rfl (by decide) w.heap.size k hlt (by omega) _ _ rfl _ _ rfl rfl rfl rfl R2.out ?_; intro v' w2 ho hnn hbb)
      go_roundw
      case rel => exact ⟨k + 1, by go_num, hk24, Lib.hid ho, Lib.hid (hnn w (by omega) R3.out)⟩
      case measure => simp [intOf]; omega
    · obtain rfl : k = 24 := by omega
      go_wp2
      go_ret
      exact ⟨_, rfl, R2.out, R3.out⟩
theorem refNew_any (w : World) :
    Calls Tryz.prog 102 #[] w fun e w' => ∃ v, e = .returned v ∧ ElAt w' v 24 (fun i => rcells (newT i)) ∧ New w w' ∧ FarE w.heap.size 24 v :=
  (refNew_own w).mono fun _ _ ⟨v, h1, h2, h3⟩ => ⟨v, h1, h2.el (fun _ => rfl), h3, h2.far (by decide)⟩
theorem ref_ok {s : Sr} (h : okS s = true) : ((refS s).1 = 1 ∧ True) ∨ ((refS s).1 = 0 ∧ 0 ≤ (refS s).2 ∧ (refS s).2 ≤ 23) := by
  rcases ok_cases h with h | ⟨h, h1, h2⟩
  · left
    unfold refS
    rw [if_neg (by omega), if_pos h]
    exact ⟨rfl, trivial⟩
  · right
    unfold refS
    rw [if_pos h]
    exact ⟨rfl, h1, by omega⟩
theorem ref_bad {s : Sr} (h : okS s = false) : (refS s).1 = 2 ∨ ((refS s).1 = 0 ∧ (refS s).2 < 0) ∨ ((refS s).1 = 0 ∧ ¬ (refS s).2 < 0 ∧ 23 < (refS s).2) := by
  have hn := of_decide_eq_false h
  unfold refS
  by_cases h0 : s.1 = 0
  · right
    rw [if_pos h0]
    by_cases h1 : s.2 < 0
    · exact .inl ⟨rfl, h1⟩
    · exact .inr ⟨rfl, h1, by show 23 < s.2; omega⟩
  · left
    rw [if_neg h0, if_neg (fun e => hn (.inl e))]
set_option maxHeartbeats 2000000 in
set_option maxRecDepth 100000 in
theorem refGood_any (ao : Option Addr) (cap : Nat) (t : Tb) (w : World) (h : ElAt w (.slice ao 24 cap) 24 (fun i => rcells (t i))) :
    Calls Tryz.prog 132 #[.slice ao 24 cap] w fun e w' => e = .returned (.bool (goodT t)) ∧ New w w' := by
  have HH := Lib.hid h
  clear h
  go_enter Tryz.func132, Tryz.ntmps132
  go_wp2
  go_loopw [3] (fun iv wr => ∃ k : Nat, iv = .int .i64 k ∧ k ≤ 24 ∧ Hid (∀ i < k, okS (t i) = true) ∧ Hid (New w wr)) (fun iv _ => 24 - (intOf iv).toNat)
  case atStart => exact ⟨0, rfl, by omega, Lib.hid (fun i hi => absurd hi (Nat.not_lt_zero _)), Lib.hid (New.refl _)⟩
  case round =>
    obtain ⟨k, rfl, hk, HO, R3⟩ := hrel
    by_cases hk24 : k < 24
    · obtain ⟨b, o, hix, hrg⟩ := HH.out.ix 43 Tryz.underlying43 sizeR hk24
      obtain ⟨d0, d1⟩ := range_two (hrg wr R3.out)
      clear hrg
      cases hok : okS (t k) with
      | true =>
        have HA : Hid (∀ i < k + 1, okS (t i) = true) := Lib.hid (fun i hi => by
          by_cases e : i = k
          · rw [e]; exact hok
          · exact HO.out i (by omega))
        rcases ref_ok hok with ⟨e1, e2⟩ | ⟨e1, e2, e3⟩
        · rw [e1] at d0
          go_wp2
          go_roundw
          case rel => exact ⟨k + 1, by go_num, hk24, Lib.hid HA.out, R3⟩
          case measure => simp [intOf]; omega
        · rw [e1] at d0
          go_wp2
          go_roundw
          case rel => exact ⟨k + 1, by go_num, hk24, Lib.hid HA.out, R3⟩
          case measure => simp [intOf]; omega
      | false =>
        have HB : Hid (goodT t = false) := Lib.hid (by
          cases hg : goodT t with
          | false => rfl
          | true => rw [good_at hg hk24] at hok; cases hok)
        rcases ref_bad hok with e1 | ⟨e1, e2⟩ | ⟨e1, e2, e3⟩
        · rw [e1] at d0
          go_wp2
          rw [HB.out]
          go_ret
          exact ⟨rfl, R3.out⟩
        · rw [e1] at d0
          go_wp2
          rw [HB.out]
          go_ret
          exact ⟨rfl, R3.out⟩
        · rw [e1] at d0
          go_wp2
          rw [HB.out]
          go_ret
          exact ⟨rfl, R3.out⟩
    · obtain rfl : k = 24 := by omega
      have HB : Hid (goodT t = true) := Lib.hid (good_mk HO.out)
      go_wp2
      rw [HB.out]
      go_ret
      exact ⟨rfl, R3.out⟩
theorem refgood_any (v : Value) (t : Tb) (w : World) (h : ElAt w v 24 (fun i => rcells (t i))) :
    Calls Tryz.prog 114 #[v] w fun e w' => ∃ v', e = .returned v' ∧ ElAt w' v' 24 (fun i => rcells (orN t i)) ∧ New w w' := by
  obtain ⟨ao, cap, rfl⟩ := h.form
  have HH := Lib.hid h
  clear h
  cases hg : goodT t with
  | true =>
    have e : orN t = t := orN_good hg
    rw [e]
    clear e
    go_enter Tryz.func114, Tryz.ntmps114
    go_wp2_with (go_at_call 132; refine (refGood_any ao cap t _ HH.out).mono ?_; rw [hg]; rintro e w1 ⟨rfl, hn1⟩)
    go_ret
    exact ⟨_, rfl, HH.out.new hn1, hn1⟩
  | false =>
    have e : orN t = newT := if_neg (by rw [hg]; decide)
    rw [e]
    clear e
    go_enter Tryz.func114, Tryz.ntmps114
    go_wp2_with (first
      | (go_at_call 132; refine (refGood_any ao cap t _ HH.out).mono ?_; rw [hg]; rintro e w1 ⟨rfl, hn1⟩)
      | (go_at_call 102; refine (refNew_any _).mono ?_; rintro e w2 ⟨v2, rfl, he2, hn2, _⟩))
    go_ret
    exact ⟨_, rfl, he2, hn1.trans hn2⟩
end Go.Proofs.YtphopkjgfkaihaaGreatDoor
