/-
  Layer 10: what a skeleton owns in memory; the contract of skel.nexts: the places from which a node's ways go.
-/
import Derived.Test.YtlmnodbhfpgplaaGreatDoorSep
import Derived.Test.YtlmnodbhfpgplaaGreatDoorSkelMath
import Derived.Test.YtlmnodbhfpgplaaGreatDoorRowAt
namespace Go.Proofs.YtlmnodbhfpgplaaGreatDoor
open Go.RowKit

def intC (z : Int) : List Value := [.int .i64 z]
abbrev intsA (v : Value) (zs : List Int) : Asn := rowA 3 1 (leafE intC) v zs
theorem sizeInt : ∀ w, (sizeOf 3).run Tryz.prog w = .ok 1 w := Tryz.sizeOf3
theorem ct_no {cut : List Bool} {q : Nat} (h : ¬ q < cut.length) : ctA cut (q : Int) = false := by
  unfold ctA
  rw [decide_eq_false (by omega)]
  rfl
theorem ct_at {cut : List Bool} {q : Nat} {b : Bool} (h : q < cut.length) (hb : cut[q]? = some b) : ctA cut (q : Int) = b := by
  unfold ctA
  rw [decide_eq_true (by omega)]
  simp [List.getD_eq_getElem?_getD, hb]
set_option maxHeartbeats 4000000 in
set_option maxRecDepth 100000 in
theorem nexts_any (fa : Option Addr) (n fc : Nat) (f : List I) (ca : Option Addr) (m cc : Nat) (cut : List Bool) (q : Nat) (w : World) (hf : FunAt w (.slice fa n fc) f) (hc : RowAt w (.slice ca m cc) (cut.map .bool)) (hi : InF f (q : Int)) :
    Calls Tryz.prog 36 #[.slice fa n fc, .slice ca m cc, .int .i64 (q : Int)] w fun e w' => ∃ v, e = .returned v ∧ Sep w w' [intsA v (fromsA f cut (q : Int))] := by
  have hn := hf.len
  have HM : Hid (m = cut.length) := Lib.hid (by rw [hc.len, List.length_map])
  have hqn : q < n := by have := hi.2.2; omega
  have hq : q ≤ 200 := by have := chk_len hi.1; have := hi.2.2; omega
  obtain ⟨b, o, x, hx, hix, hrg⟩ := hf.ix hqn
  have HX : Hid (insA f (q : Int) = x) := Lib.hid (by
    unfold insA
    rw [Int.toNat_natCast, List.getD_eq_getElem?_getD, hx]
    rfl)
  have c0 : w.cell? ⟨b, o, none⟩ = some (.int .i64 x.op) := by have := hrg w (New.refl w) 0 _ rfl; simpa using this
  have c5 : w.cell? ⟨b, o + 5, none⟩ = some (.int .i64 x.t) := hrg w (New.refl w) 5 _ rfl
  clear hrg hx hn
  by_cases hqm : q < m
  · obtain ⟨a, y, hy0, hiy, hcy⟩ := hc.ix 52 Tryz.underlying52 Tryz.sizeOf4 hqm
    rw [List.getElem?_map] at hy0
    obtain ⟨y, hy, rfl⟩ := Option.map_eq_some_iff.mp hy0
    have cy := hcy w (New.refl w)
    clear hcy hy0
    cases y with
    | true =>
      have hz : fromsA f cut (q : Int) = [] := by unfold fromsA; rw [if_pos (.inr (ct_at (by rw [← HM.out]; exact hqm) hy))]
      rw [hz]
      clear hz hy
      go_enter Tryz.func36, Tryz.ntmps36
      go_wp2
      go_ret
      exact ⟨_, rfl, (Sep.start _).row0 _ _ _⟩
    | false =>
      have hz2 : ctA cut (q : Int) = false := ct_at (by rw [← HM.out]; exact hqm) hy
      clear hy
      by_cases h18 : x.op = 18
      · have q18 : (x.op == 18) = true := beq_of h18
        have hz : fromsA f cut (q : Int) = [] := by unfold fromsA; rw [HX.out, if_pos (.inl h18)]
        rw [hz]
        clear hz h18
        go_enter Tryz.func36, Tryz.ntmps36
        go_wp2
        go_ret
        exact ⟨_, rfl, (Sep.start _).row0 _ _ _⟩
      · have q18 : (x.op == 18) = false := bneq_of h18
        by_cases h17 : x.op = 17
        · have q17 : (x.op == 17) = true := beq_of h17
          have hz : fromsA f cut (q : Int) = [x.t, (q : Int) + 1] := by unfold fromsA; rw [HX.out, if_neg (by rw [hz2]; simp [h18]), if_pos h17]
          rw [hz]
          clear hz h17 h18 hz2
          go_enter Tryz.func36, Tryz.ntmps36
          go_wp2
          go_ret
          exact ⟨_, rfl, (Sep.start w).lit (alloc_new _ _) (Nat.le_refl _) (HasC.box w _ _) (fun _ => rfl) rfl (by unfold maxLen; simp)⟩
        · have q17 : (x.op == 17) = false := bneq_of h17
          have hz : fromsA f cut (q : Int) = [(q : Int) + 1] := by unfold fromsA; rw [HX.out, if_neg (by rw [hz2]; simp [h18]), if_neg h17]
          rw [hz]
          clear hz h17 h18 hz2
          go_enter Tryz.func36, Tryz.ntmps36
          go_wp2
          go_ret
          exact ⟨_, rfl, (Sep.start w).lit (alloc_new _ _) (Nat.le_refl _) (HasC.box w _ _) (fun _ => rfl) rfl (by unfold maxLen; simp)⟩
  · have hz2 : ctA cut (q : Int) = false := ct_no (by rw [← HM.out]; exact hqm)
    by_cases h18 : x.op = 18
    · have q18 : (x.op == 18) = true := beq_of h18
      have hz : fromsA f cut (q : Int) = [] := by unfold fromsA; rw [HX.out, if_pos (.inl h18)]
      rw [hz]
      clear hz h18
      go_enter Tryz.func36, Tryz.ntmps36
      go_wp2
      go_ret
      exact ⟨_, rfl, (Sep.start _).row0 _ _ _⟩
    · have q18 : (x.op == 18) = false := bneq_of h18
      by_cases h17 : x.op = 17
      · have q17 : (x.op == 17) = true := beq_of h17
        have hz : fromsA f cut (q : Int) = [x.t, (q : Int) + 1] := by unfold fromsA; rw [HX.out, if_neg (by rw [hz2]; simp [h18]), if_pos h17]
        rw [hz]
        clear hz h17 h18 hz2
        go_enter Tryz.func36, Tryz.ntmps36
        go_wp2
        go_ret
        exact ⟨_, rfl, (Sep.start w).lit (alloc_new _ _) (Nat.le_refl _) (HasC.box w _ _) (fun _ => rfl) rfl (by unfold maxLen; simp)⟩
      · have q17 : (x.op == 17) = false := bneq_of h17
        have hz : fromsA f cut (q : Int) = [(q : Int) + 1] := by unfold fromsA; rw [HX.out, if_neg (by rw [hz2]; simp [h18]), if_neg h17]
        rw [hz]
        clear hz h17 h18 hz2
        go_enter Tryz.func36, Tryz.ntmps36
        go_wp2
        go_ret
        exact ⟨_, rfl, (Sep.start w).lit (alloc_new _ _) (Nat.le_refl _) (HasC.box w _ _) (fun _ => rfl) rfl (by unfold maxLen; simp)⟩
end Go.Proofs.YtlmnodbhfpgplaaGreatDoor
