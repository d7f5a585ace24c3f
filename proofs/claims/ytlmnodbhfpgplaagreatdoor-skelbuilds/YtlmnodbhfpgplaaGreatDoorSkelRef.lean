/-
  Layer 10: the contracts of the reference's froms and where.
-/
import Derived.Test.YtlmnodbhfpgplaaGreatDoorSkelOwn
namespace Go.Proofs.YtlmnodbhfpgplaaGreatDoor
open Go.RowKit

set_option maxHeartbeats 4000000 in
set_option maxRecDepth 100000 in
theorem froms_any (fa : Option Addr) (n fc : Nat) (f : List I) (ca : Option Addr) (m cc : Nat) (cut : List Bool) (q : Nat) (w : World) (hf : FunAt w (.slice fa n fc) f) (hc : RowAt w (.slice ca m cc) (cut.map .bool)) (hi : InF f (q : Int)) :
    Calls Tryz.prog 41 #[.slice fa n fc, .slice ca m cc, .int .i64 (q : Int)] w fun e w' => ∃ v, e = .returned v ∧ Sep w w' [intsA v (fromsA f cut (q : Int))] := by
  have hn := hf.len
  have HM : Hid (m = cut.length) := Lib.hid (by rw [hc.len, List.length_map])
  have hqn : q < n := by have := hi.2.2; omega
  have hq : q ≤ 200 := by have := chk_len hi.1; have := hi.2.2; omega
  obtain ⟨b, o, x, hx, hix, hrg⟩ := hf.ix hqn
  have HX : Hid (insA f (q : Int) = x) := Lib.hid (by
    unfold insA
    rw [Int.toNat_natCast, List.getD_eq_getElem?_getD, hx]
    rfl)
  have c0 : w.cell? ⟨b, o, none⟩ = some (.int .i64 x.op) := by have := hrg w (New.refl w) 0 _ rfl; simpa using this
  have c5 : w.cell? ⟨b, o + 5, none⟩ = some (.int .i64 x.t) := hrg w (New.refl w) 5 _ rfl
  clear hrg hx hn
  by_cases h18 : x.op = 18
  · have q18 : (x.op == 18) = true := beq_of h18
    have hz : fromsA f cut (q : Int) = [] := by unfold fromsA; rw [HX.out, if_pos (.inl h18)]
    rw [hz]
    clear hz h18 HX
    go_enter Tryz.func41, Tryz.ntmps41
    go_wp2
    go_ret
    exact ⟨_, rfl, (Sep.start _).row0 _ _ _⟩
  · have q18 : (x.op == 18) = false := bneq_of h18
    replace h18 := Lib.hid h18
    by_cases hqm : q < m
    · obtain ⟨a, y, hy0, hiy, hcy⟩ := hc.ix 52 Tryz.underlying52 Tryz.sizeOf4 hqm
      have dqm : decide ((q : Int) < (m : Int)) = true := decide_eq_true (by omega)
      rw [List.getElem?_map] at hy0
      obtain ⟨y, hy, rfl⟩ := Option.map_eq_some_iff.mp hy0
      have cy := hcy w (New.refl w)
      clear hcy hy0
      cases y with
      | true =>
        have hz : fromsA f cut (q : Int) = [] := by unfold fromsA; rw [if_pos (.inr (ct_at (by rw [← HM.out]; exact hqm) hy))]
        rw [hz]
        clear hz hy HX
        go_enter Tryz.func41, Tryz.ntmps41
        go_wp2
        go_ret
        exact ⟨_, rfl, (Sep.start _).row0 _ _ _⟩
      | false =>
        have hz2 : ctA cut (q : Int) = false := ct_at (by rw [← HM.out]; exact hqm) hy
        clear hy
        by_cases h17 : x.op = 17
        · have q17 : (x.op == 17) = true := beq_of h17
          have hz : fromsA f cut (q : Int) = [x.t, (q : Int) + 1] := by unfold fromsA; rw [HX.out, if_neg (by rw [hz2]; simp [h18.out]), if_pos h17]
          rw [hz]
          clear hz h17 hz2 HX
          go_enter Tryz.func41, Tryz.ntmps41
          go_wp2
          go_ret
          exact ⟨_, rfl, (Sep.start w).lit (alloc_new _ _) (Nat.le_refl _) (HasC.box w _ _) (fun _ => rfl) rfl (by unfold maxLen; simp)⟩
        · have q17 : (x.op == 17) = false := bneq_of h17
          have hz : fromsA f cut (q : Int) = [(q : Int) + 1] := by unfold fromsA; rw [HX.out, if_neg (by rw [hz2]; simp [h18.out]), if_neg h17]
          rw [hz]
          clear hz h17 hz2 HX
          go_enter Tryz.func41, Tryz.ntmps41
          go_wp2
          go_ret
          exact ⟨_, rfl, (Sep.start w).lit (alloc_new _ _) (Nat.le_refl _) (HasC.box w _ _) (fun _ => rfl) rfl (by unfold maxLen; simp)⟩
    · have dqm : decide ((q : Int) < (m : Int)) = false := decide_eq_false (by omega)
      have hz2 : ctA cut (q : Int) = false := ct_no (by rw [← HM.out]; exact hqm)
      by_cases h17 : x.op = 17
      · have q17 : (x.op == 17) = true := beq_of h17
        have hz : fromsA f cut (q : Int) = [x.t, (q : Int) + 1] := by unfold fromsA; rw [HX.out, if_neg (by rw [hz2]; simp [h18.out]), if_pos h17]
        rw [hz]
        clear hz h17 hz2 HX
        go_enter Tryz.func41, Tryz.ntmps41
        go_wp2
        go_ret
        exact ⟨_, rfl, (Sep.start w).lit (alloc_new _ _) (Nat.le_refl _) (HasC.box w _ _) (fun _ => rfl) rfl (by unfold maxLen; simp)⟩
      · have q17 : (x.op == 17) = false := bneq_of h17
        have hz : fromsA f cut (q : Int) = [(q : Int) + 1] := by unfold fromsA; rw [HX.out, if_neg (by rw [hz2]; simp [h18.out]), if_neg h17]
        rw [hz]
        clear hz h17 hz2 HX
        go_enter Tryz.func41, Tryz.ntmps41
        go_wp2
        go_ret
        exact ⟨_, rfl, (Sep.start w).lit (alloc_new _ _) (Nat.le_refl _) (HasC.box w _ _) (fun _ => rfl) rfl (by unfold maxLen; simp)⟩
theorem idx_least : ∀ {ps : List Int} {q : Int} {k : Nat}, ps[k]? = some q → (∀ j < k, ps[j]? ≠ some q) → ps.idxOf q = k
  | [], _, _, h, _ => by simp at h
  | p :: ps, q, 0, h, _ => by
    simp at h
    simp [h]
  | p :: ps, q, k + 1, h, hn => by
    have h0 : p ≠ q := fun e => hn 0 (by omega) (by simp [e])
    have hb : (p == q) = false := by simpa using h0
    rw [List.idxOf_cons, hb, cond_false, idx_least (k := k) (by simpa using h) fun j hj => by have := hn (j + 1) (by omega); simpa using this]
theorem idx_none : ∀ {ps : List Int} {q : Int}, (∀ j < ps.length, ps[j]? ≠ some q) → ps.idxOf q = ps.length
  | [], _, _ => by simp
  | p :: ps, q, hn => by
    have h0 : p ≠ q := fun e => hn 0 (by simp) (by simp [e])
    have hb : (p == q) = false := by simpa using h0
    rw [List.idxOf_cons, hb, cond_false, idx_none (ps := ps) (fun j hj => by have := hn (j + 1) (by simpa using hj); simpa using this), List.length_cons]
set_option maxHeartbeats 2000000 in
set_option maxRecDepth 100000 in
theorem where_any (v : Value) (ps : List Int) (q : Int) (w : World) (h : (intsA v ps).rd w) (hl : ps.length ≤ 100000) :
    Calls Tryz.prog 67 #[v, .int .i64 q] w fun e w' => e = .returned (.int .i64 ((ps.idxOf q : Nat) : Int)) ∧ New w w' := by
  obtain ⟨ao, cap, hv⟩ := rowA_form h
  obtain ⟨N, HN⟩ : ∃ N, Hid (ps.length = N) := ⟨_, Lib.hid rfl⟩
  rw [HN.out] at hv hl
  subst hv
  have HR := Lib.hid h
  clear h
  go_enter Tryz.func67, Tryz.ntmps67
  go_wp2
  go_loop [5] (fun iv => ∃ k : Nat, iv = .int .i64 (k : Int) ∧ k ≤ N ∧ Hid (∀ j < k, ps[j]? ≠ some q)) (fun iv => N - (intOf iv).toNat)
  case atStart => exact ⟨0, rfl, by omega, Lib.hid (fun j hj => absurd hj (Nat.not_lt_zero _))⟩
  case round =>
    obtain ⟨k, rfl, hk, HK⟩ := hrel
    by_cases hkN : k < N
    · obtain ⟨r, hr⟩ : ∃ r, ps[k]? = some r := ⟨_, List.getElem?_eq_getElem (by rw [HN.out]; exact hkN)⟩
      obtain ⟨b, o, hix, hrg⟩ := leaf_ix (P := Tryz.prog) HR.out 107 Tryz.underlying107 sizeInt hr
      have c0 := hrg w (New.refl w) 0 _ rfl
      rw [Nat.add_zero] at c0
      clear hrg
      by_cases hq : r = q
      · have hb : (r == q) = true := by simpa using hq
        have HX : Hid (ps.idxOf q = k) := Lib.hid (idx_least (by rw [hr, hq]) HK.out)
        clear hr hq
        go_wp2
        go_ret
        rw [HX.out]
        exact ⟨rfl, New.refl _⟩
      · have hb : (r == q) = false := by simpa using hq
        have HX : Hid (∀ j < k + 1, ps[j]? ≠ some q) := Lib.hid (fun j hj => by
          rcases Nat.lt_or_ge j k with h | h
          · exact HK.out j h
          · rw [show j = k by omega, hr]
            intro e
            exact hq (Option.some.inj e))
        clear hr hq
        go_wp2
        go_round
        case rel => exact ⟨k + 1, by go_num, by omega, HX⟩
        case measure => simp [intOf]; omega
    · have HX : Hid (ps.idxOf q = N) := Lib.hid (by rw [← HN.out]; exact idx_none fun j hj => HK.out j (by rw [HN.out] at hj; omega))
      go_wp2
      go_ret
      rw [HX.out]
      exact ⟨rfl, New.refl _⟩
end Go.Proofs.YtlmnodbhfpgplaaGreatDoor
