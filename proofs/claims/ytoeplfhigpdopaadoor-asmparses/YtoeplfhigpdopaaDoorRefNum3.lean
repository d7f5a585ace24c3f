/-
  The reference's Parse of numbers (joineryref01): the number whose digits a text is, or none.
-/
import Derived.Test.YtoeplfhigpdopaaDoorRefDig3
namespace Go.Proofs.YtoeplfhigpdopaaDoor
open Go.RowKit

-- the reference's Parse
def refF (acc : Int) (c : UInt8) : Int := wrap64 (wrap64 (acc * 10) - ((c.toNat : Int) - 48))
def refN (l : List UInt8) : Int := l.foldl refF 0
theorem refN_snoc (l : List UInt8) (c : UInt8) : refN (l ++ [c]) = refF (refN l) c := by simp [refN]
theorem refN_in (l : List UInt8) : In64 (refN l) := by
  rcases List.eq_nil_or_concat l with rfl | ⟨r, c, rfl⟩
  · unfold In64; simp [refN]
  · rw [List.concat_eq_append, refN_snoc]; exact wrap64_in _
theorem refN_dec : ∀ (n u : Nat), u < n → u ≤ 9223372036854775808 → refN (Lib.decDigits u) = -(u : Int)
  | 0, _, h, _ => absurd h (by omega)
  | n + 1, u, h, hu => by
    by_cases h10 : u < 10
    · rw [Lib.decDigits_one h10]
      simp only [refN, List.foldl_cons, List.foldl_nil, refF, ofNat_digit h10]
      unfold wrap64; omega
    · rw [decDigits_big h10, refN_snoc, refN_dec n (u / 10) (by omega) (by omega)]
      have hd : u % 10 < 10 := Nat.mod_lt _ (by decide)
      simp only [refF, ofNat_digit hd]
      unfold wrap64; omega
/-- Where the digits begin. -/
def signLen (l : List UInt8) : Nat := if l.head? = some 45 then 1 else 0
def refVal (l : List UInt8) : Int := if signLen l = 0 then wrap64 (-refN l) else refN (l.drop 1)
theorem refVal_in (l : List UInt8) : In64 (refVal l) := by
  unfold refVal; split
  · exact wrap64_in _
  · exact refN_in _
theorem itoa_parts {v : Int} (h : In64 v) : (Lib.itoa v).drop (signLen (Lib.itoa v)) = Lib.decDigits v.natAbs ∧ refVal (Lib.itoa v) = v := by
  unfold In64 at h
  by_cases hn : v < 0
  · have e : Lib.itoa v = 45 :: Lib.decDigits v.natAbs := by unfold Lib.itoa; rw [if_pos hn]
    have e1 : signLen (Lib.itoa v) = 1 := by rw [e]; simp [signLen]
    unfold refVal
    rw [e1, e]
    refine ⟨rfl, ?_⟩
    rw [if_neg (by decide), List.drop_succ_cons, List.drop_zero, refN_dec (v.natAbs + 1) _ (by omega) (by omega)]
    omega
  · have e : Lib.itoa v = Lib.decDigits v.natAbs := by unfold Lib.itoa; rw [if_neg hn]; congr 1; omega
    have e1 : signLen (Lib.itoa v) = 0 := by
      rw [e]
      cases hd : Lib.decDigits v.natAbs with
      | nil => rfl
      | cons c r =>
        have := dec_digit (v.natAbs + 1) v.natAbs (by omega) c (by rw [hd]; exact List.mem_cons_self ..)
        unfold signLen
        rw [if_neg]
        simp only [List.head?_cons, Option.some.injEq]
        intro h; rw [h] at this; exact absurd this.1 (by decide)
    unfold refVal
    rw [e1, e]
    refine ⟨rfl, ?_⟩
    rw [if_pos rfl, refN_dec (v.natAbs + 1) _ (by omega) (by omega)]
    unfold wrap64; omega
theorem parse_long {l : List UInt8} (h : 20 < l.length) : parseV l = none := by
  cases e : parseV l with
  | none => rfl
  | some v => obtain ⟨hv, hi⟩ := parseV_some e; have := itoa_len hv; rw [hi] at this; omega
theorem parse_odd {l : List UInt8} {k : Nat} {c : UInt8} (hk : signLen l ≤ k) (hc : l[k]? = some c) (h : ¬ (48 ≤ c.toNat ∧ c.toNat ≤ 57)) : parseV l = none := by
  cases e : parseV l with
  | none => rfl
  | some v =>
    obtain ⟨hv, hi⟩ := parseV_some e
    have hp := (itoa_parts hv).1
    rw [hi] at hp
    have hm : c ∈ l.drop (signLen l) := by
      rw [List.mem_iff_getElem?]
      refine ⟨k - signLen l, ?_⟩
      rw [List.getElem?_drop, show signLen l + (k - signLen l) = k from by omega, hc]
    rw [hp] at hm
    exact absurd (dec_digit (v.natAbs + 1) v.natAbs (by omega) c hm) h
theorem parse_val (l : List UInt8) : parseV l = if Lib.itoa (refVal l) = l then some (refVal l) else none := by
  cases e : parseV l with
  | some v =>
    obtain ⟨hv, hi⟩ := parseV_some e
    have hp := (itoa_parts hv).2
    rw [hi] at hp
    rw [hp, if_pos hi]
  | none =>
    by_cases h : Lib.itoa (refVal l) = l
    · have := parseV_itoa (refVal_in l)
      rw [h, e] at this; cases this
    · rw [if_neg h]

/-- What the reference's Parse tells. -/
def refRes (l : List UInt8) : Value := match parseV l with | some v => .tuple #[.int .i64 v, .bool true] | none => .tuple #[.int .i64 0, .bool false]
theorem refRes_none {l : List UInt8} (h : parseV l = none) : Value.tuple #[.int .i64 0, .bool false] = refRes l := by unfold refRes; rw [h]
theorem refRes_some {l : List UInt8} {v : Int} (h : parseV l = some v) : Value.tuple #[.int .i64 v, .bool true] = refRes l := by unfold refRes; rw [h]

theorem toList_length (s : ByteArray) : s.data.toList.length = s.size := by rw [Array.length_toList]; rfl
theorem toList_at (s : ByteArray) (k : Nat) (h : k < s.size) : s.data.toList[k]? = some s[k] := by
  rw [List.getElem?_eq_getElem (by rw [toList_length]; exact h)]; rfl
/-- What the digits up to place j make, from place i on. -/
def preN (s : ByteArray) (i j : Nat) : Int := refN ((s.data.toList.drop i).take (j - i))
theorem preN_zero (s : ByteArray) (i : Nat) : preN s i i = 0 := by simp [preN, refN]
theorem preN_succ (s : ByteArray) (i j : Nat) (hi : i ≤ j) (hj : j < s.size) : preN s i (j + 1) = refF (preN s i j) s[j] := by
  unfold preN
  rw [show j + 1 - i = (j - i) + 1 from by omega, List.take_add_one, List.getElem?_drop, show i + (j - i) = j from by omega, toList_at s j hj]
  exact refN_snoc _ _
theorem preN_end (s : ByteArray) (i : Nat) : preN s i s.size = refN (s.data.toList.drop i) := by
  unfold preN
  rw [List.take_of_length_le]
  rw [List.length_drop, toList_length]
  exact Nat.le_refl _
theorem preN_in (s : ByteArray) (i j : Nat) : In64 (preN s i j) := refN_in _

theorem ret_val {a b : Value} (h : a = b) : Ending.returned a = .returned b := by rw [h]

theorem refNum_long (s : ByteArray) (h : (20 : Int) < (s.size : Int)) (w : World) :
    Calls Tryd.prog 52 #[.string s] w fun e w' => e = .returned (refRes s.data.toList) ∧ New w w' := by
  have hr := refRes_none (parse_long (l := s.data.toList) (by have := toList_length s; omega))
  rw [← hr]
  clear hr
  go_enter Tryd.func52, Tryd.ntmps52
  go_wp2
  go_ret2
  exact ⟨rfl, New.refl _⟩

/-- A byte that is no digit. -/
theorem odd_none (s : ByteArray) (i : Nat) (hs : signLen s.data.toList = i) (j : Nat) (hij : i ≤ j) (hj : j < s.size) (h : ¬ (48 ≤ (s[j].toNat : Int) ∧ (s[j].toNat : Int) ≤ 57)) : parseV s.data.toList = none :=
  parse_odd (k := j) (by omega) (toList_at s j hj) (by omega)

theorem head_eq (s : ByteArray) (h : 0 < s.size) : s.data.toList.head? = some s[0] := by
  rw [List.head?_eq_getElem?]; exact toList_at s 0 h
theorem sign_iff (s : ByteArray) (h : 0 < s.size) : ((s[0].toNat : Int) == 45) = decide (signLen s.data.toList = 1) := by
  unfold signLen
  rw [head_eq s h, Bool.eq_iff_iff, beq_iff_eq, decide_eq_true_iff]
  simp only [Option.some.injEq]
  by_cases e : s[0] = 45
  · rw [if_pos e, e]; decide
  · rw [if_neg e]
    constructor
    · intro h1
      exact absurd (UInt8.toNat_inj.1 (show s[0].toNat = (45 : UInt8).toNat from by have : (45 : UInt8).toNat = 45 := rfl
                                                                                    omega)) e
    · intro h1; cases h1

set_option maxHeartbeats 2000000 in
theorem refNum_empty (s : ByteArray) (h0 : ¬ (0 : Int) < (s.size : Int)) (w : World) :
    Calls Tryd.prog 52 #[.string s] w fun e w' => e = .returned (refRes s.data.toList) ∧ New w w' := by
  have hs : signLen s.data.toList = 0 := by
    have : s.data.toList = [] := List.eq_nil_of_length_eq_zero (by rw [toList_length]; omega)
    rw [this]; rfl
  have HS := Lib.hid hs
  clear hs
  have h : ¬ (20 : Int) < (s.size : Int) := by omega
  · go_enter Tryd.func52, Tryd.ntmps52
    go_wp2
    go_loop [5, 6] (fun n k => ∃ j : Nat, 0 ≤ j ∧ j ≤ s.size ∧ k = .int .i64 j ∧ n = .int .i64 (preN s 0 j)) (fun _ k => s.size - (intOf k).toNat)
    case atStart => exact ⟨0, Nat.le_refl _, by omega, rfl, by rw [preN_zero]⟩
    case round =>
      obtain ⟨j, hij, hjs, rfl, rfl⟩ := hrel
      by_cases hlt : j < s.size
      · omega
      · obtain rfl : j = s.size := by omega
        have hin := wrap64_in (-preN s 0 s.size)
        have HV := Lib.hid (show wrap64 (-preN s 0 s.size) = refVal s.data.toList from by rw [preN_end, List.drop_zero, refVal, if_pos HS.out])
        have hb : ((textB (wrap64 (-preN s 0 s.size))).toList == s.toList) = decide (Lib.itoa (wrap64 (-preN s 0 s.size)) = s.data.toList) := str_beq (by rw [textB_toList])
        have HI := Lib.hid hin
        clear hin
        cases ht : decide (Lib.itoa (wrap64 (-preN s 0 s.size)) = s.data.toList)
        · rw [ht] at hb
          have hne := of_decide_eq_false ht
          have HN := Lib.hid (refRes_none (show parseV s.data.toList = none from by rw [parse_val, ← HV.out, if_neg hne]))
          clear ht hne
          go_wp2_with (go_at_call 44; refine (refText_any _ HI.out _).mono ?_; rintro e w1 ⟨rfl, hn1⟩)
          go_ret2
          exact ⟨ret_val HN.out, hn1⟩
        · rw [ht] at hb
          have heq := of_decide_eq_true ht
          have HN := Lib.hid (refRes_some (show parseV s.data.toList = some (wrap64 (-preN s 0 s.size)) from by rw [parse_val, ← HV.out, if_pos heq]))
          clear ht heq
          go_wp2_with (go_at_call 44; refine (refText_any _ HI.out _).mono ?_; rintro e w1 ⟨rfl, hn1⟩)
          go_ret2
          exact ⟨ret_val HN.out, hn1⟩

set_option maxHeartbeats 2000000 in
theorem refNum_plain (s : ByteArray) (h : ¬ (20 : Int) < (s.size : Int)) (h0 : (0 : Int) < (s.size : Int)) (hs : signLen s.data.toList = 0) (w : World) :
    Calls Tryd.prog 52 #[.string s] w fun e w' => e = .returned (refRes s.data.toList) ∧ New w w' := by
  have h45 : ((s[0].toNat : Int) == 45) = false := by rw [sign_iff s (by omega), hs]; rfl
  have HS := Lib.hid hs
  clear hs
  · go_enter Tryd.func52, Tryd.ntmps52
    go_wp2
    go_loop [5, 6] (fun n k => ∃ j : Nat, 0 ≤ j ∧ j ≤ s.size ∧ k = .int .i64 j ∧ n = .int .i64 (preN s 0 j)) (fun _ k => s.size - (intOf k).toNat)
    case atStart => exact ⟨0, Nat.le_refl _, by omega, rfl, by rw [preN_zero]⟩
    case round =>
      obtain ⟨j, hij, hjs, rfl, rfl⟩ := hrel
      by_cases hlt : j < s.size
      · by_cases hd : 48 ≤ (s[j].toNat : Int) ∧ (s[j].toNat : Int) ≤ 57
        · obtain ⟨d1, d2⟩ := hd
          have HP := Lib.hid (preN_succ s 0 j hij hlt)
          go_wp2
          go_round
          case rel => exact ⟨j + 1, by omega, by omega, by go_num, by rw [HP.out]; rfl⟩
          case measure => simp [intOf]; omega
        · have HN := Lib.hid (refRes_none (odd_none s 0 HS.out j hij hlt hd))
          by_cases d1 : 48 ≤ (s[j].toNat : Int)
          · have d2 : ¬ (s[j].toNat : Int) ≤ 57 := fun h => hd ⟨d1, h⟩
            clear hd
            go_wp2
            go_ret2
            exact ⟨ret_val HN.out, New.refl _⟩
          · clear hd
            go_wp2
            go_ret2
            exact ⟨ret_val HN.out, New.refl _⟩
      · obtain rfl : j = s.size := by omega
        have hin := wrap64_in (-preN s 0 s.size)
        have HV := Lib.hid (show wrap64 (-preN s 0 s.size) = refVal s.data.toList from by rw [preN_end, List.drop_zero, refVal, if_pos HS.out])
        have hb : ((textB (wrap64 (-preN s 0 s.size))).toList == s.toList) = decide (Lib.itoa (wrap64 (-preN s 0 s.size)) = s.data.toList) := str_beq (by rw [textB_toList])
        have HI := Lib.hid hin
        clear hin
        cases ht : decide (Lib.itoa (wrap64 (-preN s 0 s.size)) = s.data.toList)
        · rw [ht] at hb
          have hne := of_decide_eq_false ht
          have HN := Lib.hid (refRes_none (show parseV s.data.toList = none from by rw [parse_val, ← HV.out, if_neg hne]))
          clear ht hne
          go_wp2_with (go_at_call 44; refine (refText_any _ HI.out _).mono ?_; rintro e w1 ⟨rfl, hn1⟩)
          go_ret2
          exact ⟨ret_val HN.out, hn1⟩
        · rw [ht] at hb
          have heq := of_decide_eq_true ht
          have HN := Lib.hid (refRes_some (show parseV s.data.toList = some (wrap64 (-preN s 0 s.size)) from by rw [parse_val, ← HV.out, if_pos heq]))
          clear ht heq
          go_wp2_with (go_at_call 44; refine (refText_any _ HI.out _).mono ?_; rintro e w1 ⟨rfl, hn1⟩)
          go_ret2
          exact ⟨ret_val HN.out, hn1⟩

set_option maxHeartbeats 2000000 in
theorem refNum_sign (s : ByteArray) (h : ¬ (20 : Int) < (s.size : Int)) (h0 : (0 : Int) < (s.size : Int)) (hs : signLen s.data.toList = 1) (w : World) :
    Calls Tryd.prog 52 #[.string s] w fun e w' => e = .returned (refRes s.data.toList) ∧ New w w' := by
  have h45 : ((s[0].toNat : Int) == 45) = true := by rw [sign_iff s (by omega), hs]; rfl
  have HS := Lib.hid hs
  clear hs
  · go_enter Tryd.func52, Tryd.ntmps52
    go_wp2
    go_loop [5, 6] (fun n k => ∃ j : Nat, 1 ≤ j ∧ j ≤ s.size ∧ k = .int .i64 j ∧ n = .int .i64 (preN s 1 j)) (fun _ k => s.size - (intOf k).toNat)
    case atStart => exact ⟨1, Nat.le_refl _, by omega, rfl, by rw [preN_zero]⟩
    case round =>
      obtain ⟨j, hij, hjs, rfl, rfl⟩ := hrel
      by_cases hlt : j < s.size
      · by_cases hd : 48 ≤ (s[j].toNat : Int) ∧ (s[j].toNat : Int) ≤ 57
        · obtain ⟨d1, d2⟩ := hd
          have HP := Lib.hid (preN_succ s 1 j hij hlt)
          go_wp2
          go_round
          case rel => exact ⟨j + 1, by omega, by omega, by go_num, by rw [HP.out]; rfl⟩
          case measure => simp [intOf]; omega
        · have HN := Lib.hid (refRes_none (odd_none s 1 HS.out j hij hlt hd))
          by_cases d1 : 48 ≤ (s[j].toNat : Int)
          · have d2 : ¬ (s[j].toNat : Int) ≤ 57 := fun h => hd ⟨d1, h⟩
            clear hd
            go_wp2
            go_ret2
            exact ⟨ret_val HN.out, New.refl _⟩
          · clear hd
            go_wp2
            go_ret2
            exact ⟨ret_val HN.out, New.refl _⟩
      · obtain rfl : j = s.size := by omega
        have hin := preN_in s 1 s.size
        have HV := Lib.hid (show preN s 1 s.size = refVal s.data.toList from by rw [preN_end, refVal, if_neg (by rw [HS.out]; decide)])
        have hb : ((textB (preN s 1 s.size)).toList == s.toList) = decide (Lib.itoa (preN s 1 s.size) = s.data.toList) := str_beq (by rw [textB_toList])
        have HI := Lib.hid hin
        clear hin
        cases ht : decide (Lib.itoa (preN s 1 s.size) = s.data.toList)
        · rw [ht] at hb
          have hne := of_decide_eq_false ht
          have HN := Lib.hid (refRes_none (show parseV s.data.toList = none from by rw [parse_val, ← HV.out, if_neg hne]))
          clear ht hne
          go_wp2_with (go_at_call 44; refine (refText_any _ HI.out _).mono ?_; rintro e w1 ⟨rfl, hn1⟩)
          go_ret2
          exact ⟨ret_val HN.out, hn1⟩
        · rw [ht] at hb
          have heq := of_decide_eq_true ht
          have HN := Lib.hid (refRes_some (show parseV s.data.toList = some (preN s 1 s.size) from by rw [parse_val, ← HV.out, if_pos heq]))
          clear ht heq
          go_wp2_with (go_at_call 44; refine (refText_any _ HI.out _).mono ?_; rintro e w1 ⟨rfl, hn1⟩)
          go_ret2
          exact ⟨ret_val HN.out, hn1⟩

theorem refNum_any (s : ByteArray) (w : World) :
    Calls Tryd.prog 52 #[.string s] w fun e w' => e = .returned (refRes s.data.toList) ∧ New w w' := by
  by_cases h : (20 : Int) < (s.size : Int)
  · exact refNum_long s h w
  · by_cases h0 : (0 : Int) < (s.size : Int)
    · by_cases hs : signLen s.data.toList = 0
      · exact refNum_plain s h h0 hs w
      · exact refNum_sign s h h0 (by unfold signLen at *; split <;> simp_all) w
    · exact refNum_empty s h0 w

theorem refNum_from {w0 : World} (s : ByteArray) (w : World) (hn : New w0 w) :
    Calls Tryd.prog 52 #[.string s] w fun e w' => e = .returned (refRes s.data.toList) ∧ New w0 w' :=
  (refNum_any s w).mono fun _ _ ⟨a, b⟩ => ⟨a, hn.trans b⟩
end Go.Proofs.YtoeplfhigpdopaaDoor
