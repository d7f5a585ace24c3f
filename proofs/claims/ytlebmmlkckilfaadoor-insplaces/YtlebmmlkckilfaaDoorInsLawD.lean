/-
  The law InsPlaces: true at every input.
-/
import Derived.Test.YtlebmmlkckilfaaDoorInsKnows
namespace Go.Proofs.YtlebmmlkckilfaaDoor
open Go.RowKit

theorem owns_forms {w : World} {base e n : Nat} {v : Value} {l : List Int} (h : w.ownsRow base e 1 v l.length (l.map (Value.int .i64))) (hn : l.length = n) :
    ∃ (p : Option Addr) (cap : Nat), v = .slice p n cap ∧ ∀ k < n, ∃ g, p = some ⟨g, 0, none⟩ ∧ w.cell? ⟨g, k, none⟩ = some (.int .i64 (l.getD k 0)) := by
  subst hn
  rcases h.2 with ⟨rfl, h0⟩ | ⟨g, cap, cur, rfl, hg, hb, h1, h2, h3, h4⟩
  · refine ⟨none, 0, by rw [h0], fun k hk => by omega⟩
  · refine ⟨some ⟨g, 0, none⟩, cap, rfl, fun k hk => ⟨g, rfl, ?_⟩⟩
    rw [cell_of_row w g k cur e _ hb]
    have h5 : (cur.toList.take (l.length * 1))[k]? = (l.map (Value.int .i64))[k]? := by rw [h4]
    rw [List.getElem?_take, if_pos (by omega), List.getElem?_map] at h5
    rw [← Array.getElem?_toList, h5, List.getD_eq_getElem?_getD, List.getElem?_eq_getElem hk]
    rfl
theorem uses_len (x : I) : ∀ L : List Int, (usesR x L).length = (L.filter fun c => decide (c = 65 ∨ c = 66)).length
  | [] => rfl
  | c :: L => by
    rw [usesR, List.filter_cons]
    by_cases h : c = 65
    · rw [if_pos h, if_pos (by simp [h])]; simp [uses_len x L]
    · by_cases h2 : c = 66
      · rw [if_neg h, if_pos h2, if_pos (by simp [h2])]; simp [uses_len x L]
      · rw [if_neg h, if_neg h2, if_neg (by simp [h, h2])]; exact uses_len x L
theorem uses_mem {x : I} : ∀ {L : List Int} {v : Int}, v ∈ usesR x L → ((65 : Int) ∈ L ∧ v = x.a) ∨ ((66 : Int) ∈ L ∧ v = x.b)
  | [], v, h => by cases h
  | c :: L, v, h => by
    rw [usesR] at h
    by_cases h1 : c = 65
    · rw [if_pos h1] at h
      rcases List.mem_cons.mp h with h | h
      · exact .inl ⟨by rw [h1]; exact List.mem_cons_self .., h⟩
      · rcases uses_mem h with ⟨h, e⟩ | ⟨h, e⟩
        · exact .inl ⟨List.mem_cons_of_mem _ h, e⟩
        · exact .inr ⟨List.mem_cons_of_mem _ h, e⟩
    · rw [if_neg h1] at h
      by_cases h2 : c = 66
      · rw [if_pos h2] at h
        rcases List.mem_cons.mp h with h | h
        · exact .inr ⟨by rw [h2]; exact List.mem_cons_self .., h⟩
        · rcases uses_mem h with ⟨h, e⟩ | ⟨h, e⟩
          · exact .inl ⟨List.mem_cons_of_mem _ h, e⟩
          · exact .inr ⟨List.mem_cons_of_mem _ h, e⟩
      · rw [if_neg h2] at h
        rcases uses_mem h with ⟨h, e⟩ | ⟨h, e⟩
        · exact .inl ⟨List.mem_cons_of_mem _ h, e⟩
        · exact .inr ⟨List.mem_cons_of_mem _ h, e⟩
def usesN (op : Int) : Nat := ((letters op).filter fun c => decide (c = 65 ∨ c = 66)).length
def tellB (op : Int) : Bool := if movesB op = true then decide (usesN op = 0) && !setsB op else decide (1 ≤ usesN op ∧ usesN op ≤ 2)
theorem tell_all : ∀ k < 19, 1 ≤ k → tellB (k : Nat) = true := by decide +kernel
theorem tell_table (k : Nat) (h : k < 19) (h1 : 1 ≤ k) : (movesB k = true → usesN k = 0 ∧ setsB k = false) ∧ (movesB k = false → 1 ≤ usesN k ∧ usesN k ≤ 2) := by
  have ht := tell_all k h h1
  unfold tellB at ht
  constructor
  · intro hm
    rw [if_pos hm] at ht
    simpa using ht
  · intro hm
    rw [if_neg (by rw [hm]; decide)] at ht
    simpa using ht
theorem right_tells {x : I} (h : chkV x 200 = 0) :
    (∀ k < (usesL x).length, 0 ≤ (usesL x).getD k 0 ∧ (usesL x).getD k 0 ≤ 7) ∧ (movesB x.op = true → (usesL x).length = 0 ∧ setsB x.op = false) ∧ (movesB x.op = false → 1 ≤ (usesL x).length ∧ (usesL x).length ≤ 2) ∧ (setsB x.op = true → 0 ≤ setsV x ∧ setsV x ≤ 7) := by
  obtain ⟨h1, h2, h3⟩ := chk_zero h
  have hk := known_iff.mp h1
  have ht := tell_table x.op.toNat (by omega) (by omega)
  rw [show ((x.op.toNat : Nat) : Int) = x.op from by omega] at ht
  have hl : (usesR x (letters x.op)).length = usesN x.op := uses_len x (letters x.op)
  have hreg : ∀ c v : Int, c = 68 ∨ c = 65 ∨ c = 66 → faultV c v 200 = 0 → 0 ≤ v ∧ v ≤ 7 := by
    intro c v hc hf
    unfold faultV at hf
    rw [if_neg (by omega), if_pos hc] at hf
    split at hf
    · omega
    · omega
  refine ⟨?_, fun hm => ?_, fun hm => ?_, fun hs => ?_⟩
  · intro k hk
    have hm : (usesL x).getD k 0 ∈ usesL x := by
      rw [List.getD_eq_getElem?_getD, List.getElem?_eq_getElem hk]
      exact List.getElem_mem hk
    rcases uses_mem hm with ⟨hc, e⟩ | ⟨hc, e⟩
    · rw [e]; exact hreg 65 _ (by omega) (h3 65 hc)
    · rw [e]; exact hreg 66 _ (by omega) (h3 66 hc)
  · exact ⟨hl.trans (ht.1 hm).1, (ht.1 hm).2⟩
  · rw [show (usesL x).length = _ from hl]; exact ht.2 hm
  · have hc : (68 : Int) ∈ letters x.op := by unfold setsB at hs; simpa using hs
    rw [show setsV x = x.d from if_pos hs]
    exact hreg 68 _ (by omega) (h3 68 hc)

set_option maxHeartbeats 1000000 in
set_option maxRecDepth 100000 in
theorem insPlaces_bad (o d a b n t : Int) (ex : (chkV ⟨o, d, a, b, n, t⟩ 200 == 0) = false) (w : World) (hl : Laid w) :
    Calls Tryd.prog 10 #[.agg #[.int .i64 o, .int .i64 d, .int .i64 a, .int .i64 b, .int .i64 n, .int .i64 t]] w fun e w' => e = .returned (.bool true) ∧ New w w' := by
  have HL := Lib.hid hl
  clear hl
  go_enter Tryd.func10, Tryd.ntmps10
  go_wp2_with (first
    | (go_at_call 12; refine (check_any o d a b n t 200 _ (HL.out.alloc _)).mono ?_; rintro e w1 ⟨rfl, hn1⟩)
    | (go_at_call 14; refine (knows_from _ HL ((alloc_new _ _).trans hn1)).mono ?_; rintro e w2 ⟨rfl, h2⟩))
  go_ret
  exact ⟨rfl, h2⟩

set_option maxHeartbeats 2000000 in
set_option maxRecDepth 100000 in
theorem insPlaces_good (o d a b n t : Int) (hc : chkV ⟨o, d, a, b, n, t⟩ 200 = 0) (w : World) (hl : Laid w) :
    Calls Tryd.prog 10 #[.agg #[.int .i64 o, .int .i64 d, .int .i64 a, .int .i64 b, .int .i64 n, .int .i64 t]] w fun e w' => e = .returned (.bool true) ∧ New w w' := by
  have HL := Lib.hid hl
  obtain ⟨r1, r2, r3, r4⟩ := right_tells hc
  generalize hm : (usesL ⟨o, d, a, b, n, t⟩).length = m at *
  have HM := Lib.hid hm
  have R1 := Lib.hid r1
  have R2 : Hid (movesB o = true → m = 0 ∧ setsB o = false) := Lib.hid r2
  have R3 : Hid (movesB o = false → 1 ≤ m ∧ m ≤ 2) := Lib.hid r3
  have R4 : Hid (setsB o = true → 0 ≤ setsV ⟨o, d, a, b, n, t⟩ ∧ setsV ⟨o, d, a, b, n, t⟩ ≤ 7) := Lib.hid r4
  have hx0 := Lib.hid (Has.box w ⟨o, d, a, b, n, t⟩)
  clear hl r1 r2 r3 r4 hm
  go_enter Tryd.func10, Tryd.ntmps10
  go_wp2_with (first
    | (go_at_call 12; refine (check_any o d a b n t 200 _ (HL.out.alloc _)).mono ?_; rintro e w1 ⟨rfl, hn⟩; have hcur := (alloc_new _ _).trans hn; have hx := hx0.out.new hn)
    | (refine wpList_ldI rfl (.tmp 1) rfl _ rfl hx ?_))
  refine (uses_any o d a b n t _ (HL.out.new hcur)).mono ?_
  rintro e w2 ⟨v, rfl, hown, hn⟩
  have hcur := hcur.trans hn
  have hx := hx.new hn
  obtain ⟨p, cap, rfl, hcell⟩ := owns_forms hown HM.out
  have HO := Lib.hid hcell
  clear hown hcell
  go_wp2_with (first
    | (refine wpList_ldI rfl (.tmp 1) rfl _ rfl hx ?_)
    | (go_at_call 21; refine (sets_any o d a b n t _ (HL.out.new hcur)).mono ?_; rintro e w3 ⟨rfl, hn⟩; have HN3 := Lib.hid hn; have hcur := hcur.trans hn; have hx := hx.new hn))
  have HC : Hid (∀ k < m, ∃ g, p = some ⟨g, 0, none⟩ ∧ w3.cell? ⟨g, k, none⟩ = some (.int .i64 ((usesL ⟨o, d, a, b, n, t⟩).getD k 0))) := Lib.hid fun k hk => by
    obtain ⟨g, h1, h2⟩ := HO.out k hk
    exact ⟨g, h1, (HN3.out.cell (World.block_lt_of_cell? _ _ h2)).trans h2⟩
  have hm2 : m ≤ 2 := by
    cases h : movesB o with
    | true => have := (R2.out h).1; omega
    | false => exact (R3.out h).2
  go_loop [6] (fun v => ∃ k : Nat, k ≤ m ∧ v = .int .i64 k) (fun v => m - (intOf v).toNat)
  case atStart => exact ⟨0, Nat.zero_le _, rfl⟩
  case round =>
    obtain ⟨k, hk, rfl⟩ := hrel
    by_cases hlt : k < m
    · obtain ⟨g, rfl, hcg⟩ := HC.out k hlt
      have hr := R1.out k hlt
      generalize (usesL ⟨o, d, a, b, n, t⟩).getD k 0 = u at *
      go_wp2
      go_round
      case rel => exact ⟨k + 1, by omega, by go_num⟩
      case measure => simp [intOf]; omega
    · cases hmv : movesB o with
      | true =>
        obtain ⟨hm0, hs0⟩ := R2.out hmv
        subst hm0
        go_wp2_with (first
          | (refine wpList_ldI rfl (.tmp 1) rfl _ rfl hx ?_)
          | (go_at_call 23; refine (moves_any o d a b n t _).mono ?_; rintro e w4 ⟨rfl, hn⟩; have hcur := hcur.trans hn)
          | (go_at_call 14; refine (knows_from _ HL hcur).mono ?_; rintro e w5 ⟨rfl, h5⟩))
        go_ret
        exact ⟨rfl, h5⟩
      | false =>
        obtain ⟨hm1, hm3⟩ := R3.out hmv
        cases hst : setsB o with
        | true =>
          obtain ⟨s1, s2⟩ := R4.out hst
          go_wp2_with (first
            | (refine wpList_ldI rfl (.tmp 1) rfl _ rfl hx ?_)
            | (go_at_call 23; refine (moves_any o d a b n t _).mono ?_; rintro e w4 ⟨rfl, hn⟩; have hcur := hcur.trans hn)
            | (go_at_call 14; refine (knows_from _ HL hcur).mono ?_; rintro e w5 ⟨rfl, h5⟩))
          go_ret
          exact ⟨rfl, h5⟩
        | false =>
          go_wp2_with (first
            | (refine wpList_ldI rfl (.tmp 1) rfl _ rfl hx ?_)
            | (go_at_call 23; refine (moves_any o d a b n t _).mono ?_; rintro e w4 ⟨rfl, hn⟩; have hcur := hcur.trans hn)
            | (go_at_call 14; refine (knows_from _ HL hcur).mono ?_; rintro e w5 ⟨rfl, h5⟩))
          go_ret
          exact ⟨rfl, h5⟩
theorem insPlaces_law (o d a b n t : Int) (_hx : In64I ⟨o, d, a, b, n, t⟩) (w : World) (hl : Laid w) :
    Calls Tryd.prog 10 #[.agg #[.int .i64 o, .int .i64 d, .int .i64 a, .int .i64 b, .int .i64 n, .int .i64 t]] w fun e w' => e = .returned (.bool true) ∧ New w w' := by
  by_cases hc : chkV ⟨o, d, a, b, n, t⟩ 200 = 0
  · exact insPlaces_good o d a b n t hc w hl
  · exact insPlaces_bad o d a b n t (by simpa using hc) w hl
end Go.Proofs.YtlebmmlkckilfaaDoor
