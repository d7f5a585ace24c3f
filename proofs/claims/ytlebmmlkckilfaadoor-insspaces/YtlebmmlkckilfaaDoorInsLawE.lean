/-
  The law InsSpaces: true at every input.
-/
import Derived.Test.YtlebmmlkckilfaaDoorInsKnows
import Derived.Deep.CutRange
namespace Go.Proofs.YtlebmmlkckilfaaDoor
open Go.RowKit

def beginsB (k j i : Nat) : Bool := !(wordL j == (wordL k).take i) || j == k
theorem begins_all : ∀ k < 19, ∀ j < 19, ∀ i < 6, 1 ≤ k → 1 ≤ j → beginsB k j i = true := by decide +kernel
theorem count_none {l : List UInt8} (h : (32 : UInt8) ∉ l) : l.count 32 = 0 := List.count_eq_zero.mpr h
theorem count_join : ∀ q : List (Int × Int), (joinL q).count 32 = q.length
  | [] => rfl
  | p :: q => by
    simp only [joinL]
    rw [List.count_cons, List.count_append, count_none (piece_no32 _ _), count_join q]
    simp
theorem count_prt {x : I} (h : knownB x.op = true) : (prtL x).count 32 = (letters x.op).length := by
  have hk := known_iff.mp h
  unfold prtL
  rw [List.count_append, count_none (word_no32 _ (by omega)), count_join]
  unfold valsOf
  simp
/-- With a space more it is no instruction's text. -/
theorem spaces_none {x : I} (hc : chkV x 200 = 0) (i : Nat) : prs ((prtL x).take i ++ 32 :: (prtL x).drop i) = none := by
  cases hp : prs ((prtL x).take i ++ 32 :: (prtL x).drop i) with
  | none => rfl
  | some y =>
    exfalso
    obtain ⟨cy, py, _⟩ := prt_prs hp
    have kx := (chk_zero hc).1
    have ky := (chk_zero cy).1
    have kx' := known_iff.mp kx
    have ky' := known_iff.mp ky
    have hcount : (prtL y).count 32 = (prtL x).count 32 + 1 := by
      rw [py, List.count_append, List.count_cons, ← Nat.add_assoc, ← List.count_append, List.take_append_drop]
      simp
    rw [count_prt kx, count_prt ky] at hcount
    have hne : x.op ≠ y.op := fun e => by rw [e] at hcount; omega
    have hj : ∃ r, joinL (valsOf (letters x.op) x) = 32 :: r := by
      rcases letters_of kx with e | e | e | e | e | e | e | e | e <;> rw [e] <;> exact ⟨_, rfl⟩
    obtain ⟨r, hr⟩ := hj
    have hj' : ∃ r, joinL (valsOf (letters y.op) y) = 32 :: r := by
      rcases letters_of ky with e | e | e | e | e | e | e | e | e <;> rw [e] <;> exact ⟨_, rfl⟩
    obtain ⟨r', hr'⟩ := hj'
    have hx : prtL x = wordL x.op.toNat ++ 32 :: r := by unfold prtL; rw [hr]
    have hy : (cutL (prtL y)).1 = wordL y.op.toNat := by
      unfold prtL; rw [hr', cut_at (word_no32 _ (by omega))]
    have hwl := word_len x.op.toNat (by omega)
    have n32 := word_no32 x.op.toNat (by omega)
    rw [py, hx] at hy
    by_cases hi : i ≤ (wordL x.op.toNat).length
    · rw [List.take_append_of_le_length hi] at hy
      rw [cut_at (fun h => n32 (List.mem_of_mem_take h))] at hy
      have hb := begins_all x.op.toNat (by omega) y.op.toNat (by omega) i (by omega) (by omega) (by omega)
      unfold beginsB at hb
      simp only at hy
      rw [← hy] at hb
      have : y.op.toNat = x.op.toNat := by simpa using hb
      omega
    · obtain ⟨m, rfl⟩ : ∃ m, i = (wordL x.op.toNat).length + (m + 1) := ⟨i - (wordL x.op.toNat).length - 1, by omega⟩
      rw [List.take_append, List.take_of_length_le (by omega), show (wordL x.op.toNat).length + (m + 1) - (wordL x.op.toNat).length = m + 1 from by omega, List.take_succ_cons, List.append_assoc, List.cons_append, cut_at n32] at hy
      simp only at hy
      have h1 := opOf_word x.op.toNat (by omega) (by omega)
      have h2 := opOf_word y.op.toNat (by omega) (by omega)
      rw [← hy, h1] at h2
      omega

theorem New.setCell {a w : World} (h : New a w) {p : Addr} (hp : a.heap.size ≤ p.block) (u : Value) : New a (w.setCell p u) := Below.setCell h hp u
theorem Has.full {w : World} {g : Nat} {x : I} (h : Has w g x) :
    w.cell? ⟨g, 0, none⟩ = some (.int .i64 x.op) ∧ w.cell? ⟨g, 1, none⟩ = some (.int .i64 x.d) ∧ w.cell? ⟨g, 2, none⟩ = some (.int .i64 x.a) ∧ w.cell? ⟨g, 3, none⟩ = some (.int .i64 x.b) ∧ w.cell? ⟨g, 4, none⟩ = some (.int .i64 x.n) ∧ w.cell? ⟨g, 5, none⟩ = some (.int .i64 x.t) ∧
    w.frozen? ⟨g, 0, none⟩ = false ∧ w.frozen? ⟨g, 1, none⟩ = false ∧ w.frozen? ⟨g, 2, none⟩ = false ∧ w.frozen? ⟨g, 3, none⟩ = false ∧ w.frozen? ⟨g, 4, none⟩ = false ∧ w.frozen? ⟨g, 5, none⟩ = false := by
  have hf : ∀ i, w.frozen? ⟨g, i, none⟩ = false := fun i => by
    have h' : w.heap[g]? = _ := h
    simp [World.frozen?, h']
  refine ⟨?_, ?_, ?_, ?_, ?_, ?_, hf 0, hf 1, hf 2, hf 3, hf 4, hf 5⟩ <;> exact cell_of_row w g _ _ _ _ h
set_option maxHeartbeats 1000000 in
set_option maxRecDepth 100000 in
theorem insSpaces_bad (o d a b n t k : Int) (hx : In64I ⟨o, d, a, b, n, t⟩) (ex : (prtE ⟨o, d, a, b, n, t⟩ == 0) = false) (w : World) (hl : Laid w) :
    Calls Tryd.prog 11 #[.agg #[.int .i64 o, .int .i64 d, .int .i64 a, .int .i64 b, .int .i64 n, .int .i64 t], .int .u8 k] w fun e w' => e = .returned (.bool true) ∧ New w w' := by
  have HL := Lib.hid hl
  have HX := Lib.hid hx
  clear hl hx
  go_enter Tryd.func11, Tryd.ntmps11
  go_wp2_with (first
    | (go_at_call 15; refine (print_any o d a b n t HX.out _ (HL.out.alloc _)).mono ?_; rintro e w1 ⟨rfl, hn1⟩)
    | (go_at_call 14; refine (knows_from _ HL ((alloc_new _ _).trans hn1)).mono ?_; rintro e w2 ⟨rfl, h2⟩))
  go_ret
  exact ⟨rfl, h2⟩

set_option maxHeartbeats 2000000 in
set_option maxRecDepth 100000 in
theorem insSpaces_good (o d a b n t k : Int) (hx : In64I ⟨o, d, a, b, n, t⟩) (hk : 0 ≤ k ∧ k ≤ 255) (hc : chkV ⟨o, d, a, b, n, t⟩ 200 = 0) (w : World) (hl : Laid w) :
    Calls Tryd.prog 11 #[.agg #[.int .i64 o, .int .i64 d, .int .i64 a, .int .i64 b, .int .i64 n, .int .i64 t], .int .u8 k] w fun e w' => e = .returned (.bool true) ∧ New w w' := by
  have HL := Lib.hid hl
  have HX := Lib.hid hx
  have ex := prtE_good hc
  have hs100 : (prtT ⟨o, d, a, b, n, t⟩).size ≤ 100 := by
    have := prt_len hx (chk_zero hc).1
    rw [← prtT_good hc] at this
    exact this
  obtain ⟨i, hi, hile⟩ : ∃ i : Nat, k.tmod (((prtT ⟨o, d, a, b, n, t⟩).size : Int) + 1) = i ∧ i ≤ (prtT ⟨o, d, a, b, n, t⟩).size := by
    have h0 := Int.tmod_nonneg (((prtT ⟨o, d, a, b, n, t⟩).size : Int) + 1) hk.1
    have h1 := Int.tmod_lt_of_pos k (show 0 < (((prtT ⟨o, d, a, b, n, t⟩).size : Int) + 1) from by omega)
    exact ⟨(k.tmod (((prtT ⟨o, d, a, b, n, t⟩).size : Int) + 1)).toNat, by omega, by omega⟩
  have hpn : prs (((prtT ⟨o, d, a, b, n, t⟩).extract 0 i ++ (⟨#[32]⟩ : ByteArray)) ++ (prtT ⟨o, d, a, b, n, t⟩).extract i (prtT ⟨o, d, a, b, n, t⟩).size).data.toList = none := by
    have h := spaces_none hc i
    rw [← prtT_good hc] at h
    rw [ByteArray.data_append, Array.toList_append, ByteArray.data_append, Array.toList_append, Lib.extract_eq, Lib.extract_eq]
    have ht : List.take ((prtT ⟨o, d, a, b, n, t⟩).size - i) (List.drop i (prtT ⟨o, d, a, b, n, t⟩).data.toList) = List.drop i (prtT ⟨o, d, a, b, n, t⟩).data.toList :=
      List.take_of_length_le (by rw [List.length_drop]; exact Nat.le_refl _)
    rw [ht]
    simpa using h
  have hsz1 : ((prtT ⟨o, d, a, b, n, t⟩).extract 0 i).size = i := by rw [ByteArray.size_extract]; omega
  have hsz2 : ((prtT ⟨o, d, a, b, n, t⟩).extract i (prtT ⟨o, d, a, b, n, t⟩).size).size = (prtT ⟨o, d, a, b, n, t⟩).size - i := by rw [ByteArray.size_extract]; omega
  have hsz3 : ((prtT ⟨o, d, a, b, n, t⟩).extract 0 i ++ (⟨#[32]⟩ : ByteArray)).size = i + 1 := by rw [ByteArray.size_append, hsz1]; rfl
  have hsz4 : ((((prtT ⟨o, d, a, b, n, t⟩).extract 0 i ++ (⟨#[32]⟩ : ByteArray)) ++ (prtT ⟨o, d, a, b, n, t⟩).extract i (prtT ⟨o, d, a, b, n, t⟩).size).size ≤ 1000) := by rw [ByteArray.size_append, hsz3, hsz2]; omega
  have PN : Hid (∀ w, Laid w → Calls Tryd.prog 17 #[.string (((prtT ⟨o, d, a, b, n, t⟩).extract 0 i ++ (⟨#[32]⟩ : ByteArray)) ++ (prtT ⟨o, d, a, b, n, t⟩).extract i (prtT ⟨o, d, a, b, n, t⟩).size)] w fun e w' => e = .returned (.tuple #[.agg #[.int .i64 0, .int .i64 0, .int .i64 0, .int .i64 0, .int .i64 0, .int .i64 0], .int .i64 2]) ∧ New w w') := Lib.hid fun w hl => by
    have := insParse_any _ (Nat.le_trans hsz4 (by decide)) w hl
    rw [prsX_none hpn, prsE_none hpn] at this
    exact this
  clear hpn hsz4
  have hz1 : ¬ 9223372036854775807 < ((prtT ⟨o, d, a, b, n, t⟩).extract 0 i).size + 1 := by omega
  have hz2 : ¬ 9223372036854775807 < ((prtT ⟨o, d, a, b, n, t⟩).extract 0 i ++ (⟨#[32]⟩ : ByteArray)).size + ((prtT ⟨o, d, a, b, n, t⟩).extract i (prtT ⟨o, d, a, b, n, t⟩).size).size := by omega
  have hzero : (((prtT ⟨o, d, a, b, n, t⟩).size : Int) + 1 == 0) = false := bneq_of (by omega)
  have c1 : (0 : Int) ≤ ↑i := by omega
  have c2 : (↑i : Int) ≤ ↑(prtT ⟨o, d, a, b, n, t⟩).size := by omega
  clear hsz1 hsz2 hsz3 hl hx hc
  go_enter Tryd.func11, Tryd.ntmps11
  go_upto_region 5 with (first
    | (go_at_call 15; refine (print_any o d a b n t HX.out _ (HL.out.alloc _)).mono ?_; rintro e w1 ⟨rfl, hn1⟩; generalize prtT ⟨o, d, a, b, n, t⟩ = s at *))
  have hcur := (alloc_new w (.cells #[.int .i64 o, .int .i64 d, .int .i64 a, .int .i64 b, .int .i64 n, .int .i64 t] 23)).trans hn1
  have hle : w.heap.size ≤ w1.heap.size := hcur.size
  go_cut [8, 9] from 24 to 35 (fun _ s9 wx => s9 = .int .i64 2 ∧ New w wx)
  case first =>
    go_region_with (first
      | (go_at_call 17; refine (PN.out _ (HL.out.new hcur.drew)).mono ?_; rintro e w2 ⟨rfl, hn2⟩; have hcur2 := hcur.drew.trans hn2)
      | (go_at_call 17; refine (PN.out _ ((HL.out.new hcur.drew).alloc _)).mono ?_; rintro e w2 ⟨rfl, hn2⟩; have hcur2 := (hcur.drew.alloc _).trans hn2; have hzz : Has w2 w1.heap.size ⟨0, 0, 0, 0, 0, 0⟩ := (Has.zero w1.drew).new hn2; obtain ⟨f0, f1, f2, f3, f4, f5, g0, g1, g2, g3, g4, g5⟩ := Has.full hzz; dsimp only at f0 f1 f2 f3 f4 f5))
    all_goals
      go_wp2_with fail
      go_meet
      refine ⟨rfl, ?_⟩
      repeat (first | (with_reducible exact hcur2) | (with_reducible refine New.alloc ?_ _) | (with_reducible refine New.setCell ?_ hle _))
  case rest =>
  obtain ⟨rfl, hw⟩ := hcut
  go_wp2_with (go_at_call 14; refine (knows_from _ HL hw).mono ?_; rintro e w3 ⟨rfl, h3⟩)
  go_ret
  exact ⟨rfl, h3⟩
theorem insSpaces_law (o d a b n t k : Int) (hx : In64I ⟨o, d, a, b, n, t⟩) (hk : 0 ≤ k ∧ k ≤ 255) (w : World) (hl : Laid w) :
    Calls Tryd.prog 11 #[.agg #[.int .i64 o, .int .i64 d, .int .i64 a, .int .i64 b, .int .i64 n, .int .i64 t], .int .u8 k] w fun e w' => e = .returned (.bool true) ∧ New w w' := by
  by_cases hc : chkV ⟨o, d, a, b, n, t⟩ 200 = 0
  · exact insSpaces_good o d a b n t k hx hk hc w hl
  · exact insSpaces_bad o d a b n t k hx (by rw [prtE_bad hc]; rfl) w hl
end Go.Proofs.YtlebmmlkckilfaaDoor
