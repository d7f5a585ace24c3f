/-
  The contracts of strings.Cut at one space, and of ins.piece, ins.read, ins.opOf.
-/
import Derived.Test.YtdghhedenjgjiaaGreatDoorInsB
import Derived.Lib.CutLaws
namespace Go.Proofs.YtdghhedenjgjiaaGreatDoor
open Go.RowKit

theorem idx_cut : ∀ l : List UInt8, Lib.indexByte l 32 = -1 ∧ cutL l = (l, [], false) ∨ ∃ i : Nat, Lib.indexByte l 32 = i ∧ i < l.length ∧ cutL l = (l.take i, l.drop (i + 1), true)
  | [] => .inl ⟨rfl, rfl⟩
  | c :: l => by
    by_cases h : c = 32
    · subst h
      exact .inr ⟨0, rfl, by simp, by simp [cutL]⟩
    · have h' : (c == 32) = false := by simp [h]
      rcases idx_cut l with ⟨h1, h2⟩ | ⟨i, h1, h2, h3⟩
      · refine .inl ⟨?_, ?_⟩
        · rw [Lib.indexByte, h1, h']; rfl
        · rw [cutL, if_neg h, h2]
      · refine .inr ⟨i + 1, ?_, by simp; omega, ?_⟩
        · rw [Lib.indexByte, h1, h']
          have : ((i : Int) == -1) = false := by simp
          rw [this]
          simp
        · rw [cutL, if_neg h, h3]; simp

theorem ret_cut {a b c d : ByteArray} {p : Bool} (h1 : a = c) (h2 : b = d) : Ending.returned (.tuple #[.string a, .string b, .bool p]) = .returned (.tuple #[.string c, .string d, .bool p]) := by rw [h1, h2]

set_option maxHeartbeats 1000000 in
theorem lcut_any (s : ByteArray) (hs : s.size ≤ 281474976710656) (w : World) :
    Calls Tryz.prog 75 #[.string s, .string ⟨#[32]⟩] w fun e w' => e = .returned (.tuple #[.string ⟨(cutL s.data.toList).1.toArray⟩, .string ⟨(cutL s.data.toList).2.1.toArray⟩, .bool (cutL s.data.toList).2.2]) ∧ New w w' := by
  have hc := Tryz.stringslite_Index_one s 32 w
  rcases idx_cut s.data.toList with ⟨h1, h2⟩ | ⟨i, h1, h2, h3⟩
  · rw [h1] at hc
    rw [h2]
    have H := Lib.hid hc
    have HS := Lib.hid hs
    clear hc h1 h2 hs
    go_enter Tryz.func75, Tryz.ntmps75
    go_wp2_with (go_at_call 92; refine (H.out).mono ?_; rintro e w1 ⟨rfl, rfl⟩)
    go_ret3
    exact ⟨ret_cut (by simp) rfl, New.refl _⟩
  · rw [h1] at hc
    rw [h3]
    have H := Lib.hid hc
    have hi : i < s.size := h2
    have c1 : (0 : Int) ≤ ↑i := by omega
    have c2 : (↑i : Int) ≤ ↑s.size := by omega
    have c3 : (0 : Int) ≤ ↑i + 1 := by omega
    have c4 : (↑i + 1 : Int) ≤ ↑s.size := by omega
    clear hc h1 h2 h3
    go_enter Tryz.func75, Tryz.ntmps75
    go_wp2_with (go_at_call 92; refine (H.out).mono ?_; rintro e w1 ⟨rfl, rfl⟩)
    go_region
    go_wp2
    go_ret3
    refine ⟨ret_cut ?_ ?_, (New.refl _).drew⟩
    · rw [Lib.extract_eq]; simp
    · rw [Lib.extract_eq]
      congr 2
      exact List.take_of_length_le (by rw [List.length_drop]; exact Nat.le_refl _)
theorem cut_from {w0 : World} (s : ByteArray) (hs : s.size ≤ 281474976710656) (w : World) (h : New w0 w) :
    Calls Tryz.prog 61 #[.string s, .string ⟨#[32]⟩] w fun e w' => e = .returned (.tuple #[.string ⟨(cutL s.data.toList).1.toArray⟩, .string ⟨(cutL s.data.toList).2.1.toArray⟩, .bool (cutL s.data.toList).2.2]) ∧ New w0 w' := by
  have hc := lcut_any s hs
  have H := Lib.hid hc
  clear hc hs
  go_enter Tryz.func61, Tryz.ntmps61
  go_wp2_with (go_at_call 75; refine (H.out _).mono ?_; rintro e w1 ⟨rfl, hn⟩)
  go_ret3
  exact ⟨rfl, h.trans hn⟩

-- pieces
theorem read_from {w0 : World} (c : Int) (s : ByteArray) (hs : s.size ≤ 281474976710656) (w : World) (hl : Hid (Laid w0)) (h : New w0 w) :
    Calls Tryz.prog 65 #[.int .i32 c, .string s] w fun e w' => e = .returned (.tuple #[.int .i64 (readV c s.data.toList), .int .i64 (readE c s.data.toList)]) ∧ New w0 w' := by
  cases hp : placeB c with
  | false =>
    have e1 : readV c s.data.toList = parN s.data.toList := by unfold readV; rw [if_neg (by rw [hp]; decide)]
    have e2 : readE c s.data.toList = parE s.data.toList := by unfold readE; rw [if_neg (by rw [hp]; decide)]
    rw [e1, e2]
    have H := Lib.hid (numParse_any s hs w (hl.out.new h))
    clear hl hs
    go_enter Tryz.func65, Tryz.ntmps65
    go_wp2_with (first | (go_at_call 76; refine (place_any _ _).mono ?_; rintro e w1 ⟨rfl, rfl⟩) | (go_at_call 77; refine (H.out).mono ?_; rintro e w1 ⟨rfl, hn⟩))
    go_ret2
    exact ⟨rfl, h.trans hn⟩
  | true =>
    have e1 : readV c s.data.toList = locN s.data.toList := by unfold readV; rw [if_pos hp]
    have e2 : readE c s.data.toList = locE s.data.toList := by unfold readE; rw [if_pos hp]
    rw [e1, e2]
    have H := Lib.hid (parse_any s hs w)
    clear hl hs
    go_enter Tryz.func65, Tryz.ntmps65
    go_wp2_with (first | (go_at_call 76; refine (place_any _ _).mono ?_; rintro e w1 ⟨rfl, rfl⟩) | (go_at_call 78; refine (H.out).mono ?_; rintro e w1 ⟨rfl, hn⟩))
    go_ret2
    exact ⟨rfl, h.trans hn⟩

-- words
def wordB (k : Nat) : ByteArray := ⟨(wordL k).toArray⟩
theorem wordB_toList (k : Nat) : (wordB k).data.toList = wordL k := by simp [wordB]
theorem opOf_none {l : List UInt8} (h : ∀ k, 1 ≤ k → k < 19 → wordL k ≠ l) : opOfL l = 0 := by
  unfold opOfL
  rw [List.find?_eq_none.mpr]
  · rfl
  · intro k hk
    have h3 : ∀ j ∈ (List.range 19).drop 1, 1 ≤ j ∧ j ≤ 18 := by decide
    have := h3 k hk
    have := h k (by omega) (by omega)
    simpa using this
set_option maxHeartbeats 1000000 in
theorem opOf_any (s : ByteArray) (w : World) (hl : Laid w) :
    Calls Tryz.prog 62 #[.string s] w fun e w' => e = .returned (.int .i64 (opOfL s.data.toList : Nat)) ∧ w' = w := by
  have hcell : ∀ k : Nat, k < 19 → w.cell? ⟨0, k * 2, none⟩ = some (.string (wordB k)) := fun k hk => hl.cell (k * 2) (by omega)
  have HL := Lib.hid hcell
  clear hl hcell
  go_enter Tryz.func62, Tryz.ntmps62
  go_wp2
  go_loop [3] (fun v => ∃ k : Nat, 1 ≤ k ∧ k ≤ 19 ∧ v = .int .i64 k ∧ Hid (∀ j, 1 ≤ j → j < k → wordL j ≠ s.data.toList)) (fun v => 19 - (intOf v).toNat)
  case atStart => exact ⟨1, by omega, by omega, rfl, Lib.hid (fun j h1 h2 => by omega)⟩
  case round =>
    obtain ⟨k, hk1, hk, rfl, HJ⟩ := hrel
    by_cases hlt : k < 19
    · have hc := HL.out k hlt
      cases hq : decide (wordL k = s.data.toList) with
      | true =>
        have hq' : wordL k = s.data.toList := by simpa using hq
        have hb : ((wordB k).toList == s.toList) = true := str_beq (by rw [wordB_toList]; exact hq)
        have e1 : ((opOfL s.data.toList : Nat) : Int) = k := by rw [← hq', opOf_word k hlt hk1]
        clear hq
        go_wp2
        go_ret
        exact ⟨rfl, rfl⟩
      | false =>
        have hq' : wordL k ≠ s.data.toList := by simpa using hq
        have hb : ((wordB k).toList == s.toList) = false := str_beq (by rw [wordB_toList]; exact hq)
        clear hq
        go_wp2
        go_round
        case rel =>
          refine ⟨k + 1, by omega, by omega, by go_num, Lib.hid (fun j h1 h2 => ?_)⟩
          by_cases hjk : j = k
          · rw [hjk]; exact hq'
          · exact HJ.out j h1 (by omega)
        case measure => simp [intOf]; omega
    · have e1 : ((opOfL s.data.toList : Nat) : Int) = 0 := by rw [opOf_none (fun j h1 h2 => HJ.out j h1 (by omega))]; rfl
      go_wp2
      go_ret
      exact ⟨rfl, rfl⟩
end Go.Proofs.YtdghhedenjgjiaaGreatDoor
