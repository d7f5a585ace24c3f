/-
  'EnvTexts': a source's text is the one that the document says: true, for every number, under what the packages' start-up lays.
-/
import Derived.Test.YthdbehalbcoibaaDoorEnvKnows
import Derived.Test.YthdbehalbcoibaaDoorLocRefT
namespace Go.Proofs.YthdbehalbcoibaaDoor
open Go.RowKit

/-- What strconv's table holds. -/
def Laid (w : World) : Prop := Lib.TabIs Tryd.prog w "internal/strconv.uint64pow10" .u64 Lib.pow10Tab
theorem gTab : Tryd.prog.globalNamed "internal/strconv.uint64pow10" = some 0 := by kernel_rfl
theorem var_new {n : String} {g : Nat} {cs : Array Value} {w w' : World} (hg : Tryd.prog.globalNamed n = some g) (h : w.var? Tryd.prog n = some cs) (hn : New w w') : w'.var? Tryd.prog n = some cs := by
  simp only [World.var?, hg, Option.bind_some] at h ⊢
  by_cases hlt : g < w.heap.size
  · rw [hn.block g hlt]; exact h
  · rw [Array.getElem?_eq_none (by omega)] at h; cases h
theorem new_grow (w : World) (k : Nat) (os : Array Obj) : New w (Sort.grow (w.drewN k) os) := by
  refine ⟨rfl, rfl, rfl, ?_, fun j hj => ?_⟩
  · show w.heap.size ≤ (w.heap ++ os).size
    rw [Array.size_append]; omega
  · show (w.heap ++ os)[j]? = _
    rw [Array.getElem?_append_left hj]
theorem Laid.new {w w' : World} (h : Laid w) (n : New w w') : Laid w' := var_new gTab h n
theorem numText_any (n : Int) (hn : In64 n) (w : World) (hl : Laid w) :
    Calls Tryd.prog 10 #[.int .i64 n] w fun e w' => e = .returned (.string (textB n)) ∧ New w w' := by
  have hc := Tryd.strconv_FormatInt_10 n hn.1 hn.2 w hl
  have H := Lib.hid hc
  clear hc hn hl
  go_enter Tryd.func10, Tryd.ntmps10
  go_wp2_with (go_at_call 18; refine (H.out).mono ?_; rintro e w' ⟨rfl, k, os, rfl⟩)
  go_ret
  exact ⟨rfl, new_grow _ _ _⟩
theorem isText_any (n : Int) (hn : In64 n) (w : World) (hl : Laid w) :
    Calls Tryd.prog 6 #[.agg #[.int .i64 n]] w fun e w' => e = .returned (.string (textB n)) ∧ New w w' := by
  have HN := Lib.hid hn
  have HL := Lib.hid hl
  clear hn hl
  go_enter Tryd.func6, Tryd.ntmps6
  go_wp2_with (go_at_call 10; refine (numText_any _ HN.out _ (HL.out.new (alloc_new _ _))).mono ?_; rintro e w1 ⟨rfl, hn⟩)
  go_ret
  exact ⟨rfl, (alloc_new _ _).trans hn⟩
/-- The law's two variables. -/
theorem two_vars (w : World) (n : Int) : ∀ w', New ((w.alloc (.cells #[.int .i64 n] 23)).alloc (.cells #[.int .i64 n] 25)) w' → w'.cell? ⟨w.heap.size, 0, none⟩ = some (.int .i64 n) ∧ w'.cell? ⟨w.heap.size + 1, 0, none⟩ = some (.int .i64 n) := by
  intro w' hn
  constructor
  · rw [cell_of_row w' w.heap.size 0 _ _ _ (hn.heap ((alloc_new _ _).heap (heap_alloc_new w (.cells #[.int .i64 n] 23))))]
    rfl
  · rw [cell_of_row w' (w.heap.size + 1) 0 _ _ _ (hn.heap (alloc_at (by rw [alloc_size]) (.cells #[.int .i64 n] 25)))]
    rfl
set_option maxHeartbeats 2000000 in
theorem envTexts_law (n : Int) (hn : In64 n) (w : World) (hl : Laid w) :
    Calls Tryd.prog 3 #[.int .i64 n] w fun e w' => e = .returned (.bool true) ∧ New w w' := by
  have HI := Lib.hid hn
  have HL := Lib.hid hl
  have HN := Lib.hid (((alloc_new w (.cells #[.int .i64 n] 23)).alloc (.cells #[.int .i64 n] 25)))
  have HW := Lib.hid (New.refl ((w.alloc (.cells #[.int .i64 n] 23)).alloc (.cells #[.int .i64 n] 25)))
  have HC := Lib.hid (two_vars w n)
  have hb : ((textB n).toList == (textB n).toList) = true := by simp
  clear hn hl
  by_cases h : 0 ≤ n ∧ n < 24
  · obtain ⟨k, rfl⟩ : ∃ k : Nat, n = k := ⟨n.toNat, by omega⟩
    have hk : k < 24 := by omega
    have e1 : textV (k : Int) = locB k := by rw [textV_in h]; rfl
    have h0 := h.1
    have h1 := h.2
    have hb2 : ((locB k).toList == (locB k).toList) = true := by simp
    clear h
    go_enter Tryd.func3, Tryd.ntmps3
    go_wp2_with (first
      | (go_at_call 4; refine (refLoc_from k hk _ (New.refl _)).mono ?_; rintro e w1 ⟨rfl, hn⟩; replace HW := Lib.hid (HW.out.trans hn); obtain ⟨c3, c4⟩ := HC.out _ HW.out; clear hn)
      | (go_at_call 5; refine (wasText_any _ _).mono ?_; rw [e1]; rintro e w2 ⟨rfl, hn⟩; replace HW := Lib.hid (HW.out.trans hn); obtain ⟨c3, c4⟩ := HC.out _ HW.out; clear hn)
      | (go_at_call 6; refine (isText_any _ HI.out _ (HL.out.new (HN.out.trans HW.out))).mono ?_; rintro e w3 ⟨rfl, hn⟩; replace HW := Lib.hid (HW.out.trans hn); clear hn)
      | (go_at_call 7; refine (refText_any _ HI.out _).mono ?_; rintro e w4 ⟨rfl, hn⟩; replace HW := Lib.hid (HW.out.trans hn); clear hn)
      | (go_at_call 8; refine (knows_any _).mono ?_; rintro e w5 ⟨rfl, hn⟩; replace HW := Lib.hid (HW.out.trans hn); clear hn))
    go_ret
    exact ⟨rfl, HN.out.trans HW.out⟩
  · have e1 : textV n = ⟨#[]⟩ := textV_out h
    have hcase : ¬ 0 ≤ n ∨ (0 ≤ n ∧ ¬ n < 24) := by omega
    clear h
    rcases hcase with h0 | ⟨h0, h1⟩
    all_goals
      go_enter Tryd.func3, Tryd.ntmps3
      go_wp2_with (first
        | (go_at_call 5; refine (wasText_any _ _).mono ?_; rw [e1]; rintro e w2 ⟨rfl, hn⟩; replace HW := Lib.hid (HW.out.trans hn); obtain ⟨c3, c4⟩ := HC.out _ HW.out; clear hn)
        | (go_at_call 6; refine (isText_any _ HI.out _ (HL.out.new (HN.out.trans HW.out))).mono ?_; rintro e w3 ⟨rfl, hn⟩; replace HW := Lib.hid (HW.out.trans hn); clear hn)
        | (go_at_call 7; refine (refText_any _ HI.out _).mono ?_; rintro e w4 ⟨rfl, hn⟩; replace HW := Lib.hid (HW.out.trans hn); clear hn)
        | (go_at_call 8; refine (knows_any _).mono ?_; rintro e w5 ⟨rfl, hn⟩; replace HW := Lib.hid (HW.out.trans hn); clear hn))
      go_ret
      exact ⟨rfl, HN.out.trans HW.out⟩
end Go.Proofs.YthdbehalbcoibaaDoor
