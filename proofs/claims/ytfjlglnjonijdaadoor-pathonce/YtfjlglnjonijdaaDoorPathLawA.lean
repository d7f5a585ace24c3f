/-
  'PathOnce': from where a path leads, it leads no further: true, for every input.
-/
import Derived.Test.YtfjlglnjonijdaaDoorPathL
import Derived.Test.YtfjlglnjonijdaaDoorPathK
namespace Go.Proofs.YtfjlglnjonijdaaDoor
open Go.RowKit

set_option maxHeartbeats 16000000 in
set_option maxRecDepth 100000 in
theorem pathOnce_walk (v : Value) (f : List I) (p : Int) (w : World) (hf : FunAt w v f) (hl : Laid w) :
    Calls Tryd.prog 4 #[v, .int .i64 p] w fun e w' => e = .returned (.bool true) ∧ New w w' := by
  obtain ⟨ao, fc, rfl⟩ := hf.form
  have HL := Lib.hid hl
  have HF := Lib.hid hf
  clear hl hf
  cases d3 : decide ((300 : Int) < (f.length : Int)) with
  | true =>
    go_enter Tryd.func4, Tryd.ntmps4
    go_wp2_with (go_at_call 7; refine (knows_from _ HL.out (New.refl w)).mono ?_; rintro e wk ⟨rfl, hnk⟩)
    go_ret
    exact ⟨rfl, hnk⟩
  | false =>
    cases hi : inP f p with
    | false =>
      have HI := Lib.hid hi
      clear hi
      go_enter Tryd.func4, Tryd.ntmps4
      go_wp2_with (first
        | (go_at_call 9; refine (fair9_is (New.refl w) HF.out HI.out).mono ?_; rintro e w1 ⟨rfl, hn⟩; have N1 := Lib.hid hn; clear hn)
        | (go_at_call 7; refine (knows_from _ HL.out N1.out).mono ?_; rintro e wk ⟨rfl, hnk⟩))
      go_ret
      exact ⟨rfl, hnk⟩
    | true =>
      have HI := Lib.hid hi
      have HIN := Lib.hid (inP_iff.mp hi)
      clear hi
      obtain ⟨o, ho⟩ := wy_ex f p
      have HO := Lib.hid ho
      clear ho
      have T1 : Hid True := Lib.hid trivial
      have T2 : Hid True := Lib.hid trivial
      have T3 : Hid True := Lib.hid trivial
      have T4 : Hid True := Lib.hid trivial
      cases o with
      | none =>
        go_enter Tryd.func4, Tryd.ntmps4
        go_wp2_with (first
          | (go_at_call 9; refine (fair9_is (New.refl w) HF.out HI.out).mono ?_; rintro e w1 ⟨rfl, hn⟩; have N1 := Lib.hid hn; clear hn)
          | (clear T1; go_at_call 8; refine (path_is (q := -1) (t := newT) (k := 0) HL.out N1.out (HF.out.new N1.out) HIN.out HO.out rfl rfl rfl).mono ?_; rintro e w2 ⟨rfl, hn⟩; have N2 := Lib.hid (N1.out.trans hn); clear hn)
          | (clear T2; refine wpList_alX rfl 29 rfl _ zeroP_run _ rfl ?_; intro w3 g5 hg5 hl5 H5 hn; have A5 : Hid (HasP w3 g5 0 noT 0) := Lib.hid H5; have n5 : w.heap.size ≤ g5 := Nat.le_trans N2.out.size hg5; have N3 := Lib.hid (N2.out.trans hn); clear H5 hn)
          | (clear T3; refine wpList_stP rfl rfl (.tmp 5) (.tmp 23) rfl g5 rfl (to := -1) (t := newT) (n := 0) rfl A5.out ?_; intro w4 B5 k5; have C5 : Hid (HasP w4 g5 (-1) newT 0) := Lib.hid B5; have N4 := Lib.hid (k5.below _ n5 N3.out); have x1 := HasP.at C5.out; clear B5 k5))
        have hne := newW_any w4
        refine wp_region_new (New.refl w4) (by kernel_rfl) (by kernel_rfl) ?_
        have c1 : ∀ y : NewW w4, y.val.cell? ⟨g5, 0, none⟩ = some (.int .i64 (-1)) := fun y => y.property.cell x1
        have CT : Hid (∀ w', (∃ y : NewW w4, w' = y.val) → HasP w' g5 (-1) newT 0) := Lib.hid (by rintro w' ⟨y, rfl⟩; exact HasC.new C5.out y.property)
        have HK : Hid (Laid w4) := Lib.hid (HL.out.new N4.out)
        obtain ⟨e1, e2⟩ := eq_T good_new good_new (fun i _ => rfl)
        clear x1 C5
        repeat (first
          | (refine wpQuiet_ldPt rfl (.tmp 40) rfl g5 rfl CT.out ?_; simp only [Act.put, List.setIfInBounds_toArray, List.set_cons_zero, List.set_cons_succ])
          | go_big_quiet_step (first | (go_at_call 13; exact quiet_new (envNew_from _ (Subtype.property _))) | (go_at_call 7; exact quiet_new (knows_from _ HK.out (Subtype.property _)))))
        refine wpQuiet_nil ?_
        intro w5 hn5
        go_wp2
        go_ret
        exact ⟨rfl, N4.out.trans hn5⟩
      | some k =>
        obtain ⟨q, HQE⟩ : ∃ q, Hid (itA f p k = q) := ⟨_, Lib.hid rfl⟩
        have HE : Hid (Wy f q (some 0)) := Lib.hid (by rw [← HQE.out]; exact leads_end HO.out)
        have HQ : Hid (InF f q) := Lib.hid (by rw [← HQE.out]; exact it_in HIN.out HO.out.1)
        have d0 : decide (q < 0) = false := decide_eq_false (by have := HQ.out.2.1; omega)
        have T5 : Hid True := Lib.hid trivial
        have T6 : Hid True := Lib.hid trivial
        have d1 : (q == q) = true := by simp
        go_enter Tryd.func4, Tryd.ntmps4
        go_wp2_with (first
          | (go_at_call 9; refine (fair9_is (New.refl w) HF.out HI.out).mono ?_; rintro e w1 ⟨rfl, hn⟩; have N1 := Lib.hid hn; clear hn)
          | (clear T1; go_at_call 8; refine (path_is (q := q) (t := tbA f p k) (k := (k : Int)) HL.out N1.out (HF.out.new N1.out) HIN.out HO.out HQE.out rfl rfl).mono ?_; rintro e w2 ⟨rfl, hn⟩; have N2 := Lib.hid (N1.out.trans hn); clear hn)
          | (clear T2; refine wpList_alX rfl 29 rfl _ zeroP_run _ rfl ?_; intro w3 g5 hg5 hl5 H5 hn; have A5 : Hid (HasP w3 g5 0 noT 0) := Lib.hid H5; have n5 : w.heap.size ≤ g5 := Nat.le_trans N2.out.size hg5; have N3 := Lib.hid (N2.out.trans hn); clear H5 hn)
          | (clear T3; refine wpList_stP rfl rfl (.tmp 5) (.tmp 23) rfl g5 rfl (to := q) (t := tbA f p k) (n := (k : Int)) rfl A5.out ?_; intro w4 B5 k5; have C5 : Hid (HasP w4 g5 q (tbA f p k) (k : Int)) := Lib.hid B5; have N4 := Lib.hid (k5.below _ n5 N3.out); have x1 := HasP.at C5.out; clear B5 k5)
          | (clear T4; go_at_call 8; refine (path_is (q := q) (t := newT) (k := 0) HL.out N4.out (HF.out.new N4.out) HQ.out HE.out rfl rfl rfl).mono ?_; rintro e w5 ⟨rfl, hn⟩; have N5 := Lib.hid (N4.out.trans hn); have D5 : Hid (HasP w5 g5 q (tbA f p k) (k : Int)) := Lib.hid (HasC.new C5.out hn); clear hn x1)
          | (clear T5; refine wpList_alX rfl 29 rfl _ zeroP_run _ rfl ?_; intro w6 g7 hg7 hl7 H7 hn; have A7 : Hid (HasP w6 g7 0 noT 0) := Lib.hid H7; have n7 : w.heap.size ≤ g7 := Nat.le_trans N5.out.size hg7; have N6 := Lib.hid (N5.out.trans hn); have E5 : Hid (HasP w6 g5 q (tbA f p k) (k : Int)) := Lib.hid (HasC.new D5.out hn); have d57 : g5 ≠ g7 := Nat.ne_of_lt (Nat.lt_of_lt_of_le (HasC.lt D5.out) hg7); clear H7 hn)
          | (clear T6; refine wpList_stP rfl rfl (.tmp 7) (.tmp 53) rfl g7 rfl (to := q) (t := newT) (n := 0) rfl A7.out ?_; intro w7 B7 k7; have C7 : Hid (HasP w7 g7 q newT 0) := Lib.hid B7; have G5 : Hid (HasP w7 g5 q (tbA f p k) (k : Int)) := Lib.hid (HasC.kept E5.out k7 d57); have N7 := Lib.hid (k7.below _ n7 N6.out); clear B7 k7))
        have hne := newW_any w7
        refine wp_region_new (New.refl w7) (by kernel_rfl) (by kernel_rfl) ?_
        have c1 : ∀ y : NewW w7, y.val.cell? ⟨g7, 0, none⟩ = some (.int .i64 q) := fun y => y.property.cell (HasP.at C7.out)
        have c2 : ∀ y : NewW w7, y.val.cell? ⟨g5, 0, none⟩ = some (.int .i64 q) := fun y => y.property.cell (HasP.at G5.out)
        have c3 : ∀ y : NewW w7, y.val.cell? ⟨g7, 25, none⟩ = some (.int .i64 0) := fun y => y.property.cell (HasP.st C7.out)
        have CT : Hid (∀ w', (∃ y : NewW w7, w' = y.val) → HasP w' g7 q newT 0) := Lib.hid (by rintro w' ⟨y, rfl⟩; exact HasC.new C7.out y.property)
        have HK : Hid (Laid w7) := Lib.hid (HL.out.new N7.out)
        obtain ⟨e1, e2⟩ := eq_T good_new good_new (fun i _ => rfl)
        clear C5 C7 G5
        repeat (first
          | (refine wpQuiet_ldPt rfl (.tmp 70) rfl g7 rfl CT.out ?_; simp only [Act.put, List.setIfInBounds_toArray, List.set_cons_zero, List.set_cons_succ])
          | go_big_quiet_step (first | (go_at_call 13; exact quiet_new (envNew_from _ (Subtype.property _))) | (go_at_call 7; exact quiet_new (knows_from _ HK.out (Subtype.property _)))))
        refine wpQuiet_nil ?_
        intro w8 hn8
        go_wp2
        go_ret
        exact ⟨rfl, N7.out.trans hn8⟩
theorem pathOnce_law (v : Value) (f : List I) (p : Int) (w : World) (hf : FunAt w v f) (_hi : ∀ x ∈ f, In64I x) (_hn : f.length ≤ maxLen) (_hp : In64 p) (hl : Laid w) :
    Calls Tryd.prog 4 #[v, .int .i64 p] w fun e w' => e = .returned (.bool true) ∧ New w w' := pathOnce_walk v f p w hf hl
end Go.Proofs.YtfjlglnjonijdaaDoor
