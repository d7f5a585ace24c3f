/-
  The reference's Print (joineryref03), of every instruction that is right in a function of 200: its text.
-/
import Derived.Test.YtoeplfhigpdopaaDoorRefPrt
import Derived.Test.YtoeplfhigpdopaaDoorInsD
namespace Go.Proofs.YtoeplfhigpdopaaDoor
open Go.RowKit

theorem fault_place {c v m : Int} (hc : placeB c = true) (h : faultV c v m = 0) : 0 ≤ v ∧ v < 24 := by
  unfold placeB at hc
  rw [decide_eq_true_iff] at hc
  unfold faultV at h
  by_cases h1 : c = 100 ∨ c = 97
  · rw [if_pos h1] at h
    split at h
    · assumption
    · omega
  · rw [if_neg h1, if_pos (by omega)] at h
    split at h
    · omega
    · omega
/-- All places of what is right are places. -/
theorem right_places {x : I} (h : chkV x 200 = 0) : (0 ≤ x.d ∧ x.d < 24) ∧ (0 ≤ x.a ∧ x.a < 24) ∧ (0 ≤ x.b ∧ x.b < 24) := by
  obtain ⟨h1, h2, h3⟩ := chk_zero h
  have hs := eq_six.mp ((only_same h1).mp h2)
  have p : ∀ c, placeB c = true → c ∈ letters x.op → 0 ≤ fieldV x c ∧ fieldV x c < 24 := fun c hc hm => fault_place hc (h3 c hm)
  have p100 := p 100 (by decide)
  have p97 := p 97 (by decide)
  have p68 := p 68 (by decide)
  have p65 := p 65 (by decide)
  have p66 := p 66 (by decide)
  rcases letters_of h1 with e | e | e | e | e | e | e | e | e
  all_goals
    rw [e] at p100 p97 p68 p65 p66
    simp only [onlyV, e, valsOf, putAll, List.map_cons, List.map_nil, List.foldl_cons, List.foldl_nil, zeroI] at hs
    simp [withV, fieldV] at hs p100 p97 p68 p65 p66
    omega
theorem refPrint_any (o d a b n t : Int) (hx : In64I ⟨o, d, a, b, n, t⟩) (h : chkV ⟨o, d, a, b, n, t⟩ 200 = 0) (w : World) :
    Calls Tryd.prog 27 #[.agg #[.int .i64 o, .int .i64 d, .int .i64 a, .int .i64 b, .int .i64 n, .int .i64 t]] w fun e w' => e = .returned (.string (prtB ⟨o, d, a, b, n, t⟩)) ∧ New w w' := by
  obtain ⟨p1, p2, p3⟩ := right_places h
  have hk := known_iff.mp (chk_zero h).1
  obtain ⟨_, _, _, _, hn, ht⟩ := hx
  simp only at p1 p2 p3 hk hn ht
  obtain ⟨dk, rfl⟩ : ∃ k : Nat, d = k := ⟨d.toNat, by omega⟩
  obtain ⟨ak, rfl⟩ : ∃ k : Nat, a = k := ⟨a.toNat, by omega⟩
  obtain ⟨bk, rfl⟩ : ∃ k : Nat, b = k := ⟨b.toNat, by omega⟩
  have ho : o = 1 ∨ o = 2 ∨ o = 3 ∨ o = 4 ∨ o = 5 ∨ o = 6 ∨ o = 7 ∨ o = 8 ∨ o = 9 ∨ o = 10 ∨ o = 11 ∨ o = 12 ∨ o = 13 ∨ o = 14 ∨ o = 15 ∨ o = 16 ∨ o = 17 ∨ o = 18 := by omega
  clear h hk
  rcases ho with rfl | rfl | rfl | rfl | rfl | rfl | rfl | rfl | rfl | rfl | rfl | rfl | rfl | rfl | rfl | rfl | rfl | rfl
  · exact refPrint_1 dk ak bk n t (by omega) (by omega) (by omega) hn ht w
  · exact refPrint_2 dk ak bk n t (by omega) (by omega) (by omega) hn ht w
  · exact refPrint_3 dk ak bk n t (by omega) (by omega) (by omega) hn ht w
  · exact refPrint_4 dk ak bk n t (by omega) (by omega) (by omega) hn ht w
  · exact refPrint_5 dk ak bk n t (by omega) (by omega) (by omega) hn ht w
  · exact refPrint_6 dk ak bk n t (by omega) (by omega) (by omega) hn ht w
  · exact refPrint_7 dk ak bk n t (by omega) (by omega) (by omega) hn ht w
  · exact refPrint_8 dk ak bk n t (by omega) (by omega) (by omega) hn ht w
  · exact refPrint_9 dk ak bk n t (by omega) (by omega) (by omega) hn ht w
  · exact refPrint_10 dk ak bk n t (by omega) (by omega) (by omega) hn ht w
  · exact refPrint_11 dk ak bk n t (by omega) (by omega) (by omega) hn ht w
  · exact refPrint_12 dk ak bk n t (by omega) (by omega) (by omega) hn ht w
  · exact refPrint_13 dk ak bk n t (by omega) (by omega) (by omega) hn ht w
  · exact refPrint_14 dk ak bk n t (by omega) (by omega) (by omega) hn ht w
  · exact refPrint_15 dk ak bk n t (by omega) (by omega) (by omega) hn ht w
  · exact refPrint_16 dk ak bk n t (by omega) (by omega) (by omega) hn ht w
  · exact refPrint_17 dk ak bk n t (by omega) (by omega) (by omega) hn ht w
  · exact refPrint_18 dk ak bk n t (by omega) (by omega) (by omega) hn ht w
theorem refPrint_from {w0 : World} (o d a b n t : Int) (hx : Hid (In64I ⟨o, d, a, b, n, t⟩)) (h : Hid (chkV ⟨o, d, a, b, n, t⟩ 200 = 0)) (w : World) (hn : New w0 w) :
    Calls Tryd.prog 27 #[.agg #[.int .i64 o, .int .i64 d, .int .i64 a, .int .i64 b, .int .i64 n, .int .i64 t]] w fun e w' => e = .returned (.string (prtB ⟨o, d, a, b, n, t⟩)) ∧ New w0 w' :=
  (refPrint_any o d a b n t hx.out h.out w).mono fun _ _ ⟨he, hw⟩ => ⟨he, hn.trans hw⟩
end Go.Proofs.YtoeplfhigpdopaaDoor
