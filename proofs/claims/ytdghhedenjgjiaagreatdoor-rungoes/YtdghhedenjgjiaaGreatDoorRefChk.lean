/-
  The reference's word on which instructions are right, as a plain function; it is the same. No program stands in this text.
-/
import Derived.Test.YtdghhedenjgjiaaGreatDoorInsRead
namespace Go.Proofs.YtdghhedenjgjiaaGreatDoor
open Go.RowKit

/-- The fields of the shape alone. -/
def onlyV (x : I) : I := putAll (valsOf (letters x.op) x) (zeroI x.op)
theorem only_same {x : I} (h : knownB x.op = true) : spareB x = false ↔ onlyV x = x := by
  constructor
  · intro hs; exact put_vals h hs
  · intro he
    have := (put_shape h (vals_map (letters x.op) x)).2
    rw [show putAll (valsOf (letters x.op) x) (zeroI x.op) = x from he] at this
    exact this
/-- What the reference tells of an instruction whose other fields are 0. -/
def refV (x : I) (m : Int) : Int :=
  if x.op = 15 ∧ (x.n < 0 ∨ 99 < x.n) then 1
  else if x.op ≤ 3 then (if (0 ≤ x.d ∧ x.d < 24) ∧ (0 ≤ x.a ∧ x.a < 24) then 0 else 6)
  else if ((0 ≤ x.d ∧ x.d < 8) ∧ (0 ≤ x.a ∧ x.a < 8)) ∧ (0 ≤ x.b ∧ x.b < 8) then (if (x.op = 16 ∨ x.op = 17) ∧ (x.t < 0 ∨ m ≤ x.t) then 4 else 0)
  else 6
theorem f24 {c v m : Int} (h : c = 100 ∨ c = 97) : (faultV c v m = 1 ↔ False) ∧ (faultV c v m = 6 ↔ ¬ (0 ≤ v ∧ v < 24)) ∧ (faultV c v m = 4 ↔ False) := by
  unfold faultV
  rw [if_pos h]
  split <;> simp_all
theorem f8 {c v m : Int} (h : c = 68 ∨ c = 65 ∨ c = 66) : (faultV c v m = 1 ↔ False) ∧ (faultV c v m = 6 ↔ ¬ (0 ≤ v ∧ v < 8)) ∧ (faultV c v m = 4 ↔ False) := by
  unfold faultV
  rw [if_neg (by omega), if_pos h]
  split <;> simp_all
theorem fN {v m : Int} : (faultV 78 v m = 1 ↔ (v < 0 ∨ 99 < v)) ∧ (faultV 78 v m = 6 ↔ False) ∧ (faultV 78 v m = 4 ↔ False) := by
  unfold faultV
  rw [if_neg (by decide), if_neg (by decide), if_pos rfl]
  split <;> simp_all
theorem fT {v m : Int} : (faultV 84 v m = 1 ↔ False) ∧ (faultV 84 v m = 6 ↔ False) ∧ (faultV 84 v m = 4 ↔ (v < 0 ∨ m ≤ v)) := by
  unfold faultV
  rw [if_neg (by decide), if_neg (by decide), if_neg (by decide), if_pos rfl]
  split <;> simp_all
theorem fn {v m : Int} : (faultV 110 v m = 1 ↔ False) ∧ (faultV 110 v m = 6 ↔ False) ∧ (faultV 110 v m = 4 ↔ False) := by
  unfold faultV
  rw [if_neg (by decide), if_neg (by decide), if_neg (by decide), if_neg (by decide)]
  simp
theorem hit_iff {L : List Int} {x : I} {m e : Int} : hitB L x m e = true ↔ ∃ c ∈ L, faultV c (fieldV x c) m = e := by
  unfold hitB
  rw [List.any_eq_true]
  simp
theorem regs_letters : ∀ k < 13, 4 ≤ k → letters (k : Nat) = [68, 65, 66] := by decide +kernel
theorem eq_six {x y : I} : x = y ↔ x.op = y.op ∧ x.d = y.d ∧ x.a = y.a ∧ x.b = y.b ∧ x.n = y.n ∧ x.t = y.t := by
  rw [← same_iff]
  unfold sameB
  rw [decide_eq_true_iff]
/-- The three sorts of faults, by the operation. -/
theorem hits {x : I} {m : Int} (h : knownB x.op = true) (hs : onlyV x = x) :
    (hitB (letters x.op) x m 1 = true ↔ (x.op = 15 ∧ (x.n < 0 ∨ 99 < x.n))) ∧
    (hitB (letters x.op) x m 6 = true ↔ ((x.op ≤ 3 ∧ ¬ ((0 ≤ x.d ∧ x.d < 24) ∧ (0 ≤ x.a ∧ x.a < 24))) ∨ (3 < x.op ∧ ¬ (((0 ≤ x.d ∧ x.d < 8) ∧ (0 ≤ x.a ∧ x.a < 8)) ∧ (0 ≤ x.b ∧ x.b < 8))))) ∧
    (hitB (letters x.op) x m 4 = true ↔ ((x.op = 16 ∨ x.op = 17) ∧ (x.t < 0 ∨ m ≤ x.t))) := by
  have hk := known_iff.mp h
  obtain ⟨o, d, a, b, n, t⟩ := x
  simp only at hk h hs ⊢
  rw [hit_iff, hit_iff, hit_iff]
  have hs := eq_six.mp hs
  have g100 := fun v => f24 (c := 100) (v := v) (m := m) (by omega)
  have g97 := fun v => f24 (c := 97) (v := v) (m := m) (by omega)
  have g68 := fun v => f8 (c := 68) (v := v) (m := m) (by omega)
  have g65 := fun v => f8 (c := 65) (v := v) (m := m) (by omega)
  have g66 := fun v => f8 (c := 66) (v := v) (m := m) (by omega)
  have gN := fun v => fN (v := v) (m := m)
  have gT := fun v => fT (v := v) (m := m)
  have gn := fun v => fn (v := v) (m := m)
  have hcase : o = 1 ∨ (o = 2 ∨ o = 3) ∨ (4 ≤ o ∧ o ≤ 12) ∨ o = 13 ∨ o = 14 ∨ o = 15 ∨ o = 16 ∨ o = 17 ∨ o = 18 := by omega
  have hL : (o = 1 ∧ letters o = [100, 110]) ∨ ((o = 2 ∨ o = 3) ∧ letters o = [100, 97]) ∨ ((4 ≤ o ∧ o ≤ 12) ∧ letters o = [68, 65, 66]) ∨ (o = 13 ∧ letters o = [68, 65]) ∨ (o = 14 ∧ letters o = [65, 66]) ∨ (o = 15 ∧ letters o = [68, 65, 78]) ∨ (o = 16 ∧ letters o = [84]) ∨ (o = 17 ∧ letters o = [65, 84]) ∨ (o = 18 ∧ letters o = [65]) := by
    rcases hcase with rfl | (rfl | rfl) | ho | rfl | rfl | rfl | rfl | rfl | rfl
    · exact .inl ⟨rfl, by decide +kernel⟩
    · exact .inr (.inl ⟨.inl rfl, by decide +kernel⟩)
    · exact .inr (.inl ⟨.inr rfl, by decide +kernel⟩)
    · refine .inr (.inr (.inl ⟨ho, ?_⟩))
      have := regs_letters o.toNat (by omega) (by omega)
      rw [show ((o.toNat : Nat) : Int) = o from by omega] at this
      exact this
    · exact .inr (.inr (.inr (.inl ⟨rfl, by decide +kernel⟩)))
    · exact .inr (.inr (.inr (.inr (.inl ⟨rfl, by decide +kernel⟩))))
    · exact .inr (.inr (.inr (.inr (.inr (.inl ⟨rfl, by decide +kernel⟩)))))
    · exact .inr (.inr (.inr (.inr (.inr (.inr (.inl ⟨rfl, by decide +kernel⟩))))))
    · exact .inr (.inr (.inr (.inr (.inr (.inr (.inr (.inl ⟨rfl, by decide +kernel⟩)))))))
    · exact .inr (.inr (.inr (.inr (.inr (.inr (.inr (.inr ⟨rfl, by decide +kernel⟩)))))))
  clear hcase
  rcases hL with ⟨ho, e⟩ | ⟨ho, e⟩ | ⟨ho, e⟩ | ⟨ho, e⟩ | ⟨ho, e⟩ | ⟨ho, e⟩ | ⟨ho, e⟩ | ⟨ho, e⟩ | ⟨ho, e⟩
  all_goals
    simp only [onlyV, e, valsOf, putAll, List.map_cons, List.map_nil, List.foldl_cons, List.foldl_nil, zeroI] at hs
    simp [withV, fieldV] at hs
    rw [e]
    simp only [List.mem_cons, List.not_mem_nil, or_false, exists_eq_or_imp, exists_eq_left, g100, g97, g68, g65, g66, gN, gT, gn]
    simp only [fieldV]
    simp
    refine ⟨?_, ?_, ?_⟩ <;> omega
/-- They say the same. -/
theorem chk_refV {x : I} {m : Int} (h : knownB x.op = true) (hs : onlyV x = x) : chkV x m = refV x m := by
  obtain ⟨h1, h6, h4⟩ := hits (m := m) h hs
  unfold chkV
  rw [if_neg (by rw [h]; decide), if_neg (by rw [(only_same h).mpr hs]; decide)]
  simp only [h1, h6, h4]
  unfold refV
  repeat' split
  all_goals omega
theorem chk_spare {x : I} {m : Int} (h : knownB x.op = true) (hs : ¬ onlyV x = x) : chkV x m = 1 := by
  unfold chkV
  rw [if_neg (by rw [h]; decide), if_pos]
  cases e : spareB x with
  | true => rfl
  | false => exact absurd ((only_same h).mp e) hs
theorem chk_unknown {x : I} {m : Int} (h : knownB x.op = false) : chkV x m = 1 := by unfold chkV; rw [if_pos h]
end Go.Proofs.YtdghhedenjgjiaaGreatDoor
