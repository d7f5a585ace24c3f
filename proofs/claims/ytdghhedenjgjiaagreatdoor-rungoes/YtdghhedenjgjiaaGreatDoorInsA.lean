/-
  The contracts of ins's small functions: known, fields, fault, field, with, place: for every argument; nothing that was in memory has turned.
-/
import Derived.Test.YtdghhedenjgjiaaGreatDoorNumDo3
import Derived.Test.YtdghhedenjgjiaaGreatDoorLocPrs
import Derived.Test.YtdghhedenjgjiaaGreatDoorInsHas
namespace Go.Proofs.YtdghhedenjgjiaaGreatDoor
open Go.RowKit

theorem known_any (op : Int) (w : World) :
    Calls Tryz.prog 63 #[.int .i64 op] w fun e w' => e = .returned (.bool (knownB op)) ∧ w' = w := by
  by_cases h0 : 1 ≤ op
  · by_cases h1 : op ≤ 18
    · have e : knownB op = true := by simp [knownB, h0, h1]
      rw [e]
      go_enter Tryz.func63, Tryz.ntmps63
      go_wp2
      go_ret
      simp [*]
    · have e : knownB op = false := by simp [knownB, h1]
      rw [e]
      go_enter Tryz.func63, Tryz.ntmps63
      go_wp2
      go_ret
      simp [*]
  · have e : knownB op = false := by simp [knownB, h0]
    rw [e]
    go_enter Tryz.func63, Tryz.ntmps63
    go_wp2
    go_ret
    simp [*]

theorem place_any (c : Int) (w : World) :
    Calls Tryz.prog 76 #[.int .i32 c] w fun e w' => e = .returned (.bool (placeB c)) ∧ w' = w := by
  go_enter Tryz.func76, Tryz.ntmps76
  go_wp2
  all_goals
    go_ret
    exact ⟨by simp_all [placeB], rfl⟩

theorem field_any (o d a b n t c : Int) (w : World) :
    Calls Tryz.prog 82 #[.agg #[.int .i64 o, .int .i64 d, .int .i64 a, .int .i64 b, .int .i64 n, .int .i64 t], .int .i32 c] w fun e w' => e = .returned (.int .i64 (fieldV ⟨o, d, a, b, n, t⟩ c)) ∧ New w w' := by
  go_enter Tryz.func82, Tryz.ntmps82
  go_wp2
  all_goals
    go_ret
    exact ⟨by simp_all [fieldV], (New.refl _).alloc _⟩

theorem fault_any (c v n : Int) (w : World) :
    Calls Tryz.prog 66 #[.int .i32 c, .int .i64 v, .int .i64 n] w fun e w' => e = .returned (.int .i64 (faultV c v n)) ∧ w' = w := by
  go_enter Tryz.func66, Tryz.ntmps66
  go_wp2_with (first | (go_at_call 79; refine (right_any _ _).mono ?_; rintro e w1 ⟨rfl, rfl⟩) | (go_at_call 80; refine (reg_any _ _).mono ?_; rintro e w1 ⟨rfl, rfl⟩))
  all_goals
    go_ret
    exact ⟨by first | (simp_all [faultV, rightB, regB]; done) | (simp_all [faultV, rightB, regB]; omega), rfl⟩

theorem with_any (o d a b n t c v : Int) (w : World) :
    Calls Tryz.prog 67 #[.agg #[.int .i64 o, .int .i64 d, .int .i64 a, .int .i64 b, .int .i64 n, .int .i64 t], .int .i32 c, .int .i64 v] w fun e w' =>
      e = .returned (.agg #[.int .i64 (withV ⟨o, d, a, b, n, t⟩ c v).op, .int .i64 (withV ⟨o, d, a, b, n, t⟩ c v).d, .int .i64 (withV ⟨o, d, a, b, n, t⟩ c v).a, .int .i64 (withV ⟨o, d, a, b, n, t⟩ c v).b, .int .i64 (withV ⟨o, d, a, b, n, t⟩ c v).n, .int .i64 (withV ⟨o, d, a, b, n, t⟩ c v).t]) ∧ New w w' := by
  go_enter Tryz.func67, Tryz.ntmps67
  go_wp2
  all_goals refine bodyPost_ret (by simp [results, Tryz.results67, go_sem]; rfl) rfl ⟨?_, ((New.refl _).alloc _).alloc _⟩
  all_goals simp_all [withV]

theorem fields_no (op : Int) (h : knownB op = false) (w : World) :
    Calls Tryz.prog 64 #[.int .i64 op] w fun e w' => e = .returned (.string ⟨(fieldsL op).toArray⟩) ∧ w' = w := by
  have e : (fieldsL op) = [] := by unfold fieldsL; rw [h]; rfl
  rw [e]
  go_enter Tryz.func64, Tryz.ntmps64
  go_wp2_with (go_at_call 63; refine (known_any _ _).mono ?_; rintro e w1 ⟨rfl, rfl⟩)
  go_ret
  exact ⟨rfl, rfl⟩
theorem fields_yes (k : Nat) (h1 : 1 ≤ k) (h2 : k ≤ 18) (w : World) (hl : Laid w) :
    Calls Tryz.prog 64 #[.int .i64 k] w fun e w' => e = .returned (.string ⟨(fieldsL k).toArray⟩) ∧ w' = w := by
  have hk : knownB (k : Int) = true := by simp only [knownB, decide_eq_true_iff]; omega
  have e : fieldsL (k : Int) = fldsL k := by unfold fieldsL; rw [if_pos hk]; rfl
  rw [e]
  clear e
  have hc : w.cell? ⟨0, k * 2 + 1, none⟩ = some (.string ⟨(fldsL k).toArray⟩) := hl.cell (k * 2 + 1) (by omega)
  clear hl
  go_enter Tryz.func64, Tryz.ntmps64
  go_wp2_with (go_at_call 63; refine (known_any _ _).mono ?_; rintro e w1 ⟨rfl, rfl⟩)
  go_ret
  exact ⟨rfl, rfl⟩
theorem fields_any (op : Int) (w : World) (hl : Laid w) :
    Calls Tryz.prog 64 #[.int .i64 op] w fun e w' => e = .returned (.string ⟨(fieldsL op).toArray⟩) ∧ w' = w := by
  cases h : knownB op with
  | false => exact fields_no op h w
  | true =>
    have h' := h
    simp only [knownB, decide_eq_true_iff] at h'
    obtain ⟨k, rfl⟩ : ∃ k : Nat, op = k := ⟨op.toNat, by omega⟩
    exact fields_yes k (by omega) (by omega) w hl

end Go.Proofs.YtdghhedenjgjiaaGreatDoor
