/-
  The reference's place, reg and only (joineryref03).
-/
import Derived.Test.YtdghhedenjgjiaaGreatDoorRefChk
import Derived.Test.YtdghhedenjgjiaaGreatDoorInsA
namespace Go.Proofs.YtdghhedenjgjiaaGreatDoor
open Go.RowKit

theorem rplace_any (l : Int) (w : World) :
    Calls Tryz.prog 73 #[.int .i64 l] w fun e w' => e = .returned (.bool (rightB l)) ∧ w' = w := by
  go_enter Tryz.func73, Tryz.ntmps73
  go_wp2
  all_goals
    go_ret
    refine ⟨?_, rfl⟩
    first | (simp_all [rightB]; done) | (simp_all [rightB]; omega)
theorem rreg_any (l : Int) (w : World) :
    Calls Tryz.prog 74 #[.int .i64 l] w fun e w' => e = .returned (.bool (regB l)) ∧ w' = w := by
  go_enter Tryz.func74, Tryz.ntmps74
  go_wp2
  all_goals
    go_ret
    refine ⟨?_, rfl⟩
    first | (simp_all [regB]; done) | (simp_all [regB]; omega)

set_option maxHeartbeats 4000000 in
set_option maxRecDepth 100000 in
theorem only_lit (o d a b n t : Int) (ho : o = 1 ∨ o = 2 ∨ o = 3 ∨ o = 4 ∨ o = 5 ∨ o = 6 ∨ o = 7 ∨ o = 8 ∨ o = 9 ∨ o = 10 ∨ o = 11 ∨ o = 12 ∨ o = 13 ∨ o = 14 ∨ o = 15 ∨ o = 16 ∨ o = 17 ∨ o = 18) (w : World) :
    Calls Tryz.prog 72 #[.agg #[.int .i64 o, .int .i64 d, .int .i64 a, .int .i64 b, .int .i64 n, .int .i64 t]] w fun e w' => e = .returned (.agg #[.int .i64 (onlyV ⟨o, d, a, b, n, t⟩).op, .int .i64 (onlyV ⟨o, d, a, b, n, t⟩).d, .int .i64 (onlyV ⟨o, d, a, b, n, t⟩).a, .int .i64 (onlyV ⟨o, d, a, b, n, t⟩).b, .int .i64 (onlyV ⟨o, d, a, b, n, t⟩).n, .int .i64 (onlyV ⟨o, d, a, b, n, t⟩).t]) ∧ New w w' := by
  rcases ho with rfl | rfl | rfl | rfl | rfl | rfl | rfl | rfl | rfl | rfl | rfl | rfl | rfl | rfl | rfl | rfl | rfl | rfl
  all_goals
    go_enter Tryz.func72, Tryz.ntmps72
    go_wp2
    refine bodyPost_ret (by simp [results, Tryz.results72, go_sem]; rfl) rfl ⟨?_, ((alloc_new _ _).alloc _).alloc _⟩
    kernel_rfl
theorem only_from {w0 : World} (o d a b n t : Int) (h : knownB o = true) (w : World) (hn : New w0 w) :
    Calls Tryz.prog 72 #[.agg #[.int .i64 o, .int .i64 d, .int .i64 a, .int .i64 b, .int .i64 n, .int .i64 t]] w fun e w' => e = .returned (.agg #[.int .i64 (onlyV ⟨o, d, a, b, n, t⟩).op, .int .i64 (onlyV ⟨o, d, a, b, n, t⟩).d, .int .i64 (onlyV ⟨o, d, a, b, n, t⟩).a, .int .i64 (onlyV ⟨o, d, a, b, n, t⟩).b, .int .i64 (onlyV ⟨o, d, a, b, n, t⟩).n, .int .i64 (onlyV ⟨o, d, a, b, n, t⟩).t]) ∧ New w0 w' := by
  have hk := known_iff.mp h
  exact (only_lit o d a b n t (by omega) w).mono fun _ _ ⟨he, hw⟩ => ⟨he, hn.trans hw⟩
end Go.Proofs.YtdghhedenjgjiaaGreatDoor
