/-
  A source as the reference's: what AsSource answers.
-/
import Derived.Test.YtlmnodbhfpgplaaGreatDoorEnvSrc0
namespace Go.Proofs.YtlmnodbhfpgplaaGreatDoor
open Go.RowKit

theorem asSource_any (s : Sr) (w : World) :
    Calls Tryz.prog 87 #[sv s] w fun e w' => e = .returned (.agg #[.int .i64 (refS s).1, .int .i64 (refS s).2]) ∧ New w w' := by
  rcases s_cases s with ⟨n, rfl⟩ | ⟨n, rfl⟩ | ⟨h0, h1⟩
  · have e : refS (0, n) = (0, n) := rfl
    rw [e, sv_was]
    have k1 := ta_ww n
    unfold wasV
    go_enter Tryz.func87, Tryz.ntmps87
    go_wp2
    refine bodyPost_ret (results_cell_row rfl _ _ w.heap.size _ _ _ _ rfl ((alloc_new _ _).heap (heap_alloc_new _ _)) Tryz.underlying167 rfl (by kernel_rfl)) rfl ⟨rfl, ((New.refl _).alloc _).alloc _⟩
  · have e : refS (1, n) = (1, n) := rfl
    rw [e, sv_is]
    have k1 := ta_iw n
    have k2 := ta_ii n
    unfold isV
    go_enter Tryz.func87, Tryz.ntmps87
    go_wp2
    refine bodyPost_ret (results_cell_row rfl _ _ w.heap.size _ _ _ _ rfl ((alloc_new _ _).heap ((alloc_new _ _).heap (heap_alloc_new _ _))) Tryz.underlying167 rfl (by kernel_rfl)) rfl ⟨rfl, (((New.refl _).alloc _).alloc _).alloc _⟩
  · have e : refS s = (2, 0) := by unfold refS; rw [if_neg h0, if_neg h1]
    rw [e, sv_no h0 h1]
    have k1 := ta_nw
    have k2 := ta_ni
    go_enter Tryz.func87, Tryz.ntmps87
    go_wp2
    refine bodyPost_ret (results_cell_row rfl _ _ w.heap.size _ _ _ _ rfl ((alloc_new _ _).heap ((alloc_new _ _).heap (heap_alloc_new _ _))) Tryz.underlying167 rfl (by kernel_rfl)) rfl ⟨rfl, (((New.refl _).alloc _).alloc _).alloc _⟩
end Go.Proofs.YtlmnodbhfpgplaaGreatDoor
