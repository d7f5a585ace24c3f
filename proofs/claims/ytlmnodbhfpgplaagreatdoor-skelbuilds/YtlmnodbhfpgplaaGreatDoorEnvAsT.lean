/-
  What turns a table into the reference's row (As).
-/
import Derived.Test.YtlmnodbhfpgplaaGreatDoorEnvSrc
import Derived.Test.YtlmnodbhfpgplaaGreatDoorEnvRef0
namespace Go.Proofs.YtlmnodbhfpgplaaGreatDoor
open Go.RowKit

set_option maxHeartbeats 2000000 in
set_option maxRecDepth 100000 in
theorem asT_own (t : Tb) (w : World) :
    Calls Tryz.prog 65 #[.agg (cellsT t)] w fun e w' => ∃ v, e = .returned v ∧ OwnG w' (w.heap.size + 1) 167 v 24 (fun i => rcells (t i)) ∧ New w w' := by
  go_enter Tryz.func65, Tryz.ntmps65
  go_wp2
  go_loopw [3, 4] (fun v iv wr => ∃ k : Nat, iv = .int .i64 k ∧ k ≤ 24 ∧ Hid (HasT wr w.heap.size t) ∧ Hid (OwnG wr (w.heap.size + 1) 167 v k (fun i => rcells (t i))) ∧ Hid (New w wr)) (fun _ iv _ => 24 - (intOf iv).toNat)
  case atStart => exact ⟨0, rfl, by omega, Lib.hid (HasT.box w t), Lib.hid (OwnG.nil _ _ _ _), Lib.hid (alloc_new _ _)⟩
  case round =>
    obtain ⟨k, rfl, hk, R1, R2, R3⟩ := hrel
    by_cases hk24 : k < 24
    · go_wp2_with (first
        | (refine wpList_ldSr rfl (.tmp 11) rfl w.heap.size k hk24 rfl R1.out ?_)
        | (go_at_call 87; refine (asSource_any (t k) _).mono ?_; rintro e w1 ⟨rfl, hn⟩; replace R1 := Lib.hid (R1.out.new hn); replace R2 := Lib.hid (own_newE R2.out hn); replace R3 := Lib.hid (R3.out.trans hn); have hlt := heap_lt R1.out; clear hn)
        | (at_builtin; refine wpList_app2 rfl (.tmp 9) (.tmp 14) 65 167 rfl Tryz.underlying65 infoR2 rfl (by decide) (w.heap.size + 1) k (by omega) (by omega) _ _ rfl _ _ rfl rfl rfl rfl R2.out ?_; intro v' w2 ho hnn hbb))
      go_roundw
      case rel => exact ⟨k + 1, by go_num, hk24, Lib.hid (hbb _ _ (by omega) R1.out), Lib.hid ho, Lib.hid (hnn w (by omega) R3.out)⟩
      case measure => simp [intOf]; omega
    · obtain rfl : k = 24 := by omega
      go_wp2
      go_ret
      exact ⟨_, rfl, R2.out, R3.out⟩
theorem asT_any (t : Tb) (w : World) :
    Calls Tryz.prog 65 #[.agg (cellsT t)] w fun e w' => ∃ v, e = .returned v ∧ ElAt w' v 24 (fun i => rcells (t i)) ∧ New w w' :=
  (asT_own t w).mono fun _ _ ⟨v, h1, h2, h3⟩ => ⟨v, h1, h2.el (fun _ => rfl), h3⟩
end Go.Proofs.YtlmnodbhfpgplaaGreatDoor
