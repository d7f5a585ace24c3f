/-
  The contract of env.Fill: for every table and all words.
-/
import Derived.Test.YtfjlglnjonijdaaGreatDoorEnvD0
import Derived.Test.YtfjlglnjonijdaaGreatDoorEnvAW
namespace Go.Proofs.YtfjlglnjonijdaaGreatDoor
open Go.RowKit

/-- The zero words, as they are made. -/
theorem zeroW : cellsW noW = #[.bool false, .int .i64 0, .bool false, .int .i64 0, .bool false, .int .i64 0, .bool false, .int .i64 0, .bool false, .int .i64 0, .bool false, .int .i64 0, .bool false, .int .i64 0, .bool false, .int .i64 0, .bool false, .int .i64 0, .bool false, .int .i64 0, .bool false, .int .i64 0, .bool false, .int .i64 0, .bool false, .int .i64 0, .bool false, .int .i64 0, .bool false, .int .i64 0, .bool false, .int .i64 0, .bool false, .int .i64 0, .bool false, .int .i64 0, .bool false, .int .i64 0, .bool false, .int .i64 0, .bool false, .int .i64 0, .bool false, .int .i64 0, .bool false, .int .i64 0, .bool false, .int .i64 0] := by kernel_rfl
theorem resW (fn : Func) {p : Tmp} (h : fn.results = #[.cell p 25]) (tmps : Array Value) (w : World) (g : Nat) (t : Ws) (hp : tmps.getD p undef = .pointer (some ⟨g, 0, none⟩)) (hg : HasW w g t) :
    (results fn tmps).run Tryz.prog w = .ok (.agg (cellsW t)) w :=
  results_cell_row h tmps w g _ _ _ _ hp hg Tryz.underlying25 rfl (by rw [cellsW_size]; exact infoW)
def filK (t : Tb) (l : Ws) (k : Nat) : Ws := fun i => if i < k then fil t l i else noW i
theorem filK_step {t : Tb} {l : Ws} {k : Nat} {x : Wd} (h : fil t l k = x) : updW (filK t l k) k x = filK t l (k + 1) := by
  funext i
  unfold updW filK
  by_cases e : i = k
  · subst e
    rw [if_pos rfl, if_pos (by omega), h]
  · rw [if_neg e]
    by_cases h2 : i < k
    · rw [if_pos h2, if_pos (by omega)]
    · rw [if_neg h2, if_neg (by omega)]
theorem filK_zero (t : Tb) (l : Ws) : filK t l 0 = noW := by funext i; simp [filK]
theorem filK_all (t : Tb) (l : Ws) : cellsW (filK t l 24) = cellsW (fil t l) := cellsW_ext fun i hi => by unfold filK; rw [if_pos hi]
set_option maxHeartbeats 2000000 in
set_option maxRecDepth 100000 in
theorem fill_any (t : Tb) (l : Ws) (w : World) :
    Calls Tryz.prog 10 #[.agg (cellsT t), .agg (cellsW l)] w fun e w' => e = .returned (.agg (cellsW (fil t l))) ∧ New w w' := by
  have b1 : HasT ((((w.alloc (.cells (cellsT t) 38)).alloc (.cells (cellsW l) 25)).alloc (.cells (cellsW noW) 25)).alloc (.cells (cellsW noW) 25)) w.heap.size t := (((HasT.box w t).new (alloc_new _ _)).new (alloc_new _ _)).new (alloc_new _ _)
  have b2 : HasW ((((w.alloc (.cells (cellsT t) 38)).alloc (.cells (cellsW l) 25)).alloc (.cells (cellsW noW) 25)).alloc (.cells (cellsW noW) 25)) (w.heap.size + 1) l := HasW.new (HasW.new (alloc_at (by rw [alloc_size]) _) (alloc_new _ _)) (alloc_new _ _)
  have b3 : HasW ((((w.alloc (.cells (cellsT t) 38)).alloc (.cells (cellsW l) 25)).alloc (.cells (cellsW noW) 25)).alloc (.cells (cellsW noW) 25)) (w.heap.size + 2) noW := HasW.new (alloc_at (by rw [alloc_size, alloc_size]) _) (alloc_new _ _)
  have b4 : HasW ((((w.alloc (.cells (cellsT t) 38)).alloc (.cells (cellsW l) 25)).alloc (.cells (cellsW noW) 25)).alloc (.cells (cellsW noW) 25)) (w.heap.size + 3) noW := alloc_at (by rw [alloc_size, alloc_size, alloc_size]) _
  have hn : New w ((((w.alloc (.cells (cellsT t) 38)).alloc (.cells (cellsW l) 25)).alloc (.cells (cellsW noW) 25)).alloc (.cells (cellsW noW) 25)) := (((alloc_new _ _).alloc _).alloc _).alloc _
  have B1 := Lib.hid b1
  have B2 := Lib.hid b2
  have B3 := Lib.hid b3
  have B4 := Lib.hid b4
  have HN := Lib.hid hn
  clear b1 b2 b3 b4 hn
  rw [zeroW] at B1 B2 B3 B4 HN
  have HX : Hid (∀ k : Nat, k < 24 → ∀ w : World, (Instr.index 38 (.agg (cellsT (orN t))) (.int .i64 (k : Int))).run Tryz.prog w = .ok (sv (orN t k)) w) := Lib.hid (fun k hk w => run_ixT (orN t) k hk w)
  go_enter Tryz.func10, Tryz.ntmps10
  go_wp2_with (first
    | (refine wpList_ldT rfl (.tmp 2) rfl w.heap.size rfl B1.out ?_)
    | (go_at_call 26; refine (orNew_any t _).mono ?_; rintro e w1 ⟨rfl, hn1⟩; replace B2 := Lib.hid (B2.out.new hn1); replace B3 := Lib.hid (B3.out.new hn1); replace B4 := Lib.hid (B4.out.new hn1); replace HN := Lib.hid (HN.out.trans hn1); clear hn1 B1))
  go_loopw [12] (fun kv wr => ∃ k : Nat, kv = .int .i64 k ∧ k ≤ 24 ∧ Hid (HasW wr (w.heap.size + 1) l) ∧ Hid (HasW wr (w.heap.size + 2) noW) ∧ Hid (HasW wr (w.heap.size + 3) (filK t l k)) ∧ Hid (New w wr)) (fun kv wr => 24 - (intOf kv).toNat)
  case atStart => exact ⟨0, rfl, by omega, B2, B3, Lib.hid (by rw [filK_zero]; exact B4.out), HN⟩
  case round =>
    obtain ⟨k, rfl, hk, R1, R2, R3, R4⟩ := hrel
    clear B2 B3 B4 HN
    by_cases hk24 : k < 24
    · have hx := HX.out k hk24
      rcases s_cases (orN t k) with ⟨n, hs⟩ | ⟨n, hs⟩ | ⟨h0, h1⟩
      · have hok := good_at (good_orN t) hk24
        rw [hs] at hok
        have hr : rightB n = true := by simpa [okS, rightB] using hok
        obtain ⟨m, rfl, hm⟩ := int_of_right' hr
        have HM : Hid (updW (filK t l k) k (l m) = filK t l (k + 1)) := Lib.hid (filK_step (by unfold fil; rw [hs]; rfl))
        rw [hs, sv_was] at hx
        unfold wasV at hx
        have k1 := ta_ww (m : Int)
        clear hs hok hr
        have hlt := heap_lt R3.out
        go_wp2_with (first
          | (refine wpList_ldD rfl (.tmp 23) rfl (w.heap.size + 1) m hm rfl (R1.out.new (alloc_new _ _)) ?_)
          | (refine wpList_stD rfl rfl (.tmp 25) (.tmp 24) rfl (w.heap.size + 3) k hk24 rfl (l m) rfl (R3.out.new (alloc_new _ _)) ?_))
        go_roundw
        case rel => exact ⟨k + 1, by go_num, hk24, Lib.hid (HasW.put (R1.out.new (alloc_new _ _)) (by omega) _), Lib.hid (HasW.put (R2.out.new (alloc_new _ _)) (by omega) _), Lib.hid (by rw [← HM.out]; exact HasW.stored (R3.out.new (alloc_new _ _)) _), Lib.hid ((R4.out.alloc _).put (by omega) _)⟩
        case measure => simp [intOf]; omega
      · have HM : Hid (updW (filK t l k) k (true, n) = filK t l (k + 1)) := Lib.hid (filK_step (by unfold fil; rw [hs]; rfl))
        rw [hs, sv_is] at hx
        unfold isV at hx
        have k1 := ta_iw n
        have k2 := ta_ii n
        clear hs
        have hlt := heap_lt R3.out
        go_wp2_with (refine wpList_stD rfl rfl (.tmp 33) (.tmp 32) rfl (w.heap.size + 3) k hk24 rfl (true, n) rfl (R3.out.new (alloc_new _ _)) ?_)
        go_roundw
        case rel => exact ⟨k + 1, by go_num, hk24, Lib.hid (HasW.put (R1.out.new (alloc_new _ _)) (by omega) _), Lib.hid (HasW.put (R2.out.new (alloc_new _ _)) (by omega) _), Lib.hid (by rw [← HM.out]; exact HasW.stored (R3.out.new (alloc_new _ _)) _), Lib.hid ((R4.out.alloc _).put (by omega) _)⟩
        case measure => simp [intOf]; omega
      · have hok := good_at (good_orN t) hk24
        rcases ok_cases hok with h | h
        · exact absurd h h1
        · exact absurd h.1 h0
    · obtain rfl : k = 24 := by omega
      go_wp2_with (first
        | (refine wpList_ldW rfl (.tmp 5) rfl (w.heap.size + 3) rfl R3.out ?_)
        | (refine wpList_stW rfl rfl (.tmp 4) (.tmp 35) rfl (w.heap.size + 2) rfl (filK t l 24) rfl R2.out ?_))
      rw [← filK_all]
      refine bodyPost_ret (resW _ rfl _ _ (w.heap.size + 2) _ rfl (HasW.stored R2.out _)) rfl ⟨rfl, R4.out.put (by omega) _⟩
end Go.Proofs.YtfjlglnjonijdaaGreatDoor
