/-
  The contract of env.Then: for every two tables.
-/
import Derived.Test.YtfjlglnjonijdaaDoorEnvD0
namespace Go.Proofs.YtfjlglnjonijdaaDoor
open Go.RowKit

/-- The second table, as far as it has been put behind the first. -/
def mixT (a b : Tb) (k : Nat) : Tb := fun i => if i < k then thn a b i else orN b i
theorem mix_zero (a b : Tb) : mixT a b 0 = orN b := by funext i; simp [mixT]
theorem mix_all (a b : Tb) : cellsT (mixT a b 24) = cellsT (thn a b) := cellsT_ext fun i hi => by unfold mixT; rw [if_pos hi]
theorem mix_was {a b : Tb} {k : Nat} {n : Int} (h : orN b k = (0, n)) : upd (mixT a b k) k (orN a n.toNat) = mixT a b (k + 1) := by
  funext i
  unfold upd mixT
  by_cases e : i = k
  · subst e
    rw [if_pos rfl, if_pos (by omega)]
    unfold thn
    rw [h]
    simp
  · rw [if_neg e]
    by_cases h2 : i < k
    · rw [if_pos h2, if_pos (by omega)]
    · rw [if_neg h2, if_neg (by omega)]
theorem mix_is {a b : Tb} {k : Nat} {n : Int} (h : orN b k = (1, n)) : mixT a b k = mixT a b (k + 1) := by
  funext i
  unfold mixT
  by_cases e : i = k
  · subst e
    rw [if_neg (by omega), if_pos (by omega)]
    unfold thn
    rw [h]
    simp
  · by_cases h2 : i < k
    · rw [if_pos h2, if_pos (by omega)]
    · rw [if_neg h2, if_neg (by omega)]
set_option maxHeartbeats 2000000 in
set_option maxRecDepth 100000 in
theorem then_any (a b : Tb) (w : World) :
    Calls Tryd.prog 15 #[.agg (cellsT a), .agg (cellsT b)] w fun e w' => e = .returned (.agg (cellsT (thn a b))) ∧ New w w' := by
  have b1 : HasT (((w.alloc (.cells (cellsT a) 27)).alloc (.cells (cellsT b) 27)).alloc (.cells (cellsT noT) 27)) w.heap.size a := ((HasT.box w a).new (alloc_new _ _)).new (alloc_new _ _)
  have b2 : HasT (((w.alloc (.cells (cellsT a) 27)).alloc (.cells (cellsT b) 27)).alloc (.cells (cellsT noT) 27)) (w.heap.size + 1) b := HasT.new (alloc_at (by rw [alloc_size]) _) (alloc_new _ _)
  have b3 : HasT (((w.alloc (.cells (cellsT a) 27)).alloc (.cells (cellsT b) 27)).alloc (.cells (cellsT noT) 27)) (w.heap.size + 2) noT := alloc_at (by rw [alloc_size, alloc_size]) _
  have hn : New w (((w.alloc (.cells (cellsT a) 27)).alloc (.cells (cellsT b) 27)).alloc (.cells (cellsT noT) 27)) := ((alloc_new _ _).alloc _).alloc _
  have B1 := Lib.hid b1
  have B2 := Lib.hid b2
  have B3 := Lib.hid b3
  have HN := Lib.hid hn
  clear b1 b2 b3 hn
  rw [zeroT] at B1 B2 B3 HN
  go_enter Tryd.func15, Tryd.ntmps15
  go_wp2_with fail
  generalize (((w.alloc (.cells (cellsT a) 27)).alloc (.cells (cellsT b) 27)).alloc _) = W0 at B1 B2 B3 HN ⊢
  have hne := newW_any W0
  refine wp_region_pref 4 (New.refl W0) (by kernel_rfl) (by kernel_rfl) (by kernel_rfl) (by kernel_rfl) (by kernel_rfl) ?_
  simp only [List.take_succ_cons, List.take_zero, List.drop_succ_cons, List.drop_zero]
  refine wpQuiet_ldT rfl (.tmp 2) rfl w.heap.size rfl (t := a) (by rintro w' ⟨x, rfl⟩; exact B1.out.new x.property) ?_
  simp only [Act.put, List.setIfInBounds_toArray, List.set_cons_zero, List.set_cons_succ]
  go_big_quiet_step (first | (go_at_call 26; exact quiet_new (orNew_from a _ (Subtype.property _))))
  refine wpQuiet_ldT rfl (.tmp 3) rfl (w.heap.size + 1) rfl (t := b) (by rintro w' ⟨x, rfl⟩; exact B2.out.new x.property) ?_
  simp only [Act.put, List.setIfInBounds_toArray, List.set_cons_zero, List.set_cons_succ]
  go_big_quiet_step (first | (go_at_call 26; exact quiet_new (orNew_from b _ (Subtype.property _))))
  refine wpQuiet_nil ?_
  intro w1 hn1
  have HX : Hid (∀ k : Nat, k < 24 → ∀ w : World, (Instr.index 27 (.agg (cellsT (orN b))) (.int .i64 (k : Int))).run Tryd.prog w = .ok (sv (orN b k)) w) := Lib.hid (fun k hk w => run_ixT (orN b) k hk w)
  have S1 : Hid (HasT (putO (putO w1 w.heap.size (oT (orN a))) (w.heap.size + 1) (oT (orN b))) w.heap.size (orN a)) := Lib.hid (HasT.put ((B1.out.new hn1).stored _) (by omega) _)
  have S2 : Hid (HasT (putO (putO w1 w.heap.size (oT (orN a))) (w.heap.size + 1) (oT (orN b))) (w.heap.size + 1) (orN b)) := Lib.hid (HasT.stored ((B2.out.new hn1).put (by omega) _) _)
  have S3 : Hid (HasT (putO (putO w1 w.heap.size (oT (orN a))) (w.heap.size + 1) (oT (orN b))) (w.heap.size + 2) noT) := Lib.hid (HasT.put ((B3.out.new hn1).put (by omega) _) (by omega) _)
  have S4 : Hid (New w (putO (putO w1 w.heap.size (oT (orN a))) (w.heap.size + 1) (oT (orN b)))) := Lib.hid (((HN.out.trans hn1).put (Nat.le_refl _) _).put (by omega) _)
  have B1' := Lib.hid (B1.out.new hn1)
  have B2' := Lib.hid (HasT.put (B2.out.new hn1) (k := w.heap.size) (by omega) (oT (orN a)))
  clear B1 B2 B3 HN hn1 hne
  go_wp2_with (first
    | (refine wpList_stT rfl rfl (.tmp 2) (.tmp 10) rfl w.heap.size rfl (orN a) rfl B1'.out ?_)
    | (refine wpList_stT rfl rfl (.tmp 3) (.tmp 12) rfl (w.heap.size + 1) rfl (orN b) rfl B2'.out ?_; clear B1' B2'; generalize putO (putO w1 w.heap.size (oT (orN a))) (w.heap.size + 1) (oT (orN b)) = W1 at S1 S2 S3 S4 ⊢)
    | (refine wpList_ldT rfl (.tmp 3) rfl (w.heap.size + 1) rfl S2.out ?_))
  go_loopw [14] (fun kv wr => ∃ k : Nat, kv = .int .i64 k ∧ k ≤ 24 ∧ Hid (HasT wr w.heap.size (orN a)) ∧ Hid (HasT wr (w.heap.size + 1) (mixT a b k)) ∧ Hid (HasT wr (w.heap.size + 2) noT) ∧ Hid (New w wr)) (fun kv wr => 24 - (intOf kv).toNat)
  case atStart => exact ⟨0, rfl, by omega, S1, Lib.hid (by rw [mix_zero]; exact S2.out), S3, S4⟩
  case round =>
    obtain ⟨k, rfl, hk, R1, R2, R3, R4⟩ := hrel
    clear S1 S2 S3 S4
    by_cases hk24 : k < 24
    · have hx := HX.out k hk24
      rcases s_cases (orN b k) with ⟨n, hs⟩ | ⟨n, hs⟩ | ⟨h0, h1⟩
      · have hok := good_at (good_orN b) hk24
        rw [hs] at hok
        have hr : rightB n = true := by simpa [okS, rightB] using hok
        obtain ⟨m, rfl, hm⟩ := int_of_right' hr
        have HM := Lib.hid (mix_was (a := a) hs)
        rw [hs, sv_was] at hx
        unfold wasV at hx
        have k1 := ta_ww (m : Int)
        clear hs hok hr
        have hlt := heap_lt R3.out
        go_wp2_with (first
          | (refine wpList_ldSr rfl (.tmp 27) rfl w.heap.size m hm rfl (R1.out.new (alloc_new _ _)) ?_)
          | (refine wpList_stSr rfl rfl (.tmp 29) (.tmp 28) rfl (w.heap.size + 1) k hk24 rfl (orN a m) rfl (R2.out.new (alloc_new _ _)) ?_))
        go_roundw
        case rel => exact ⟨k + 1, by go_num, hk24, Lib.hid (HasT.put (R1.out.new (alloc_new _ _)) (by omega) _), Lib.hid (by have := HM.out; rw [show ((m : Int)).toNat = m from rfl] at this; rw [← this]; exact HasT.stored (R2.out.new (alloc_new _ _)) _), Lib.hid (HasT.put (R3.out.new (alloc_new _ _)) (by omega) _), Lib.hid ((R4.out.alloc _).put (by omega) _)⟩
        case measure => simp [intOf]; omega
      · have HM := Lib.hid (mix_is (a := a) hs)
        rw [hs, sv_is] at hx
        unfold isV at hx
        have k1 := ta_iw n
        clear hs
        go_wp2
        go_roundw
        case rel => exact ⟨k + 1, by go_num, hk24, Lib.hid (R1.out.new (alloc_new _ _)), Lib.hid (by rw [← HM.out]; exact R2.out.new (alloc_new _ _)), Lib.hid (R3.out.new (alloc_new _ _)), Lib.hid (R4.out.alloc _)⟩
        case measure => simp [intOf]; omega
      · have hok := good_at (good_orN b) hk24
        rcases ok_cases hok with h | h
        · exact absurd h h1
        · exact absurd h.1 h0
    · obtain rfl : k = 24 := by omega
      go_wp2_with (first
        | (refine wpList_ldT rfl (.tmp 3) rfl (w.heap.size + 1) rfl R2.out ?_)
        | (refine wpList_stT rfl rfl (.tmp 4) (.tmp 31) rfl (w.heap.size + 2) rfl (mixT a b 24) rfl R3.out ?_))
      rw [← mix_all]
      refine bodyPost_ret (resT _ rfl _ _ (w.heap.size + 2) _ rfl (HasT.stored R3.out _)) rfl ⟨rfl, R4.out.put (by omega) _⟩
end Go.Proofs.YtfjlglnjonijdaaDoor
