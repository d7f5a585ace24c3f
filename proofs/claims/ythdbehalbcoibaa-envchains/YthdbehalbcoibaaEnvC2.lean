/-
  The contract of env.After, of a Mov and a Swap; for every table and instruction.
-/
import Derived.Test.YthdbehalbcoibaaEnvC
namespace Go.Proofs.Ythdbehalbcoibaa
open Go.RowKit

/-- A cell of a table's block is stored, as the walk writes it. -/
theorem HasT.set {w : World} {g k : Nat} (hk : k < 24) {t : Tb} (h : HasT w g t) (s : Sr) : HasT (w.setCell ⟨g, k, none⟩ (sv s)) g (upd t k s) := by
  have := heap_setCell_same w g k _ _ (sv s) h
  unfold HasT
  rw [this]
  have e := cellsT_set t s hk
  have e2 : (cellsT t).setIfInBounds k (sv s) = cellsT (upd t k s) := by
    apply Array.toList_inj.mp
    rw [← e, Array.toList_setIfInBounds, List.set_eq_take_append_cons_drop, if_pos (by rw [Array.length_toList, cellsT_size]; exact hk)]
    simp
  rw [e2]
theorem HasT.setOther {w : World} {g : Nat} {a : Addr} {t : Tb} (h : HasT w g t) (hk : g ≠ a.block) (v : Value) : HasT (w.setCell a v) g t := by
  unfold HasT
  rw [heap_setCell_other w a g v hk]
  exact h
theorem sv_ok {s : Sr} (h : okS s = true) : ∃ T v, sv s = .iface T v := by
  rcases ok_cases h with h | h
  · exact ⟨_, _, by unfold sv; rw [if_neg (by omega), if_pos h]⟩
  · exact ⟨_, _, by unfold sv; rw [if_pos h.1]⟩
set_option maxHeartbeats 2000000 in
set_option maxRecDepth 100000 in
theorem after_mov (t : Tb) (o d a b n u : Int) (kd ka : Nat) (hkd : kd < 24) (hka : ka < 24) (hdd : d = (kd : Int)) (haa : a = (ka : Int)) (hd : rightB d = true) (ha : rightB a = true) (h1 : (o == 1) = false) (h2 : (o == 2) = true) (w : World) :
    Calls Try.prog 16 #[.agg (cellsT t), .agg #[.int .i64 o, .int .i64 d, .int .i64 a, .int .i64 b, .int .i64 n, .int .i64 u]] w fun e w' => e = .returned (.agg (cellsT (upd (orN t) kd (orN t ka)))) ∧ New w w' := by
  subst hdd
  subst haa
  have b1 := Lib.hid (((HasT.box w t).new (alloc_new _ (.cells #[.int .i64 o, .int .i64 kd, .int .i64 ka, .int .i64 b, .int .i64 n, .int .i64 u] 47))).new (alloc_new _ (.cells (cellsT noT) 28)))
  have HM := Lib.hid (stF_made w t ⟨o, kd, ka, b, n, u⟩)
  rw [zeroT] at b1 HM
  go_enter Try.func16, Try.ntmps16
  go_wp2_with (first
      | (refine wpList_ldT rfl (.tmp 2) rfl w.heap.size rfl b1.out ?_)
      | (refine wpList_ldT rfl (.tmp 2) rfl w.heap.size rfl HX.out.1 ?_)
      | (go_at_call 18; refine (orNew_any t _).mono ?_; rintro e w1 ⟨rfl, hn1⟩)
      | (refine wpList_stT rfl rfl (.tmp 2) (.tmp 6) rfl w.heap.size rfl (orN t) rfl (b1.out.new hn1) ?_; have HX := Lib.hid (HM.out w1 hn1 (orN t)); generalize putO w1 w.heap.size (oT (orN t)) = wx at HX ⊢; have c0 := HX.out.2.1.cell; have c4 := HX.out.2.1.cell4)
      | (go_at_call 22; refine (right_any _ _).mono ?_; rintro e w2 ⟨rfl, rfl⟩))
  have q1 := HX.out.1.cell hka
  have q2 := HX.out.1.cell hkd
  obtain ⟨T, v, hv⟩ := sv_ok (good_at (good_orN t) hka)
  rw [hv] at q1
  have HV := Lib.hid hv
  clear hv
  have q3 := frozen_of_row _ w.heap.size kd _ _ HX.out.1
  go_region
  have HT : Hid (HasT _ w.heap.size (upd (orN t) kd (orN t ka))) := Lib.hid (HX.out.1.set hkd (orN t ka))
  have HR := Lib.hid (HX.out.2.2.1.setOther (a := ⟨w.heap.size, kd, none⟩) (by show w.heap.size + 2 ≠ w.heap.size; omega) (sv (orN t ka)))
  have HN := Lib.hid ((Below.setCell HX.out.2.2.2 (p := ⟨w.heap.size, kd, none⟩) (Nat.le_refl _) (sv (orN t ka))))
  rw [HV.out] at HT HR HN
  go_wp2_with (first
    | (refine wpList_ldT rfl (.tmp 2) rfl w.heap.size rfl HT.out ?_)
    | (refine wpList_stT rfl rfl (.tmp 4) (.tmp 54) rfl (w.heap.size + 2) rfl (upd (orN t) kd (orN t ka)) rfl HR.out ?_))
  refine bodyPost_ret (resT _ rfl _ _ (w.heap.size + 2) _ rfl (HasT.stored HR.out _)) rfl ⟨rfl, New.put (New.drew HN.out) (by omega) _⟩
set_option maxHeartbeats 2000000 in
set_option maxRecDepth 100000 in
theorem after_swap (t : Tb) (o d a b n u : Int) (kd ka : Nat) (hkd : kd < 24) (hka : ka < 24) (hdd : d = (kd : Int)) (haa : a = (ka : Int)) (hd : rightB d = true) (ha : rightB a = true) (h1 : (o == 1) = false) (h2 : (o == 2) = false) (h3 : (o == 3) = true) (w : World) :
    Calls Try.prog 16 #[.agg (cellsT t), .agg #[.int .i64 o, .int .i64 d, .int .i64 a, .int .i64 b, .int .i64 n, .int .i64 u]] w fun e w' => e = .returned (.agg (cellsT (upd (upd (orN t) kd (orN t ka)) ka (orN t kd)))) ∧ New w w' := by
  subst hdd
  subst haa
  have b1 := Lib.hid (((HasT.box w t).new (alloc_new _ (.cells #[.int .i64 o, .int .i64 kd, .int .i64 ka, .int .i64 b, .int .i64 n, .int .i64 u] 47))).new (alloc_new _ (.cells (cellsT noT) 28)))
  have HM := Lib.hid (stF_made w t ⟨o, kd, ka, b, n, u⟩)
  rw [zeroT] at b1 HM
  go_enter Try.func16, Try.ntmps16
  go_wp2_with (first
      | (refine wpList_ldT rfl (.tmp 2) rfl w.heap.size rfl b1.out ?_)
      | (refine wpList_ldT rfl (.tmp 2) rfl w.heap.size rfl HX.out.1 ?_)
      | (go_at_call 18; refine (orNew_any t _).mono ?_; rintro e w1 ⟨rfl, hn1⟩)
      | (refine wpList_stT rfl rfl (.tmp 2) (.tmp 6) rfl w.heap.size rfl (orN t) rfl (b1.out.new hn1) ?_; have HX := Lib.hid (HM.out w1 hn1 (orN t)); generalize putO w1 w.heap.size (oT (orN t)) = wx at HX ⊢; have c0 := HX.out.2.1.cell; have c4 := HX.out.2.1.cell4)
      | (go_at_call 22; refine (right_any _ _).mono ?_; rintro e w2 ⟨rfl, rfl⟩))
  have q1 := HX.out.1.cell hka
  have q2 := HX.out.1.cell hkd
  obtain ⟨T, v, hv⟩ := sv_ok (good_at (good_orN t) hka)
  obtain ⟨T', v', hv'⟩ := sv_ok (good_at (good_orN t) hkd)
  have q3 := frozen_of_row _ w.heap.size kd _ _ HX.out.1
  have q4 := frozen_of_row _ w.heap.size ka _ _ HX.out.1
  have HT1 : Hid (HasT _ w.heap.size (upd (orN t) kd (orN t ka))) := Lib.hid (HX.out.1.set hkd (orN t ka))
  obtain ⟨v2, q5⟩ : ∃ v2, (World.setCell _ ⟨w.heap.size, kd, none⟩ (sv (orN t ka))).cell? ⟨w.heap.size, ka, none⟩ = some v2 := ⟨_, HT1.out.cell hka⟩
  have HT : Hid (HasT _ w.heap.size (upd (upd (orN t) kd (orN t ka)) ka (orN t kd))) := Lib.hid (HT1.out.set hka (orN t kd))
  have HR := Lib.hid ((HX.out.2.2.1.setOther (a := ⟨w.heap.size, kd, none⟩) (by show w.heap.size + 2 ≠ w.heap.size; omega) (sv (orN t ka))).setOther (a := ⟨w.heap.size, ka, none⟩) (by show w.heap.size + 2 ≠ w.heap.size; omega) (sv (orN t kd)))
  have HN := Lib.hid (Below.setCell (Below.setCell HX.out.2.2.2 (p := ⟨w.heap.size, kd, none⟩) (Nat.le_refl _) (sv (orN t ka))) (p := ⟨w.heap.size, ka, none⟩) (Nat.le_refl _) (sv (orN t kd)))
  rw [hv] at q1 q5
  rw [hv'] at q2
  rw [hv, hv'] at HT HR HN
  clear hv hv' HT1
  go_region
  go_wp2_with (first
    | (refine wpList_ldT rfl (.tmp 2) rfl w.heap.size rfl HT.out ?_)
    | (refine wpList_stT rfl rfl (.tmp 4) (.tmp 54) rfl (w.heap.size + 2) rfl (upd (upd (orN t) kd (orN t ka)) ka (orN t kd)) rfl HR.out ?_))
  refine bodyPost_ret (resT _ rfl _ _ (w.heap.size + 2) _ rfl (HasT.stored HR.out _)) rfl ⟨rfl, New.put (New.drew HN.out) (by omega) _⟩
/-- env.After, of every table and instruction. -/
theorem after_any (t : Tb) (x : I) (w : World) :
    Calls Try.prog 16 #[.agg (cellsT t), .agg #[.int .i64 (x).op, .int .i64 (x).d, .int .i64 (x).a, .int .i64 (x).b, .int .i64 (x).n, .int .i64 (x).t]] w fun e w' => e = .returned (.agg (cellsT (aft t x))) ∧ New w w' := by
  by_cases h : rightB x.d = true ∧ rightB x.a = true
  · obtain ⟨kd, ed, hkd⟩ := int_of_right h.1
    obtain ⟨ka, ea, hka⟩ := int_of_right h.2
    have td : x.d.toNat = kd := by rw [ed]; rfl
    have ta : x.a.toNat = ka := by rw [ea]; rfl
    unfold aft
    rw [if_pos h, td, ta]
    by_cases h1 : x.op = 1
    · rw [if_pos h1]
      exact after_const t x.op x.d x.a x.b x.n x.t kd hkd ed h.1 h.2 (beq_of h1) w
    · rw [if_neg h1]
      by_cases h2 : x.op = 2
      · rw [if_pos h2]
        exact after_mov t x.op x.d x.a x.b x.n x.t kd ka hkd hka ed ea h.1 h.2 (bneq_of h1) (beq_of h2) w
      · rw [if_neg h2]
        by_cases h3 : x.op = 3
        · rw [if_pos h3]
          exact after_swap t x.op x.d x.a x.b x.n x.t kd ka hkd hka ed ea h.1 h.2 (bneq_of h1) (bneq_of h2) (beq_of h3) w
        · rw [if_neg h3]
          exact after_other t x h.1 h.2 (bneq_of h1) (bneq_of h2) (bneq_of h3) w
  · unfold aft
    rw [if_neg h]
    exact after_out t x h w
end Go.Proofs.Ythdbehalbcoibaa
