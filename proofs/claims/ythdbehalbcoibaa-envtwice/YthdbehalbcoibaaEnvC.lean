/-
  The contract of env.After: for every table and instruction.
-/
import Derived.Test.YthdbehalbcoibaaEnvB
import Derived.Test.YthdbehalbcoibaaInsHas
import Derived.RegionTactic
import Derived.BigRegion
namespace Go.Proofs.Ythdbehalbcoibaa
open Go.RowKit

/-- What After's three variables hold. -/
def StF (w wx : World) (t : Tb) (x : I) : Prop := HasT wx w.heap.size t ∧ Has wx (w.heap.size + 1) x ∧ HasT wx (w.heap.size + 2) noT ∧ New w wx
theorem stF_made (w : World) (t : Tb) (x : I) (w1 : World) (h : New (((w.alloc (.cells (cellsT t) 28)).alloc (.cells #[.int .i64 x.op, .int .i64 x.d, .int .i64 x.a, .int .i64 x.b, .int .i64 x.n, .int .i64 x.t] 47)).alloc (.cells (cellsT noT) 28)) w1) (u : Tb) :
    StF w (putO w1 w.heap.size (oT u)) u x := by
  have a1 := (((HasT.box w t).new (alloc_new _ _)).new (alloc_new _ _)).new h
  refine ⟨a1.stored u, ?_, ?_, ?_⟩
  · refine Has.put (Has.new (Has.new (g := w.heap.size + 1) ?_ (alloc_new _ _)) h) _ (by omega)
    exact alloc_at (by rw [alloc_size]) _
  · refine HasT.put (HasT.new (g := w.heap.size + 2) ?_ h) (by omega) _
    exact alloc_at (by rw [alloc_size, alloc_size]) _
  · exact ((((alloc_new _ _).alloc _).alloc _).trans h).put (Nat.le_refl _) _
set_option maxHeartbeats 2000000 in
set_option maxRecDepth 100000 in
theorem after_out (t : Tb) (x : I) (h : ¬ (rightB x.d = true ∧ rightB x.a = true)) (w : World) :
    Calls Try.prog 16 #[.agg (cellsT t), .agg #[.int .i64 (x).op, .int .i64 (x).d, .int .i64 (x).a, .int .i64 (x).b, .int .i64 (x).n, .int .i64 (x).t]] w fun e w' => e = .returned (.agg (cellsT (orN t))) ∧ New w w' := by
  have b1 := Lib.hid (((HasT.box w t).new (alloc_new _ (.cells #[.int .i64 x.op, .int .i64 x.d, .int .i64 x.a, .int .i64 x.b, .int .i64 x.n, .int .i64 x.t] 47))).new (alloc_new _ (.cells (cellsT noT) 28)))
  have HM := Lib.hid (stF_made w t x)
  rw [zeroT] at b1 HM
  have hd : rightB x.d = false ∨ (rightB x.d = true ∧ rightB x.a = false) := by
    cases h1 : rightB x.d
    · exact .inl rfl
    · cases h2 : rightB x.a
      · exact .inr ⟨rfl, rfl⟩
      · exact absurd ⟨h1, h2⟩ h
  clear h
  rcases hd with hd | ⟨hd, ha⟩
  all_goals
    go_enter Try.func16, Try.ntmps16
    go_wp2_with (first
      | (refine wpList_ldT rfl (.tmp 2) rfl w.heap.size rfl b1.out ?_)
      | (refine wpList_ldT rfl (.tmp 2) rfl w.heap.size rfl HX.out.1 ?_)
      | (go_at_call 18; refine (orNew_any t _).mono ?_; rintro e w1 ⟨rfl, hn1⟩)
      | (refine wpList_stT rfl rfl (.tmp 2) (.tmp 6) rfl w.heap.size rfl (orN t) rfl (b1.out.new hn1) ?_; have HX := Lib.hid (HM.out w1 hn1 (orN t)); generalize putO w1 w.heap.size (oT (orN t)) = wx at HX ⊢; have c0 := HX.out.2.1.cell)
      | (go_at_call 22; refine (right_any _ _).mono ?_; rintro e w2 ⟨rfl, rfl⟩)
      | (refine wpList_stT rfl rfl (.tmp 4) (.tmp 17) rfl (w.heap.size + 2) rfl (orN t) rfl HX.out.2.2.1 ?_))
    refine bodyPost_ret (resT _ rfl _ _ (w.heap.size + 2) (orN t) rfl (HX.out.2.2.1.stored _)) rfl ⟨rfl, HX.out.2.2.2.put (by omega) _⟩

theorem int_of_right {l : Int} (h : rightB l = true) : ∃ k : Nat, l = (k : Int) ∧ k < 24 := ⟨l.toNat, by have := right_lt h; omega, (right_lt h).1⟩
set_option maxHeartbeats 2000000 in
set_option maxRecDepth 100000 in
theorem after_other (t : Tb) (x : I) (hd : rightB x.d = true) (ha : rightB x.a = true) (h1 : (x.op == 1) = false) (h2 : (x.op == 2) = false) (h3 : (x.op == 3) = false) (w : World) :
    Calls Try.prog 16 #[.agg (cellsT t), .agg #[.int .i64 (x).op, .int .i64 (x).d, .int .i64 (x).a, .int .i64 (x).b, .int .i64 (x).n, .int .i64 (x).t]] w fun e w' => e = .returned (.agg (cellsT (orN t))) ∧ New w w' := by
  have b1 := Lib.hid (((HasT.box w t).new (alloc_new _ (.cells #[.int .i64 x.op, .int .i64 x.d, .int .i64 x.a, .int .i64 x.b, .int .i64 x.n, .int .i64 x.t] 47))).new (alloc_new _ (.cells (cellsT noT) 28)))
  have HM := Lib.hid (stF_made w t x)
  rw [zeroT] at b1 HM
  go_enter Try.func16, Try.ntmps16
  go_wp2_with (first
      | (refine wpList_ldT rfl (.tmp 2) rfl w.heap.size rfl b1.out ?_)
      | (refine wpList_ldT rfl (.tmp 2) rfl w.heap.size rfl HX.out.1 ?_)
      | (go_at_call 18; refine (orNew_any t _).mono ?_; rintro e w1 ⟨rfl, hn1⟩)
      | (refine wpList_stT rfl rfl (.tmp 2) (.tmp 6) rfl w.heap.size rfl (orN t) rfl (b1.out.new hn1) ?_; have HX := Lib.hid (HM.out w1 hn1 (orN t)); generalize putO w1 w.heap.size (oT (orN t)) = wx at HX ⊢; have c0 := HX.out.2.1.cell; have c4 := HX.out.2.1.cell4)
      | (go_at_call 22; refine (right_any _ _).mono ?_; rintro e w2 ⟨rfl, rfl⟩)
      | (refine wpList_stT rfl rfl (.tmp 4) (.tmp 54) rfl (w.heap.size + 2) rfl (orN t) rfl HX.out.2.2.1 ?_))
  refine bodyPost_ret (resT _ rfl _ _ (w.heap.size + 2) (orN t) rfl (HX.out.2.2.1.stored _)) rfl ⟨rfl, HX.out.2.2.2.put (by omega) _⟩
set_option maxHeartbeats 2000000 in
set_option maxRecDepth 100000 in
theorem after_const (t : Tb) (o d a b n u : Int) (kd : Nat) (hkd : kd < 24) (hdd : d = (kd : Int)) (hd : rightB d = true) (ha : rightB a = true) (h1 : (o == 1) = true) (w : World) :
    Calls Try.prog 16 #[.agg (cellsT t), .agg #[.int .i64 o, .int .i64 d, .int .i64 a, .int .i64 b, .int .i64 n, .int .i64 u]] w fun e w' => e = .returned (.agg (cellsT (upd (orN t) kd (1, n)))) ∧ New w w' := by
  subst hdd
  have b1 := Lib.hid (((HasT.box w t).new (alloc_new _ (.cells #[.int .i64 o, .int .i64 kd, .int .i64 a, .int .i64 b, .int .i64 n, .int .i64 u] 47))).new (alloc_new _ (.cells (cellsT noT) 28)))
  have HM := Lib.hid (stF_made w t ⟨o, kd, a, b, n, u⟩)
  rw [zeroT] at b1 HM
  go_enter Try.func16, Try.ntmps16
  go_wp2_with (first
      | (refine wpList_ldT rfl (.tmp 2) rfl w.heap.size rfl b1.out ?_)
      | (refine wpList_ldT rfl (.tmp 2) rfl w.heap.size rfl HX.out.1 ?_)
      | (go_at_call 18; refine (orNew_any t _).mono ?_; rintro e w1 ⟨rfl, hn1⟩)
      | (refine wpList_stT rfl rfl (.tmp 2) (.tmp 6) rfl w.heap.size rfl (orN t) rfl (b1.out.new hn1) ?_; have HX := Lib.hid (HM.out w1 hn1 (orN t)); generalize putO w1 w.heap.size (oT (orN t)) = wx at HX ⊢; have c0 := HX.out.2.1.cell; have c4 := HX.out.2.1.cell4)
      | (go_at_call 22; refine (right_any _ _).mono ?_; rintro e w2 ⟨rfl, rfl⟩)
      | (refine wpList_stS rfl rfl (.tmp 28) (.tmp 27) rfl w.heap.size kd hkd rfl (1, n) rfl HX.out.1 ?_)
      | (refine wpList_ldT rfl (.tmp 2) rfl w.heap.size rfl (HX.out.1.stored _) ?_)
      | (refine wpList_stT rfl rfl (.tmp 4) (.tmp 54) rfl (w.heap.size + 2) rfl (upd (orN t) kd (1, n)) rfl (HX.out.2.2.1.put (by omega) _) ?_))
  refine bodyPost_ret (resT _ rfl _ _ (w.heap.size + 2) _ rfl ((HX.out.2.2.1.put (by omega) _).stored _)) rfl ⟨rfl, (HX.out.2.2.2.put (by omega) _).put (by omega) _⟩
end Go.Proofs.Ythdbehalbcoibaa
