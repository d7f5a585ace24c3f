/-
  The reference's Same of two tables that are alike.
-/
import Derived.Test.YtlmnodbhfpgplaaGreatDoorRefPath
namespace Go.Proofs.YtlmnodbhfpgplaaGreatDoor
open Go.RowKit

theorem wpQuiet_ldRs {ops : Array Oper} {C : World → Prop} {Q : Act → Prop} {op : Oper} {rest : List Oper} {act : Act} (hw : Region.wanted op (yielded ops act.tmps) = true) (p : Operand) (ho : op.op = .load 167 p)
    (b o : Nat) (hx : act.eval p = .pointer (some ⟨b, o, none⟩)) {x : Sr} (h : ∀ w, C w → w.rangeAt b o (rcells x))
    (hk : wpQuiet Tryz.prog ops C Q rest (act.put op.dst (.agg #[.int .i64 (refS x).1, .int .i64 (refS x).2]))) : wpQuiet Tryz.prog ops C Q (op :: rest) act :=
  wpQuiet_valG hw _ (fun w hw => by
    unfold execOp
    have := run_loadAt_mid (P := Tryz.prog) w b o 167 (rcells x) _ (h w hw) Tryz.underlying167 rfl sizeR2
    simp only [ho, hx, this, Sem.run_bind, Sem.run_pure, Result.andThen_ok]
    rfl) hk
theorem eqIn_rs (d : Nat) (x y : Int) (w : World) : (Op.equalIn (d + 2) 167 (.agg #[.int .i64 x, .int .i64 y]) (.agg #[.int .i64 x, .int .i64 y])).run Tryz.prog w = .ok true w := by
  have hS : Tryz.prog.underlying 167 = some (.struct (Tryz.prog.fieldsOf 167)) := by kernel_rfl
  rw [run_equalIn_agg w (d + 1) 167 _ _ hS (by kernel_rfl)]
  simp only [Program.fieldsOf, Tryz.underlying167]
  have u3 := Tryz.underlying2
  have a3 := Tryz.isAgg2
  have u4 := Tryz.underlying3
  have a4 := Tryz.isAgg3
  go_simp
set_option maxHeartbeats 2000000 in
set_option maxRecDepth 100000 in
theorem refSameT_any (v u : Value) (t : Tb) (w : World) (h : ElAt w v 24 (fun i => rcells (t i))) (hl : ElAt w u 24 (fun i => rcells (t i))) :
    Calls Tryz.prog 64 #[v, u] w fun e w' => e = .returned (.bool true) ∧ New w w' := by
  obtain ⟨ao, cap, rfl⟩ := h.form
  obtain ⟨bo, dap, rfl⟩ := hl.form
  have HH := Lib.hid h
  have HL := Lib.hid hl
  clear h hl
  go_enter Tryz.func64, Tryz.ntmps64
  go_wp2
  go_loopw [5] (fun iv wr => ∃ k : Nat, iv = .int .i64 k ∧ k ≤ 24 ∧ Hid (New w wr)) (fun iv _ => 24 - (intOf iv).toNat)
  case atStart => exact ⟨0, rfl, by omega, Lib.hid (New.refl _)⟩
  case round =>
    obtain ⟨k, rfl, hk, R3⟩ := hrel
    by_cases hk24 : k < 24
    · obtain ⟨b, o, hix, hrg⟩ := HH.out.ix 65 Tryz.underlying65 sizeR hk24
      obtain ⟨b2, o2, hix2, hrg2⟩ := HL.out.ix 65 Tryz.underlying65 sizeR hk24
      have HR := Lib.hid hrg
      have HR2 := Lib.hid hrg2
      have i24 : (k : Int) < 24 := by omega
      have hq : ∀ w, (binOp .neq 167 (.agg #[.int .i64 (refS (t k)).1, .int .i64 (refS (t k)).2]) (.agg #[.int .i64 (refS (t k)).1, .int .i64 (refS (t k)).2])).run Tryz.prog w = .ok (.bool false) w := fun w => by rw [run_neq_struct, show (10000 : Nat) = 9998 + 2 from rfl, eqIn_rs 9998 _ _ w]; simp
      clear hrg hrg2
      go_wp2_with fail
      have hne := newW_any wr
      refine wp_region_new (New.refl wr) (by kernel_rfl) (by kernel_rfl) ?_
      repeat (first
        | (refine wpQuiet_ldRs rfl (.tmp 19) rfl b o rfl (x := t k) (by rintro w' ⟨y, rfl⟩; exact HR.out _ (R3.out.trans y.property)) ?_; simp only [Act.put, List.setIfInBounds_toArray, List.set_cons_zero, List.set_cons_succ])
        | (refine wpQuiet_ldRs rfl (.tmp 23) rfl b2 o2 rfl (x := t k) (by rintro w' ⟨y, rfl⟩; exact HR2.out _ (R3.out.trans y.property)) ?_; simp only [Act.put, List.setIfInBounds_toArray, List.set_cons_zero, List.set_cons_succ])
        | go_big_quiet_step (first | fail))
      refine wpQuiet_nil ?_
      intro w5 hn5
      go_wp2
      go_roundw
      case rel => exact ⟨k + 1, by go_num, hk24, Lib.hid (R3.out.trans hn5)⟩
      case measure => simp [intOf]; omega
    · obtain rfl : k = 24 := by omega
      go_wp2
      go_ret
      exact ⟨rfl, R3.out⟩
end Go.Proofs.YtlmnodbhfpgplaaGreatDoor
