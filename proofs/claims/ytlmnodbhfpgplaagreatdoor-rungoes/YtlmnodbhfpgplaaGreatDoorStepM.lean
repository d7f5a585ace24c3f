/-
  The reference's SameEvents and SameOutcome, of rows and outcomes that are alike.
-/
import Derived.Test.YtlmnodbhfpgplaaGreatDoorStepG
namespace Go.Proofs.YtlmnodbhfpgplaaGreatDoor
open Go.RowKit

theorem sizeEv : ∀ w, (sizeOf 133).run Tryz.prog w = .ok 3 w := Tryz.sizeOf133
theorem EvAt.ix {w : World} {ao : Option Addr} {n cap : Nat} {es : List Ev} (h : EvAt w (.slice ao n cap) es) {i : Nat} (hi : i < es.length) :
    ∃ (b o : Nat), (∀ w', (Instr.indexAt 29 (.slice ao n cap) (.int .i64 (i : Int))).run Tryz.prog w' = .ok (.pointer (some ⟨b, o, none⟩)) w') ∧ ∀ w', New w w' → w'.rangeAt b o (evCells es[i]) := by
  obtain ⟨ao', cap', e0, _, hh⟩ := h
  simp only [Value.slice.injEq] at e0
  obtain ⟨rfl, rfl, rfl⟩ := e0
  obtain ⟨b, off, rfl, hc⟩ := hh i hi
  refine ⟨b, off + i * 3, fun w' => ?_, fun w' hn j u hu => hn.cell (hc j u hu)⟩
  simp [Instr.indexAt, run_underlying Tryz.underlying29, asIntOf, Addr.add_mid]
  intro; omega
theorem run_neqEv (x : Ev) (w : World) : (binOp .neq 133 (.agg #[.int .i64 x.1, .int .i64 x.2.1, .int .i64 x.2.2]) (.agg #[.int .i64 x.1, .int .i64 x.2.1, .int .i64 x.2.2])).run Tryz.prog w = .ok (.bool false) w := by
  obtain ⟨a, b, n⟩ := x
  go_simp
theorem wpQuiet_ldEm {ops : Array Oper} {C : World → Prop} {Q : Act → Prop} {op : Oper} {rest : List Oper} {act : Act} (hw : Region.wanted op (yielded ops act.tmps) = true) (p : Operand) (ho : op.op = .load 133 p)
    (b o : Nat) (hx : act.eval p = .pointer (some ⟨b, o, none⟩)) {x : Ev} (h : ∀ w, C w → w.rangeAt b o (evCells x))
    (hk : wpQuiet Tryz.prog ops C Q rest (act.put op.dst (.agg #[.int .i64 x.1, .int .i64 x.2.1, .int .i64 x.2.2]))) : wpQuiet Tryz.prog ops C Q (op :: rest) act :=
  wpQuiet_valG hw _ (fun w hw => by
    unfold execOp
    have := run_loadAt_mid (P := Tryz.prog) w b o 133 (evCells x) _ (h w hw) Tryz.underlying133 rfl infoEv
    simp only [ho, hx, this, Sem.run_bind, Sem.run_pure, Result.andThen_ok]
    rfl) hk
set_option maxHeartbeats 2000000 in
set_option maxRecDepth 100000 in
theorem refEvents_any (es : List Ev) (v u : Value) (w : World) (h1 : EvAt w v es) (h2 : EvAt w u es) (hb : es.length ≤ 100000) :
    Calls Tryz.prog 29 #[v, u] w fun e w' => e = .returned (.bool true) ∧ New w w' := by
  obtain ⟨ao, cap, rfl⟩ := h1.form
  obtain ⟨bo, dap, rfl⟩ := h2.form
  have H1 := Lib.hid h1
  have H2 := Lib.hid h2
  obtain ⟨n, HN⟩ : ∃ n, Hid (es.length = n) := ⟨_, Lib.hid rfl⟩
  rw [HN.out] at H1 H2 hb ⊢
  clear h1 h2
  go_enter Tryz.func29, Tryz.ntmps29
  go_wp2
  go_loopw [5] (fun kv wr => ∃ k : Nat, kv = .int .i64 k ∧ k ≤ n ∧ Hid (New w wr)) (fun kv _ => n - (intOf kv).toNat)
  case atStart => exact ⟨0, rfl, by omega, Lib.hid (New.refl _)⟩
  case round =>
    obtain ⟨k, rfl, hk, HR⟩ := hrel
    by_cases hlt : k < n
    · have hlt' : (k : Int) < (n : Int) := by omega
      obtain ⟨b, o, hix, hrg⟩ := H1.out.ix (i := k) (by rw [HN.out]; exact hlt)
      obtain ⟨b2, o2, hix2, hrg2⟩ := H2.out.ix (i := k) (by rw [HN.out]; exact hlt)
      obtain ⟨x, HX⟩ : ∃ x : Ev, Hid (es[k]'(by rw [HN.out]; exact hlt) = x) := ⟨_, Lib.hid rfl⟩
      rw [HX.out] at hrg hrg2
      have R1 := Lib.hid hrg
      have R2 := Lib.hid hrg2
      have hne := newW_any wr
      have hq := run_neqEv x
      clear hrg hrg2
      go_wp2_with fail
      refine wp_region_new (New.refl wr) (by kernel_rfl) (by kernel_rfl) ?_
      repeat (first
        | (refine wpQuiet_ldEm rfl (.tmp 19) rfl b o rfl (x := x) (by rintro w' ⟨y, rfl⟩; exact R1.out _ (HR.out.trans y.property)) ?_; simp only [Act.put, List.setIfInBounds_toArray, List.set_cons_zero, List.set_cons_succ])
        | (refine wpQuiet_ldEm rfl (.tmp 23) rfl b2 o2 rfl (x := x) (by rintro w' ⟨y, rfl⟩; exact R2.out _ (HR.out.trans y.property)) ?_; simp only [Act.put, List.setIfInBounds_toArray, List.set_cons_zero, List.set_cons_succ])
        | go_big_quiet_step (first | fail))
      refine wpQuiet_nil ?_
      intro w5 hn5
      go_wp2
      go_roundw
      case rel => exact ⟨k + 1, by go_num, hlt, Lib.hid (HR.out.trans hn5)⟩
      case measure => simp [intOf]; omega
    · obtain rfl : k = n := by omega
      have hlt' : ¬ (k : Int) < (k : Int) := by omega
      go_wp2
      go_ret
      exact ⟨rfl, HR.out⟩
set_option maxHeartbeats 2000000 in
theorem refOutcome_any (how val : Int) (zs : List Int) (s r : Sl) (w : World) (h1 : Hp w (.slice s.ao s.n s.c) zs) (h2 : Hp w (.slice r.ao r.n r.c) zs) (hz : zs.length ≤ 1000) :
    Calls Tryz.prog 30 #[.agg (outC how val s).toArray, .agg (outC how val r).toArray] w fun e w' => e = .returned (.bool true) ∧ New w w' := by
  have H1 := Lib.hid h1
  have H2 := Lib.hid h2
  have HZ := Lib.hid hz
  clear h1 h2 hz
  go_enter Tryz.func30, Tryz.ntmps30
  go_wp2_with (first
    | (go_at_call 31; refine (rsame_is (H1.out.new (hn1.trans hn2)) (H2.out.new (hn1.trans hn2)) HZ.out (eqB_refl zs)).mono ?_; rintro e w5 ⟨rfl, hn5⟩)
    | (refine wpList_boxX rfl 31 (.tmp 0) rfl (outC how val s) rfl ?_; intro w1 g2 hg2 hl2 A2 hn1; have HA := Lib.hid A2; clear A2)
    | (refine wpList_boxX rfl 31 (.tmp 1) rfl (outC how val r) rfl ?_; intro w2 g3 hg3 hl3 A3 hn2; have HB : Hid (HasO w2 g3 how val r) := Lib.hid A3; replace HA : Hid (HasO w2 g2 how val s) := Lib.hid (HasC.new HA.out hn2); have k0 := HasO.how HA.out; have k1 := HasO.val HA.out; have k2 := HasO.hp HA.out; have j0 := HasO.how HB.out; have j1 := HasO.val HB.out; have j2 := HasO.hp HB.out; clear A3))
  go_ret
  exact ⟨rfl, (hn1.trans hn2).trans hn5⟩
end Go.Proofs.YtlmnodbhfpgplaaGreatDoor
