/-
  The contracts of layer 5's reference, its second part: good, Fill, SameWords.
-/
import Derived.Test.YthdbehalbcoibaaEnvRef
import Derived.Test.YthdbehalbcoibaaEnvF
namespace Go.Proofs.Ythdbehalbcoibaa
open Go.RowKit

theorem refgood_any (v : Value) (t : Tb) (w : World) (h : ElAt w v 24 (fun i => rcells (t i))) :
    Calls Try.prog 19 #[v] w fun e w' => ∃ v', e = .returned v' ∧ ElAt w' v' 24 (fun i => rcells (orN t i)) ∧ New w w' := by
  obtain ⟨ao, cap, rfl⟩ := h.form
  have HH := Lib.hid h
  clear h
  cases hg : goodT t with
  | true =>
    have e : orN t = t := orN_good hg
    rw [e]
    clear e
    go_enter Try.func19, Try.ntmps19
    go_wp2_with (go_at_call 23; refine (refGood_any ao cap t _ HH.out).mono ?_; rw [hg]; rintro e w1 ⟨rfl, hn1⟩)
    go_ret
    exact ⟨_, rfl, HH.out.new hn1, hn1⟩
  | false =>
    have e : orN t = newT := if_neg (by rw [hg]; decide)
    rw [e]
    clear e
    go_enter Try.func19, Try.ntmps19
    go_wp2_with (first
      | (go_at_call 23; refine (refGood_any ao cap t _ HH.out).mono ?_; rw [hg]; rintro e w1 ⟨rfl, hn1⟩)
      | (go_at_call 24; refine (refNew_any _).mono ?_; rintro e w2 ⟨v2, rfl, he2, hn2⟩))
    go_ret
    exact ⟨_, rfl, he2, hn1.trans hn2⟩
section
variable {ops : Array Oper} {rest : List Oper} {op : Oper} {act : Act} {w : World} {Q : Exit → Act → World → Prop}
theorem wpList_ldDm (hgd : op.guard = none) (p : Operand) (ho : op.op = .load 31 p)
    (b o : Nat) (hx : act.eval p = .pointer (some ⟨b, o, none⟩)) {x : Wd} (h : w.rangeAt b o (wcells x))
    (hk : wpList Try.prog ops Q rest (act.put op.dst (.agg #[.bool x.1, .int .i64 x.2])) w) : wpList Try.prog ops Q (op :: rest) act w :=
  wpList_load_mid hgd _ p ho b o hx (wcells x) _ h Try.underlying31 rfl infoD hk
end
section
variable {ops : Array Oper} {C : World → Prop} {Q : Act → Prop} {op : Oper} {rest : List Oper} {act : Act}
theorem wpQuiet_ldDm (hw : Region.wanted op (yielded ops act.tmps) = true) (p : Operand) (ho : op.op = .load 31 p)
    (b o : Nat) (hx : act.eval p = .pointer (some ⟨b, o, none⟩)) {x : Wd} (h : ∀ w, C w → w.rangeAt b o (wcells x))
    (hk : wpQuiet Try.prog ops C Q rest (act.put op.dst (.agg #[.bool x.1, .int .i64 x.2]))) : wpQuiet Try.prog ops C Q (op :: rest) act :=
  wpQuiet_valueG hw _ (fun w hw => by
    unfold execOp
    have := run_loadAt_mid (P := Try.prog) w b o 31 (wcells x) _ (h w hw) Try.underlying31 rfl infoD
    simp only [ho, hx, this, Sem.run_bind, Sem.run_pure, Result.andThen_ok]
    rfl) hk
end
set_option maxHeartbeats 2000000 in
set_option maxRecDepth 100000 in
theorem refFill_any (v u : Value) (t : Tb) (l : Ws) (w : World) (h : ElAt w v 24 (fun i => rcells (t i))) (hl : ElAt w u 24 (fun i => wcells (l i))) :
    Calls Try.prog 12 #[v, u] w fun e w' => ∃ v', e = .returned v' ∧ ElAt w' v' 24 (fun i => wcells (fil t l i)) ∧ New w w' := by
  obtain ⟨bo, dap, rfl⟩ := hl.form
  have HH := Lib.hid h
  have HL := Lib.hid hl
  clear h hl
  go_enter Try.func12, Try.ntmps12
  go_wp2_with fail
  refine (refgood_any v t _ HH.out).mono ?_
  rintro e w1 ⟨v1, rfl, he1, hn1⟩
  obtain ⟨ao, cap, rfl⟩ := he1.form
  have HE := Lib.hid he1
  have HN := Lib.hid hn1
  clear he1 hn1 HH
  go_wp2
  go_loopw [5, 6] (fun o iv wr => ∃ k : Nat, iv = .int .i64 k ∧ k ≤ 24 ∧ Hid (OwnG wr w1.heap.size 31 o k (fun i => wcells (fil t l i))) ∧ Hid (New w1 wr)) (fun _ iv _ => 24 - (intOf iv).toNat)
  case atStart => exact ⟨0, rfl, by omega, Lib.hid (OwnG.nil _ _ _ _), Lib.hid (New.refl _)⟩
  case round =>
    obtain ⟨k, rfl, hk, R2, R3⟩ := hrel
    by_cases hk24 : k < 24
    · have hlt := R3.out.size
      obtain ⟨b, o, hix, hrg⟩ := HE.out.ix 39 Try.underlying39 sizeR hk24
      obtain ⟨d0, d1⟩ := range_two (hrg wr R3.out)
      have hok := good_at (good_orN t) hk24
      rcases s_cases (orN t k) with ⟨n, hs⟩ | ⟨n, hs⟩ | ⟨h0, h1⟩
      · rw [hs] at hok d0 d1
        have hr : rightB n = true := by simpa [okS, rightB] using hok
        obtain ⟨m, rfl, hm⟩ := int_of_right' hr
        have HF : Hid (fil t l k = l m) := Lib.hid (by unfold fil; rw [hs]; rfl)
        obtain ⟨b2, o2, hix2, hrg2⟩ := HL.out.ix 35 Try.underlying35 sizeWd hm
        have HR2 := Lib.hid (hrg2 wr (HN.out.trans R3.out))
        simp only [refS, if_true] at d0 d1
        clear hs hok hr hrg hrg2
        go_wp2_with (first
          | (refine wpList_ldDm rfl (.tmp 26) rfl b2 o2 rfl HR2.out ?_)
          | (at_builtin; refine wpList_app2 rfl (.tmp 19) (.tmp 28) 35 31 rfl Try.underlying35 infoW2 rfl (by decide) w1.heap.size k hlt (by omega) _ (fun i => wcells (fil t l i)) rfl _ _ rfl (by show wcells (fil t l k) = _; rw [HF.out]; rfl) rfl rfl R2.out ?_; intro v' w2 ho hnn hbb))
        go_roundw
        case rel => exact ⟨k + 1, by go_num, hk24, Lib.hid ho, Lib.hid (hnn w1 (by omega) R3.out)⟩
        case measure => simp [intOf]; omega
      · rw [hs] at d0 d1
        have HF : Hid (fil t l k = (true, n)) := Lib.hid (by unfold fil; rw [hs]; rfl)
        have e1 : refS (1, n) = (1, n) := rfl
        rw [e1] at d0 d1
        clear hs hok hrg e1
        go_wp2_with (at_builtin; refine wpList_app2 rfl (.tmp 30) (.tmp 37) 35 31 rfl Try.underlying35 infoW2 rfl (by decide) w1.heap.size k hlt (by omega) _ (fun i => wcells (fil t l i)) rfl _ _ rfl (by show wcells (fil t l k) = _; rw [HF.out]; rfl) rfl rfl R2.out ?_; intro v' w2 ho hnn hbb)
        go_roundw
        case rel => exact ⟨k + 1, by go_num, hk24, Lib.hid ho, Lib.hid (hnn w1 (by omega) R3.out)⟩
        case measure => simp [intOf]; omega
      · rcases ok_cases hok with h | h
        · exact absurd h h1
        · exact absurd h.1 h0
    · obtain rfl : k = 24 := by omega
      go_wp2
      go_ret
      exact ⟨_, rfl, R2.out.el (fun _ => rfl), HN.out.trans R3.out⟩
set_option maxHeartbeats 2000000 in
set_option maxRecDepth 100000 in
theorem sameWords_any (v u : Value) (l : Ws) (w : World) (h : ElAt w v 24 (fun i => wcells (l i))) (hl : ElAt w u 24 (fun i => wcells (l i))) :
    Calls Try.prog 9 #[v, u] w fun e w' => e = .returned (.bool true) ∧ New w w' := by
  obtain ⟨ao, cap, rfl⟩ := h.form
  obtain ⟨bo, dap, rfl⟩ := hl.form
  have HH := Lib.hid h
  have HL := Lib.hid hl
  clear h hl
  go_enter Try.func9, Try.ntmps9
  go_wp2
  go_loopw [5] (fun iv wr => ∃ k : Nat, iv = .int .i64 k ∧ k ≤ 24 ∧ Hid (New w wr)) (fun iv _ => 24 - (intOf iv).toNat)
  case atStart => exact ⟨0, rfl, by omega, Lib.hid (New.refl _)⟩
  case round =>
    obtain ⟨k, rfl, hk, R3⟩ := hrel
    by_cases hk24 : k < 24
    · obtain ⟨b, o, hix, hrg⟩ := HH.out.ix 35 Try.underlying35 sizeWd hk24
      obtain ⟨b2, o2, hix2, hrg2⟩ := HL.out.ix 35 Try.underlying35 sizeWd hk24
      have HR := Lib.hid hrg
      have HR2 := Lib.hid hrg2
      have i24 : (k : Int) < 24 := by omega
      have hq : ∀ w, (binOp .neq 31 (.agg #[.bool (l k).1, .int .i64 (l k).2]) (.agg #[.bool (l k).1, .int .i64 (l k).2])).run Try.prog w = .ok (.bool false) w := fun w => by rw [run_neq_struct, show (10000 : Nat) = 9998 + 2 from rfl, eqIn_word 9998 (l k) (l k) w]; simp
      clear hrg hrg2
      go_wp2_with fail
      have hne := newW_any wr
      refine wp_region_new (New.refl wr) (by kernel_rfl) (by kernel_rfl) ?_
      repeat (first
        | (refine wpQuiet_ldDm rfl (.tmp 19) rfl b o rfl (x := l k) (by rintro w' ⟨y, rfl⟩; exact HR.out _ (R3.out.trans y.property)) ?_; simp only [Act.put, List.setIfInBounds_toArray, List.set_cons_zero, List.set_cons_succ])
        | (refine wpQuiet_ldDm rfl (.tmp 23) rfl b2 o2 rfl (x := l k) (by rintro w' ⟨y, rfl⟩; exact HR2.out _ (R3.out.trans y.property)) ?_; simp only [Act.put, List.setIfInBounds_toArray, List.set_cons_zero, List.set_cons_succ])
        | go_big_quiet_step (first | fail))
      refine wpQuiet_nil ?_
      intro w5 hn5
      go_wp2
      go_roundw
      case rel => exact ⟨k + 1, by go_num, hk24, Lib.hid (R3.out.trans hn5)⟩
      case measure => simp [intOf]; omega
    · obtain rfl : k = 24 := by omega
      go_wp2
      go_ret
      exact ⟨rfl, R3.out⟩
end Go.Proofs.Ythdbehalbcoibaa
