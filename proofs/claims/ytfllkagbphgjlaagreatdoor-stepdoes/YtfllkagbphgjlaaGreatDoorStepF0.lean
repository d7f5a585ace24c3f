/-
  Layer 7's reference: Right, of every state; words that are held against themselves.
-/
import Derived.Test.YtfllkagbphgjlaaGreatDoorStepE
import Derived.Test.YtfllkagbphgjlaaGreatDoorOrders
namespace Go.Proofs.YtfllkagbphgjlaaGreatDoor
open Go.RowKit

theorem sizeWd : ∀ w, (sizeOf 24).run Tryz.prog w = .ok 2 w := Tryz.sizeOf24
set_option maxHeartbeats 4000000 in
set_option maxRecDepth 100000 in
theorem refRight_in (ao : Option Addr) (n cap : Nat) (f : List I) (m : Mc) (a s : Sl) (w : World) (hf : FunAt w (.slice ao n cap) f) (hn : n = f.length) (hh : s.n = m.h.length) (hw : WsAt w a m.l) :
    Calls Tryz.prog 14 #[.slice ao n cap, .agg (refC a s m.p m.q).toArray] w fun e w' => e = .returned (.bool (mcB f m)) ∧ New w w' := by
  have h24 := hw.n
  obtain ⟨l, zs, p, q⟩ := m
  obtain ⟨so, sn, sc⟩ := s
  obtain ⟨ao2, an, ac⟩ := a
  have HF := Lib.hid hf
  have HN := Lib.hid hn
  have HW := Lib.hid hw
  have HH : Hid (sn = zs.length) := Lib.hid hh
  have h24' : an = 24 := h24
  subst h24'
  clear hf hn hh hw h24
  by_cases c1 : (chkF f).2 = 0
  · have q1 : ((chkF f).2 == 0) = true := beq_of c1
    have C1 := Lib.hid c1
    clear c1
    by_cases c2 : p < 0
    · have E := Lib.hid (mc_not (f := f) (s := ⟨l, zs, p, q⟩) (by rintro ⟨_, h, _⟩; simp at h; omega))
      go_enter Tryz.func14, Tryz.ntmps14
      go_wp2_with (first
        | (refine wpList_boxX rfl 40 (.tmp 1) rfl (refC ⟨ao2, 24, ac⟩ ⟨so, sn, sc⟩ p q) rfl ?_; intro w1 g1 hg1 hl1 H1 hn1; have HS := Lib.hid H1; clear H1)
        | (go_at_call 33; refine (rasmRight_any _ f _ (HF.out.new hn1)).mono ?_; rw [q1]; rintro e w2 ⟨rfl, hn2⟩; have HS2 : Hid (HasRf w2 g1 ⟨ao2, 24, ac⟩ ⟨so, sn, sc⟩ p q) := Lib.hid (HasC.new HS.out hn2); have k0 := HasRf.l HS2.out; have k1 := HasRf.hp HS2.out; have k2 := HasRf.at HS2.out; have k3 := HasRf.ask HS2.out))
      go_ret
      exact ⟨right_no E.out, hn1.trans hn2⟩
    · by_cases c3 : (n : Int) ≤ p
      · have E := Lib.hid (mc_not (f := f) (s := ⟨l, zs, p, q⟩) (by rintro ⟨_, _, h, _⟩; have := HN.out; simp at h; omega))
        go_enter Tryz.func14, Tryz.ntmps14
        go_wp2_with (first
          | (refine wpList_boxX rfl 40 (.tmp 1) rfl (refC ⟨ao2, 24, ac⟩ ⟨so, sn, sc⟩ p q) rfl ?_; intro w1 g1 hg1 hl1 H1 hn1; have HS := Lib.hid H1; clear H1)
          | (go_at_call 33; refine (rasmRight_any _ f _ (HF.out.new hn1)).mono ?_; rw [q1]; rintro e w2 ⟨rfl, hn2⟩; have HS2 : Hid (HasRf w2 g1 ⟨ao2, 24, ac⟩ ⟨so, sn, sc⟩ p q) := Lib.hid (HasC.new HS.out hn2); have k0 := HasRf.l HS2.out; have k1 := HasRf.hp HS2.out; have k2 := HasRf.at HS2.out; have k3 := HasRf.ask HS2.out))
        go_ret
        exact ⟨right_no E.out, hn1.trans hn2⟩
      · by_cases c4 : (16 : Int) < (sn : Int)
        · have E := Lib.hid (mc_not (f := f) (s := ⟨l, zs, p, q⟩) (by rintro ⟨_, _, _, h, _⟩; have := HH.out; simp at h; omega))
          go_enter Tryz.func14, Tryz.ntmps14
          go_wp2_with (first
            | (refine wpList_boxX rfl 40 (.tmp 1) rfl (refC ⟨ao2, 24, ac⟩ ⟨so, sn, sc⟩ p q) rfl ?_; intro w1 g1 hg1 hl1 H1 hn1; have HS := Lib.hid H1; clear H1)
            | (go_at_call 33; refine (rasmRight_any _ f _ (HF.out.new hn1)).mono ?_; rw [q1]; rintro e w2 ⟨rfl, hn2⟩; have HS2 : Hid (HasRf w2 g1 ⟨ao2, 24, ac⟩ ⟨so, sn, sc⟩ p q) := Lib.hid (HasC.new HS.out hn2); have k0 := HasRf.l HS2.out; have k1 := HasRf.hp HS2.out; have k2 := HasRf.at HS2.out; have k3 := HasRf.ask HS2.out))
          go_ret
          exact ⟨right_no E.out, hn1.trans hn2⟩
        · by_cases c5 : q < 0
          · have E := Lib.hid (mc_not (f := f) (s := ⟨l, zs, p, q⟩) (by rintro ⟨_, _, _, _, h, _⟩; simp at h; omega))
            go_enter Tryz.func14, Tryz.ntmps14
            go_wp2_with (first
              | (refine wpList_boxX rfl 40 (.tmp 1) rfl (refC ⟨ao2, 24, ac⟩ ⟨so, sn, sc⟩ p q) rfl ?_; intro w1 g1 hg1 hl1 H1 hn1; have HS := Lib.hid H1; clear H1)
              | (go_at_call 33; refine (rasmRight_any _ f _ (HF.out.new hn1)).mono ?_; rw [q1]; rintro e w2 ⟨rfl, hn2⟩; have HS2 : Hid (HasRf w2 g1 ⟨ao2, 24, ac⟩ ⟨so, sn, sc⟩ p q) := Lib.hid (HasC.new HS.out hn2); have k0 := HasRf.l HS2.out; have k1 := HasRf.hp HS2.out; have k2 := HasRf.at HS2.out; have k3 := HasRf.ask HS2.out))
            go_ret
            exact ⟨right_no E.out, hn1.trans hn2⟩
          · go_enter Tryz.func14, Tryz.ntmps14
            go_wp2_with (first
              | (refine wpList_boxX rfl 40 (.tmp 1) rfl (refC ⟨ao2, 24, ac⟩ ⟨so, sn, sc⟩ p q) rfl ?_; intro w1 g1 hg1 hl1 H1 hn1; have HS := Lib.hid H1; clear H1)
              | (go_at_call 33; refine (rasmRight_any _ f _ (HF.out.new hn1)).mono ?_; rw [q1]; rintro e w2 ⟨rfl, hn2⟩; have HS2 : Hid (HasRf w2 g1 ⟨ao2, 24, ac⟩ ⟨so, sn, sc⟩ p q) := Lib.hid (HasC.new HS.out hn2); have k0 := HasRf.l HS2.out; have k1 := HasRf.hp HS2.out; have k2 := HasRf.at HS2.out; have k3 := HasRf.ask HS2.out))
            have HWN : Hid (∀ w', New w2 w' → HasRf w' g1 ⟨ao2, 24, ac⟩ ⟨so, sn, sc⟩ p q) := Lib.hid (fun w' h => HasC.new HS2.out h)
            go_loop [5] (fun kv => ∃ k : Nat, kv = .int .i64 k ∧ k ≤ 24 ∧ Hid (∀ i < k, wdB (l i) = true)) (fun kv => 24 - (intOf kv).toNat)
            case atStart => exact ⟨0, rfl, by omega, Lib.hid (fun i hi => absurd hi (Nat.not_lt_zero _))⟩
            case round =>
              obtain ⟨k, rfl, hk, HO⟩ := hrel
              by_cases hk24 : k < 24
              · obtain ⟨b, ofs, hix, hrg⟩ := ElAt.ix (show ElAt w (.slice ao2 24 ac) 24 (fun i => wcells (l i)) from HW.out) 38 Tryz.underlying38 sizeWd hk24
                have hk24' : (k : Int) < 24 := by omega
                obtain ⟨⟨is, v⟩, hw⟩ : ∃ x : Wd, l k = x := ⟨_, rfl⟩
                have hrg2 := hrg w2 (hn1.trans hn2)
                simp only [hw] at hrg2
                obtain ⟨j1, j2⟩ := range_two (c0 := .bool is) (c1 := .int .i64 v) hrg2
                have HWk := Lib.hid hw
                clear hw hrg hrg2
                by_cases hok : is = false ∧ v ≠ 0
                · obtain ⟨rfl, hv⟩ := hok
                  have qv : (v != 0) = true := by simpa using hv
                  have E := Lib.hid (mc_not (f := f) (s := ⟨l, zs, p, q⟩) (by rintro ⟨_, _, _, _, _, h⟩; have h2 : wdB (l k) = true := words_at h hk24; rw [HWk.out] at h2; simp [wdB] at h2; exact hv h2))
                  clear hv
                  go_wp2
                  go_ret
                  exact ⟨right_no E.out, hn1.trans hn2⟩
                · have hwd : wdB (l k) = true := by
                    rw [HWk.out]
                    cases is with
                    | true => rfl
                    | false => simp [wdB]; by_cases e : v = 0
                               · exact e
                               · exact absurd ⟨rfl, e⟩ hok
                  have HA : Hid (∀ i < k + 1, wdB (l i) = true) := Lib.hid (fun i hi => by
                    by_cases e : i = k
                    · rw [e]; exact hwd
                    · exact HO.out i (by omega))
                  have qv : is = true ∨ (is = false ∧ (v != 0) = false) := by
                    cases is with
                    | true => exact .inl rfl
                    | false => exact .inr ⟨rfl, by simpa using fun e => hok ⟨rfl, e⟩⟩
                  clear hok hwd
                  rcases qv with rfl | ⟨rfl, qv⟩
                  all_goals
                    go_wp2
                    go_round
                    case rel => exact ⟨k + 1, by go_num, hk24, Lib.hid HA.out⟩
                    case measure => simp [intOf]; omega
              · obtain rfl : k = 24 := by omega
                have E : Hid (mcB f ⟨l, zs, p, q⟩ = true) := Lib.hid (mc_iff.mpr ⟨C1.out, by simp; omega, by have := HN.out; simp; omega, by have := HH.out; simp; omega, by simp; omega, words_mk HO.out⟩)
                go_wp2
                go_ret
                exact ⟨right_no E.out, hn1.trans hn2⟩
  · have q1 : ((chkF f).2 == 0) = false := bneq_of c1
    have E := Lib.hid (mc_not (f := f) (s := ⟨l, zs, p, q⟩) (by rintro ⟨h, _⟩; exact c1 h))
    go_enter Tryz.func14, Tryz.ntmps14
    go_wp2_with (first
      | (refine wpList_boxX rfl 40 (.tmp 1) rfl (refC ⟨ao2, 24, ac⟩ ⟨so, sn, sc⟩ p q) rfl ?_; intro w1 g1 hg1 hl1 H1 hn1; have HS := Lib.hid H1; clear H1)
      | (go_at_call 33; refine (rasmRight_any _ f _ (HF.out.new hn1)).mono ?_; rw [q1]; rintro e w2 ⟨rfl, hn2⟩; have HS2 : Hid (HasRf w2 g1 ⟨ao2, 24, ac⟩ ⟨so, sn, sc⟩ p q) := Lib.hid (HasC.new HS.out hn2); have k0 := HasRf.l HS2.out; have k1 := HasRf.hp HS2.out; have k2 := HasRf.at HS2.out; have k3 := HasRf.ask HS2.out))
    go_ret
    exact ⟨right_no E.out, hn1.trans hn2⟩
theorem refRight_any (v : Value) (f : List I) (m : Mc) (a s : Sl) (w : World) (hf : FunAt w v f) (hh : Hp w (.slice s.ao s.n s.c) m.h) (hw : WsAt w a m.l) :
    Calls Tryz.prog 14 #[v, .agg (refC a s m.p m.q).toArray] w fun e w' => e = .returned (.bool (mcB f m)) ∧ New w w' := by
  obtain ⟨ao, cap, rfl⟩ := hf.form
  exact refRight_in ao _ cap f m a s w hf rfl hh.len hw

/-! Same. -/
theorem run_neqW (x : Wd) (w : World) : (binOp .neq 24 (.agg #[.bool x.1, .int .i64 x.2]) (.agg #[.bool x.1, .int .i64 x.2])).run Tryz.prog w = .ok (.bool false) w := by
  obtain ⟨b, n⟩ := x
  go_simp
section
variable {ops : Array Oper} {C : World → Prop} {Q : Act → Prop} {op : Oper} {rest : List Oper} {act : Act}
theorem wpQuiet_ldWm (hw : Region.wanted op (yielded ops act.tmps) = true) (p : Operand) (ho : op.op = .load 24 p)
    (b o : Nat) (hx : act.eval p = .pointer (some ⟨b, o, none⟩)) {x : Wd} (h : ∀ w, C w → w.rangeAt b o (wcells x))
    (hk : wpQuiet Tryz.prog ops C Q rest (act.put op.dst (.agg #[.bool x.1, .int .i64 x.2]))) : wpQuiet Tryz.prog ops C Q (op :: rest) act :=
  wpQuiet_valG hw _ (fun w hw => by
    unfold execOp
    have := run_loadAt_mid (P := Tryz.prog) w b o 24 (wcells x) _ (h w hw) Tryz.underlying24 rfl infoWd
    simp only [ho, hx, this, Sem.run_bind, Sem.run_pure, Result.andThen_ok]
    rfl) hk
end
end Go.Proofs.YtfllkagbphgjlaaGreatDoor
