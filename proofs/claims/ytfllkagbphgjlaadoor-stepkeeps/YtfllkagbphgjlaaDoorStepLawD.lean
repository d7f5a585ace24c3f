/-
  'StepKeeps': words that an instruction neither moves nor sets stay as they are; and what it does not need makes no difference: true, for every input.
-/
import Derived.Test.YtfllkagbphgjlaaDoorStepK
import Derived.Test.YtfllkagbphgjlaaDoorStepL
namespace Go.Proofs.YtfllkagbphgjlaaDoor
open Go.RowKit

theorem wpList_is {P : Program} {ops : Array Oper} {Q : Exit → Act → World → Prop} {op : Oper} {rest : List Oper} {act : Act} {w : World} (h : wpList P ops Q (op :: rest) act w) : wpList P ops Q (op :: rest) act w := h
theorem stp_lenD {f : List I} {s : Mc} {az : List Int} (h : mcB f s = true) : (stp f s az).s.h.length = s.h.length := by
  rcases stp_heap (az := az) h with e | ⟨_, k, v, e⟩
  · rw [e]
  · rw [e]; exact List.length_set
section
variable {ops : Array Oper} {C : World → Prop} {Q : Act → Prop} {op : Oper} {rest : List Oper} {act : Act}
/-- The load of a word of a state, quiet. -/
theorem wpQuiet_ldSw (hw : Region.wanted op (yielded ops act.tmps) = true) (a : Operand) (ho : op.op = .load 24 a) (g k : Nat) (hk : k < 24) (hx : act.eval a = .pointer (some ⟨g, k * 2, none⟩)) {l : Ws} {s : Sl} {p q : Int} (h : ∀ w, C w → HasS w g l s p q)
    (hr : wpQuiet Tryd.prog ops C Q rest (act.put op.dst (.agg #[.bool (l k).1, .int .i64 (l k).2]))) : wpQuiet Tryd.prog ops C Q (op :: rest) act :=
  wpQuiet_ldWm hw a ho g (k * 2) hx (x := l k) (fun w hw => by rw [Nat.mul_comm]; exact HasS.word (h w hw) hk) hr
theorem wpQuiet_ldDw (hw : Region.wanted op (yielded ops act.tmps) = true) (a : Operand) (ho : op.op = .load 24 a) (g : Nat) (hx : act.eval a = .pointer (some ⟨g, 0, none⟩)) {y : Wd} (h : ∀ w, C w → HasD w g y)
    (hr : wpQuiet Tryd.prog ops C Q rest (act.put op.dst (.agg #[.bool y.1, .int .i64 y.2]))) : wpQuiet Tryd.prog ops C Q (op :: rest) act :=
  wpQuiet_ldWm hw a ho g 0 hx (x := y) (fun w hw => (h w hw).all) hr
end
set_option maxHeartbeats 16000000 in
set_option maxRecDepth 100000 in
theorem stepKeeps_walk (v : Value) (f : List I) (l : Ws) (s : Sl) (p q : Int) (zs : List Int) (va : Value) (az : List Int) (lk : Int) (y : Wd) (w : World) (hf : FunAt w v f) (hp : Hp w (.slice s.ao s.n s.c) zs) (ha : Hp w va az) (hl : Laid w) :
    Calls Tryd.prog 5 #[v, .agg (cellsS l s p q).toArray, va, .int .i64 lk, .agg #[.bool y.1, .int .i64 y.2]] w fun e w' => e = .returned (.bool true) ∧ New w w' := by
  obtain ⟨ao, fc, rfl⟩ := hf.form
  obtain ⟨bo, bc, rfl⟩ := ha.form
  have HL := Lib.hid hl
  have HF := Lib.hid hf
  have HP := Lib.hid hp
  have HA := Lib.hid ha
  have TX : Hid True := Lib.hid trivial
  have TO : Hid True := Lib.hid trivial
  clear hl hf hp ha
  have TD1 : Hid True := Lib.hid trivial
  cases hg : greatB f.length zs.length az.length with
  | true =>
    have HG := Lib.hid hg
    go_enter Tryd.func5, Tryd.ntmps5
    have Tk1 : Hid True := Lib.hid trivial
    have Tk2 : Hid True := Lib.hid trivial
    have Tk3 : Hid True := Lib.hid trivial
    go_wp2_with (first
      | (go_at_call 7; refine (great_is HN.out (HF.out.new HN.out) (HP.out.new HN.out) (HA.out.new HN.out) HG.out).mono ?_; rintro e wx ⟨rfl, hn⟩; replace HS : Hid (HasS wx gs l s p q) := Lib.hid (HasC.new HS.out hn); replace HWd : Hid (HasD wx gw y) := Lib.hid (HasC.new HWd.out hn); replace HN := Lib.hid (HN.out.trans hn); clear hn)
      | (go_at_call 8; refine (knows_from _ HL.out HN.out).mono ?_; rintro e wk ⟨rfl, hnk⟩)
      | (clear Tk1; refine wpList_boxX rfl 28 (.tmp 1) rfl (cellsS l s p q) rfl ?_; intro wx gs hgs hls H1 hn1; have HS : Hid (HasS wx gs l s p q) := Lib.hid H1; have HN := Lib.hid hn1; clear H1 hn1 hls)
      | (clear Tk2; refine wpList_boxX rfl 24 (.tmp 4) rfl (wcells y) rfl ?_; intro wx gw hgw hlw H1 hn; have HWd : Hid (HasD wx gw y) := Lib.hid H1; replace HS : Hid (HasS wx gs l s p q) := Lib.hid (HasC.new HS.out hn); replace HN := Lib.hid (HN.out.trans hn); clear hn H1 hlw)
      | (clear Tk3; refine wpList_ldSG rfl (.tmp 6) rfl gs rfl HS.out ?_))
    go_ret
    exact ⟨rfl, hnk⟩
  | false =>
    have HG := Lib.hid hg
    have hng := not_great hg
    have hal : az.length ≤ 100000 := by omega
    have hz1000 : zs.length ≤ 1000 := by omega
    clear hg hng
    cases hm : mcB f ⟨l, zs, p, q⟩ with
    | false =>
      have HM := Lib.hid hm
      clear hm
      go_enter Tryd.func5, Tryd.ntmps5
      have Tk1 : Hid True := Lib.hid trivial
      have Tk2 : Hid True := Lib.hid trivial
      have Tk3 : Hid True := Lib.hid trivial
      have Tk4 : Hid True := Lib.hid trivial
      go_wp2_with (first
        | (go_at_call 7; refine (great_is HN.out (HF.out.new HN.out) (HP.out.new HN.out) (HA.out.new HN.out) HG.out).mono ?_; rintro e wx ⟨rfl, hn⟩; replace HS : Hid (HasS wx gs l s p q) := Lib.hid (HasC.new HS.out hn); replace HWd : Hid (HasD wx gw y) := Lib.hid (HasC.new HWd.out hn); replace HN := Lib.hid (HN.out.trans hn); clear hn)
        | (go_at_call 11; refine (as_any l s p q _).mono ?_; rintro e wx ⟨as1, rfl, ha, hn⟩; have HAs := Lib.hid ha; clear ha; replace HS : Hid (HasS wx gs l s p q) := Lib.hid (HasC.new HS.out hn); replace HWd : Hid (HasD wx gw y) := Lib.hid (HasC.new HWd.out hn); replace HN := Lib.hid (HN.out.trans hn); clear hn)
        | (go_at_call 13; refine (refRight_any _ f ⟨l, zs, p, q⟩ as1 s _ (HF.out.new HN.out) (HP.out.new HN.out) HAs.out).mono ?_; rw [HM.out]; rintro e wx ⟨rfl, hn⟩; clear HAs; replace HS : Hid (HasS wx gs l s p q) := Lib.hid (HasC.new HS.out hn); replace HWd : Hid (HasD wx gw y) := Lib.hid (HasC.new HWd.out hn); replace HN := Lib.hid (HN.out.trans hn); clear hn; have cp := HasS.at HS.out; have w0 := HasD.is HWd.out; have w1 := HasD.num HWd.out)
        | (go_at_call 8; refine (knows_from _ HL.out HN.out).mono ?_; rintro e wk ⟨rfl, hnk⟩)
        | (clear Tk1; refine wpList_boxX rfl 28 (.tmp 1) rfl (cellsS l s p q) rfl ?_; intro wx gs hgs hls H1 hn1; have HS : Hid (HasS wx gs l s p q) := Lib.hid H1; have HN := Lib.hid hn1; clear H1 hn1 hls)
        | (clear Tk2; refine wpList_boxX rfl 24 (.tmp 4) rfl (wcells y) rfl ?_; intro wx gw hgw hlw H1 hn; have HWd : Hid (HasD wx gw y) := Lib.hid H1; replace HS : Hid (HasS wx gs l s p q) := Lib.hid (HasC.new HS.out hn); replace HN := Lib.hid (HN.out.trans hn); clear hn H1 hlw)
        | (clear Tk3; refine wpList_ldSG rfl (.tmp 6) rfl gs rfl HS.out ?_)
        | (clear Tk4; refine wpList_ldSG rfl (.tmp 6) rfl gs rfl HS.out ?_))
      go_ret
      exact ⟨rfl, hnk⟩
    | true =>
      have HM := Lib.hid hm
      by_cases c1 : lk < 0
      · have d1 : decide (lk < 0) = true := decide_eq_true c1
        clear hm c1
        go_enter Tryd.func5, Tryd.ntmps5
        have Tk1 : Hid True := Lib.hid trivial
        have Tk2 : Hid True := Lib.hid trivial
        have Tk3 : Hid True := Lib.hid trivial
        have Tk4 : Hid True := Lib.hid trivial
        go_wp2_with (first
          | (go_at_call 7; refine (great_is HN.out (HF.out.new HN.out) (HP.out.new HN.out) (HA.out.new HN.out) HG.out).mono ?_; rintro e wx ⟨rfl, hn⟩; replace HS : Hid (HasS wx gs l s p q) := Lib.hid (HasC.new HS.out hn); replace HWd : Hid (HasD wx gw y) := Lib.hid (HasC.new HWd.out hn); replace HN := Lib.hid (HN.out.trans hn); clear hn)
          | (go_at_call 11; refine (as_any l s p q _).mono ?_; rintro e wx ⟨as1, rfl, ha, hn⟩; have HAs := Lib.hid ha; clear ha; replace HS : Hid (HasS wx gs l s p q) := Lib.hid (HasC.new HS.out hn); replace HWd : Hid (HasD wx gw y) := Lib.hid (HasC.new HWd.out hn); replace HN := Lib.hid (HN.out.trans hn); clear hn)
          | (go_at_call 13; refine (refRight_any _ f ⟨l, zs, p, q⟩ as1 s _ (HF.out.new HN.out) (HP.out.new HN.out) HAs.out).mono ?_; rw [HM.out]; rintro e wx ⟨rfl, hn⟩; clear HAs; replace HS : Hid (HasS wx gs l s p q) := Lib.hid (HasC.new HS.out hn); replace HWd : Hid (HasD wx gw y) := Lib.hid (HasC.new HWd.out hn); replace HN := Lib.hid (HN.out.trans hn); clear hn; have cp := HasS.at HS.out; have w0 := HasD.is HWd.out; have w1 := HasD.num HWd.out)
          | (go_at_call 8; refine (knows_from _ HL.out HN.out).mono ?_; rintro e wk ⟨rfl, hnk⟩)
          | (clear Tk1; refine wpList_boxX rfl 28 (.tmp 1) rfl (cellsS l s p q) rfl ?_; intro wx gs hgs hls H1 hn1; have HS : Hid (HasS wx gs l s p q) := Lib.hid H1; have HN := Lib.hid hn1; clear H1 hn1 hls)
          | (clear Tk2; refine wpList_boxX rfl 24 (.tmp 4) rfl (wcells y) rfl ?_; intro wx gw hgw hlw H1 hn; have HWd : Hid (HasD wx gw y) := Lib.hid H1; replace HS : Hid (HasS wx gs l s p q) := Lib.hid (HasC.new HS.out hn); replace HN := Lib.hid (HN.out.trans hn); clear hn H1 hlw)
          | (clear Tk3; refine wpList_ldSG rfl (.tmp 6) rfl gs rfl HS.out ?_)
          | (clear Tk4; refine wpList_ldSG rfl (.tmp 6) rfl gs rfl HS.out ?_))
        go_ret
        exact ⟨rfl, hnk⟩
      have d1 : decide (lk < 0) = false := decide_eq_false c1
      by_cases c2 : 23 < lk
      · have d2 : decide (23 < lk) = true := decide_eq_true c2
        clear hm c1 c2
        go_enter Tryd.func5, Tryd.ntmps5
        have Tk1 : Hid True := Lib.hid trivial
        have Tk2 : Hid True := Lib.hid trivial
        have Tk3 : Hid True := Lib.hid trivial
        have Tk4 : Hid True := Lib.hid trivial
        go_wp2_with (first
          | (go_at_call 7; refine (great_is HN.out (HF.out.new HN.out) (HP.out.new HN.out) (HA.out.new HN.out) HG.out).mono ?_; rintro e wx ⟨rfl, hn⟩; replace HS : Hid (HasS wx gs l s p q) := Lib.hid (HasC.new HS.out hn); replace HWd : Hid (HasD wx gw y) := Lib.hid (HasC.new HWd.out hn); replace HN := Lib.hid (HN.out.trans hn); clear hn)
          | (go_at_call 11; refine (as_any l s p q _).mono ?_; rintro e wx ⟨as1, rfl, ha, hn⟩; have HAs := Lib.hid ha; clear ha; replace HS : Hid (HasS wx gs l s p q) := Lib.hid (HasC.new HS.out hn); replace HWd : Hid (HasD wx gw y) := Lib.hid (HasC.new HWd.out hn); replace HN := Lib.hid (HN.out.trans hn); clear hn)
          | (go_at_call 13; refine (refRight_any _ f ⟨l, zs, p, q⟩ as1 s _ (HF.out.new HN.out) (HP.out.new HN.out) HAs.out).mono ?_; rw [HM.out]; rintro e wx ⟨rfl, hn⟩; clear HAs; replace HS : Hid (HasS wx gs l s p q) := Lib.hid (HasC.new HS.out hn); replace HWd : Hid (HasD wx gw y) := Lib.hid (HasC.new HWd.out hn); replace HN := Lib.hid (HN.out.trans hn); clear hn; have cp := HasS.at HS.out; have w0 := HasD.is HWd.out; have w1 := HasD.num HWd.out)
          | (go_at_call 8; refine (knows_from _ HL.out HN.out).mono ?_; rintro e wk ⟨rfl, hnk⟩)
          | (clear Tk1; refine wpList_boxX rfl 28 (.tmp 1) rfl (cellsS l s p q) rfl ?_; intro wx gs hgs hls H1 hn1; have HS : Hid (HasS wx gs l s p q) := Lib.hid H1; have HN := Lib.hid hn1; clear H1 hn1 hls)
          | (clear Tk2; refine wpList_boxX rfl 24 (.tmp 4) rfl (wcells y) rfl ?_; intro wx gw hgw hlw H1 hn; have HWd : Hid (HasD wx gw y) := Lib.hid H1; replace HS : Hid (HasS wx gs l s p q) := Lib.hid (HasC.new HS.out hn); replace HN := Lib.hid (HN.out.trans hn); clear hn H1 hlw)
          | (clear Tk3; refine wpList_ldSG rfl (.tmp 6) rfl gs rfl HS.out ?_)
          | (clear Tk4; refine wpList_ldSG rfl (.tmp 6) rfl gs rfl HS.out ?_))
        go_ret
        exact ⟨rfl, hnk⟩
      have d2 : decide (23 < lk) = false := decide_eq_false c2
      obtain ⟨k, rfl⟩ : ∃ k : Nat, lk = k := ⟨lk.toNat, by omega⟩
      have hk24 : k < 24 := by omega
      have hk24' : (k : Int) < 24 := by omega
      clear c1 c2
      obtain ⟨yi, yv⟩ := y
      by_cases c3 : yi = false ∧ yv ≠ 0
      · obtain ⟨rfl, hv⟩ := c3
        have qv : (yv != 0) = true := by simpa using hv
        clear hm hv
        go_enter Tryd.func5, Tryd.ntmps5
        have Tk1 : Hid True := Lib.hid trivial
        have Tk2 : Hid True := Lib.hid trivial
        have Tk3 : Hid True := Lib.hid trivial
        have Tk4 : Hid True := Lib.hid trivial
        go_wp2_with (first
          | (go_at_call 7; refine (great_is HN.out (HF.out.new HN.out) (HP.out.new HN.out) (HA.out.new HN.out) HG.out).mono ?_; rintro e wx ⟨rfl, hn⟩; replace HS : Hid (HasS wx gs l s p q) := Lib.hid (HasC.new HS.out hn); replace HWd : Hid (HasD wx gw (false, yv)) := Lib.hid (HasC.new HWd.out hn); replace HN := Lib.hid (HN.out.trans hn); clear hn)
          | (go_at_call 11; refine (as_any l s p q _).mono ?_; rintro e wx ⟨as1, rfl, ha, hn⟩; have HAs := Lib.hid ha; clear ha; replace HS : Hid (HasS wx gs l s p q) := Lib.hid (HasC.new HS.out hn); replace HWd : Hid (HasD wx gw (false, yv)) := Lib.hid (HasC.new HWd.out hn); replace HN := Lib.hid (HN.out.trans hn); clear hn)
          | (go_at_call 13; refine (refRight_any _ f ⟨l, zs, p, q⟩ as1 s _ (HF.out.new HN.out) (HP.out.new HN.out) HAs.out).mono ?_; rw [HM.out]; rintro e wx ⟨rfl, hn⟩; clear HAs; replace HS : Hid (HasS wx gs l s p q) := Lib.hid (HasC.new HS.out hn); replace HWd : Hid (HasD wx gw (false, yv)) := Lib.hid (HasC.new HWd.out hn); replace HN := Lib.hid (HN.out.trans hn); clear hn; have cp := HasS.at HS.out; have w0 := HasD.is HWd.out; have w1 := HasD.num HWd.out)
          | (go_at_call 8; refine (knows_from _ HL.out HN.out).mono ?_; rintro e wk ⟨rfl, hnk⟩)
          | (clear Tk1; refine wpList_boxX rfl 28 (.tmp 1) rfl (cellsS l s p q) rfl ?_; intro wx gs hgs hls H1 hn1; have HS : Hid (HasS wx gs l s p q) := Lib.hid H1; have HN := Lib.hid hn1; clear H1 hn1 hls)
          | (clear Tk2; refine wpList_boxX rfl 24 (.tmp 4) rfl (wcells (false, yv)) rfl ?_; intro wx gw hgw hlw H1 hn; have HWd : Hid (HasD wx gw (false, yv)) := Lib.hid H1; replace HS : Hid (HasS wx gs l s p q) := Lib.hid (HasC.new HS.out hn); replace HN := Lib.hid (HN.out.trans hn); clear hn H1 hlw)
          | (clear Tk3; refine wpList_ldSG rfl (.tmp 6) rfl gs rfl HS.out ?_)
          | (clear Tk4; refine wpList_ldSG rfl (.tmp 6) rfl gs rfl HS.out ?_))
        go_ret
        exact ⟨rfl, hnk⟩
      have hyw : wdB (yi, yv) = true := by
        cases yi with
        | true => rfl
        | false => simp [wdB]; by_cases e : yv = 0
                   · exact e
                   · exact absurd ⟨rfl, e⟩ c3
      have qv : yi = true ∨ (yi = false ∧ (yv != 0) = false) := by
        cases yi with
        | true => exact .inl rfl
        | false => exact .inr ⟨rfl, by simpa using fun e => c3 ⟨rfl, e⟩⟩
      clear c3
      obtain ⟨fb, fo, x, ex, hix, hrg⟩ := FunAt.ix HF.out (i := p.toNat) (by have h1 := (mc_iff.mp HM.out).2.1; have h2 := (mc_iff.mp HM.out).2.2.1; simp only at h1 h2; omega)
      rw [show ((p.toNat : Nat) : Int) = p from by have h1 := (mc_iff.mp HM.out).2.1; simp only at h1; omega] at hix
      have hxe : insA f p = x := by
        unfold insA
        rw [List.getD_eq_getElem?_getD, ex]
        rfl
      have HX0 := Lib.hid hrg
      have HXE := Lib.hid hxe
      clear hrg hxe ex
      obtain ⟨⟨⟨l2, z2, p2, q2⟩, es, how, val, oh⟩, HR⟩ : ∃ r, Hid (stp f ⟨l, zs, p, q⟩ az = r) := ⟨_, Lib.hid rfl⟩
      have ht : x.d = k ∨ (x.d ≠ k ∧ x.a = k) ∨ (x.d ≠ k ∧ x.a ≠ k ∧ x.b = k) ∨ (x.d ≠ k ∧ x.a ≠ k ∧ x.b ≠ k) := by
        by_cases h1 : x.d = k
        · exact .inl h1
        · by_cases h2 : x.a = k
          · exact .inr (.inl ⟨h1, h2⟩)
          · by_cases h3 : x.b = k
            · exact .inr (.inr (.inl ⟨h1, h2, h3⟩))
            · exact .inr (.inr (.inr ⟨h1, h2, h3⟩))
      rcases ht with h1 | ⟨h1, h2⟩ | ⟨h1, h2, h3⟩ | ⟨h1, h2, h3⟩
      · clear hm
        have b1 : (x.d == (k : Int)) = true := beq_of h1
        clear h1
        rcases qv with rfl | ⟨rfl, qv⟩
        all_goals
          go_enter Tryd.func5, Tryd.ntmps5
          have Tk1 : Hid True := Lib.hid trivial
          have Tk2 : Hid True := Lib.hid trivial
          have Tk3 : Hid True := Lib.hid trivial
          have Tk4 : Hid True := Lib.hid trivial
          have Tk5 : Hid True := Lib.hid trivial
          have Tk6 : Hid True := Lib.hid trivial
          have Tk7 : Hid True := Lib.hid trivial
          have Tk8 : Hid True := Lib.hid trivial
          have Tk9 : Hid True := Lib.hid trivial
          have Tk10 : Hid True := Lib.hid trivial
          go_wp2_with (first
            | (go_at_call 7; refine (great_is HN.out (HF.out.new HN.out) (HP.out.new HN.out) (HA.out.new HN.out) HG.out).mono ?_; rintro e wx ⟨rfl, hn⟩; replace HS : Hid (HasS wx gs l s p q) := Lib.hid (HasC.new HS.out hn); replace HWd : Hid (HasD wx gw (_, yv)) := Lib.hid (HasC.new HWd.out hn); replace HN := Lib.hid (HN.out.trans hn); clear hn)
            | (go_at_call 11; refine (as_any l s p q _).mono ?_; rintro e wx ⟨as1, rfl, ha, hn⟩; have HAs := Lib.hid ha; clear ha; replace HS : Hid (HasS wx gs l s p q) := Lib.hid (HasC.new HS.out hn); replace HWd : Hid (HasD wx gw (_, yv)) := Lib.hid (HasC.new HWd.out hn); replace HN := Lib.hid (HN.out.trans hn); clear hn)
            | (go_at_call 13; refine (refRight_any _ f ⟨l, zs, p, q⟩ as1 s _ (HF.out.new HN.out) (HP.out.new HN.out) HAs.out).mono ?_; rw [HM.out]; rintro e wx ⟨rfl, hn⟩; clear HAs; replace HS : Hid (HasS wx gs l s p q) := Lib.hid (HasC.new HS.out hn); replace HWd : Hid (HasD wx gw (_, yv)) := Lib.hid (HasC.new HWd.out hn); replace HN := Lib.hid (HN.out.trans hn); clear hn; have cp := HasS.at HS.out; have w0 := HasD.is HWd.out; have w1 := HasD.num HWd.out)
            | (clear TD1; go_at_call 9; refine (stepDo_is HL.out HN.out (HF.out.new HN.out) (HP.out.new HN.out) (HA.out.new HN.out) hal HM.out HR.out).mono ?_; rintro e wx ⟨s2, ve, so, rfl, h1, h2, h3, hn⟩; obtain ⟨eo, ec, e1⟩ := h2.form; subst e1; have HH2 := Lib.hid h1; have HE2 := Lib.hid h2; have HO2 := Lib.hid h3; clear h1 h2 h3; replace HS : Hid (HasS wx gs l s p q) := Lib.hid (HasC.new HS.out hn); replace HWd : Hid (HasD wx gw (_, yv)) := Lib.hid (HasC.new HWd.out hn); replace HN := Lib.hid (HN.out.trans hn); clear hn)
            | (go_at_call 8; refine (knows_from _ HL.out HN.out).mono ?_; rintro e wk ⟨rfl, hnk⟩)
            | (clear Tk1; refine wpList_boxX rfl 28 (.tmp 1) rfl (cellsS l s p q) rfl ?_; intro wx gs hgs hls H1 hn1; have HS : Hid (HasS wx gs l s p q) := Lib.hid H1; have HN := Lib.hid hn1; clear H1 hn1 hls)
            | (clear Tk2; refine wpList_boxX rfl 24 (.tmp 4) rfl (wcells (_, yv)) rfl ?_; intro wx gw hgw hlw H1 hn; have HWd : Hid (HasD wx gw (_, yv)) := Lib.hid H1; replace HS : Hid (HasS wx gs l s p q) := Lib.hid (HasC.new HS.out hn); replace HN := Lib.hid (HN.out.trans hn); clear hn H1 hlw)
            | (clear Tk3; refine wpList_ldSG rfl (.tmp 6) rfl gs rfl HS.out ?_)
            | (clear Tk4; refine wpList_ldSG rfl (.tmp 6) rfl gs rfl HS.out ?_)
            | (clear Tk5; refine wpList_ldSG rfl (.tmp 6) rfl gs rfl HS.out ?_)
            | (clear Tk6; refine wpList_ldM rfl 46 (.tmp 55) rfl fb fo rfl (cells6 x) _ (HX0.out _ HN.out) Tryd.underlying46 rfl (by rw [cells6_len]; exact infoI) ?_)
            | (clear Tk7; refine wpList_alX rfl 46 rfl _ Tryd.zeroValue46 [.int .i64 0, .int .i64 0, .int .i64 0, .int .i64 0, .int .i64 0, .int .i64 0] rfl ?_; intro wy g11 hg11 hl11 H1 hn1; have I11 := Lib.hid H1; clear H1)
            | (clear Tk8; refine wpList_stX rfl rfl 46 (.tmp 11) (.tmp 56) rfl g11 0 rfl _ rfl I11.out (cells6 x) rfl (by simp [cells6]) (by simp [cells6, Value.oneCell']) (by rw [cells6_len]; exact infoI) (cs' := cells6 x) (by simp [cells6]) ?_; intro wz H1 k1; have hn : New wx wz := k1.below wx hg11 hn1; have I12 : Has wz g11 x := H1; obtain ⟨i0, i1, i2, i3⟩ := I12.cell; replace HS : Hid (HasS wz gs l s p q) := Lib.hid (HasC.new HS.out hn); replace HWd : Hid (HasD wz gw (_, yv)) := Lib.hid (HasC.new HWd.out hn); replace HN := Lib.hid (HN.out.trans hn); clear hn; clear H1 k1 hn1 hg11 hl11 I11 I12)
            | (clear TX; refine wpList_alX rfl 28 rfl _ zeroS_run _ rfl ?_; intro wy gx hgx hlx H1 hn1; have HX : Hid (HasS wy gx noWs nilS 0 0) := Lib.hid H1; have dsx : gs ≠ gx := Nat.ne_of_lt (Nat.lt_of_lt_of_le (HasC.lt HS.out) hgx); clear H1 hlx)
            | (clear TO; refine wpList_alX rfl 33 rfl _ zeroO_run _ rfl ?_; intro wz go hgo hlo H1 hn2; have HO : Hid (HasO wz go 0 0 nilS) := Lib.hid H1; have dxo : gx ≠ go := Nat.ne_of_lt (Nat.lt_of_lt_of_le (HasC.lt HX.out) hgo); replace HX : Hid (HasS wz gx noWs nilS 0 0) := Lib.hid (HasC.new HX.out hn2); clear H1 hlo)
            | (clear Tk9; refine wpList_stS rfl rfl (.tmp 13) (.tmp 78) rfl gx rfl (l := l2) (s := s2) (p := p2) (q := q2) rfl HX.out ?_; intro wu H1 k1; replace HX : Hid (HasS wu gx l2 s2 p2 q2) := Lib.hid H1; replace HO : Hid (HasO wu go 0 0 nilS) := Lib.hid (HasC.kept HO.out k1 (Ne.symm dxo)); have hn3 : New wx wu := k1.below wx hgx (hn1.trans hn2); clear H1 k1)
            | (clear Tk10; refine wpList_stO rfl rfl (.tmp 15) (.tmp 80) rfl go rfl (how) (val) so rfl HO.out ?_; intro wv H1 k1; have hn : New wx wv := k1.below wx (Nat.le_trans hn1.size hgo) hn3; replace HO : Hid (HasO wv go (how) (val) so) := Lib.hid H1; replace HX : Hid (HasS wv gx l2 s2 p2 q2) := Lib.hid (HasC.kept HX.out k1 dxo); replace HH2 := Lib.hid (HH2.out.new hn); replace HE2 := Lib.hid (HE2.out.new hn); replace HO2 := Lib.hid (HO2.out.new hn); clear H1 k1 hn1 hn2 hn3 hgx hgo; replace HS : Hid (HasS wv gs l s p q) := Lib.hid (HasC.new HS.out hn); replace HWd : Hid (HasD wv gw (_, yv)) := Lib.hid (HasC.new HWd.out hn); replace HN := Lib.hid (HN.out.trans hn); clear hn; have x1 := HasS.hp HX.out; have x2 := HasS.at HX.out; have x3 := HasS.ask HX.out; have s1 := HasS.hp HS.out; have s3 := HasS.ask HS.out; have o1 := HasO.how HO.out; have o2 := HasO.val HO.out; have o3 := HasO.hp HO.out))
          go_ret
          exact ⟨rfl, hnk⟩
      · clear hm
        have b1 : (x.d == (k : Int)) = false := bneq_of h1
        have b2 : (x.a == (k : Int)) = true := beq_of h2
        clear h1 h2
        rcases qv with rfl | ⟨rfl, qv⟩
        all_goals
          go_enter Tryd.func5, Tryd.ntmps5
          have Tk1 : Hid True := Lib.hid trivial
          have Tk2 : Hid True := Lib.hid trivial
          have Tk3 : Hid True := Lib.hid trivial
          have Tk4 : Hid True := Lib.hid trivial
          have Tk5 : Hid True := Lib.hid trivial
          have Tk6 : Hid True := Lib.hid trivial
          have Tk7 : Hid True := Lib.hid trivial
          have Tk8 : Hid True := Lib.hid trivial
          have Tk9 : Hid True := Lib.hid trivial
          have Tk10 : Hid True := Lib.hid trivial
          go_wp2_with (first
            | (go_at_call 7; refine (great_is HN.out (HF.out.new HN.out) (HP.out.new HN.out) (HA.out.new HN.out) HG.out).mono ?_; rintro e wx ⟨rfl, hn⟩; replace HS : Hid (HasS wx gs l s p q) := Lib.hid (HasC.new HS.out hn); replace HWd : Hid (HasD wx gw (_, yv)) := Lib.hid (HasC.new HWd.out hn); replace HN := Lib.hid (HN.out.trans hn); clear hn)
            | (go_at_call 11; refine (as_any l s p q _).mono ?_; rintro e wx ⟨as1, rfl, ha, hn⟩; have HAs := Lib.hid ha; clear ha; replace HS : Hid (HasS wx gs l s p q) := Lib.hid (HasC.new HS.out hn); replace HWd : Hid (HasD wx gw (_, yv)) := Lib.hid (HasC.new HWd.out hn); replace HN := Lib.hid (HN.out.trans hn); clear hn)
            | (go_at_call 13; refine (refRight_any _ f ⟨l, zs, p, q⟩ as1 s _ (HF.out.new HN.out) (HP.out.new HN.out) HAs.out).mono ?_; rw [HM.out]; rintro e wx ⟨rfl, hn⟩; clear HAs; replace HS : Hid (HasS wx gs l s p q) := Lib.hid (HasC.new HS.out hn); replace HWd : Hid (HasD wx gw (_, yv)) := Lib.hid (HasC.new HWd.out hn); replace HN := Lib.hid (HN.out.trans hn); clear hn; have cp := HasS.at HS.out; have w0 := HasD.is HWd.out; have w1 := HasD.num HWd.out)
            | (clear TD1; go_at_call 9; refine (stepDo_is HL.out HN.out (HF.out.new HN.out) (HP.out.new HN.out) (HA.out.new HN.out) hal HM.out HR.out).mono ?_; rintro e wx ⟨s2, ve, so, rfl, h1, h2, h3, hn⟩; obtain ⟨eo, ec, e1⟩ := h2.form; subst e1; have HH2 := Lib.hid h1; have HE2 := Lib.hid h2; have HO2 := Lib.hid h3; clear h1 h2 h3; replace HS : Hid (HasS wx gs l s p q) := Lib.hid (HasC.new HS.out hn); replace HWd : Hid (HasD wx gw (_, yv)) := Lib.hid (HasC.new HWd.out hn); replace HN := Lib.hid (HN.out.trans hn); clear hn)
            | (go_at_call 8; refine (knows_from _ HL.out HN.out).mono ?_; rintro e wk ⟨rfl, hnk⟩)
            | (clear Tk1; refine wpList_boxX rfl 28 (.tmp 1) rfl (cellsS l s p q) rfl ?_; intro wx gs hgs hls H1 hn1; have HS : Hid (HasS wx gs l s p q) := Lib.hid H1; have HN := Lib.hid hn1; clear H1 hn1 hls)
            | (clear Tk2; refine wpList_boxX rfl 24 (.tmp 4) rfl (wcells (_, yv)) rfl ?_; intro wx gw hgw hlw H1 hn; have HWd : Hid (HasD wx gw (_, yv)) := Lib.hid H1; replace HS : Hid (HasS wx gs l s p q) := Lib.hid (HasC.new HS.out hn); replace HN := Lib.hid (HN.out.trans hn); clear hn H1 hlw)
            | (clear Tk3; refine wpList_ldSG rfl (.tmp 6) rfl gs rfl HS.out ?_)
            | (clear Tk4; refine wpList_ldSG rfl (.tmp 6) rfl gs rfl HS.out ?_)
            | (clear Tk5; refine wpList_ldSG rfl (.tmp 6) rfl gs rfl HS.out ?_)
            | (clear Tk6; refine wpList_ldM rfl 46 (.tmp 55) rfl fb fo rfl (cells6 x) _ (HX0.out _ HN.out) Tryd.underlying46 rfl (by rw [cells6_len]; exact infoI) ?_)
            | (clear Tk7; refine wpList_alX rfl 46 rfl _ Tryd.zeroValue46 [.int .i64 0, .int .i64 0, .int .i64 0, .int .i64 0, .int .i64 0, .int .i64 0] rfl ?_; intro wy g11 hg11 hl11 H1 hn1; have I11 := Lib.hid H1; clear H1)
            | (clear Tk8; refine wpList_stX rfl rfl 46 (.tmp 11) (.tmp 56) rfl g11 0 rfl _ rfl I11.out (cells6 x) rfl (by simp [cells6]) (by simp [cells6, Value.oneCell']) (by rw [cells6_len]; exact infoI) (cs' := cells6 x) (by simp [cells6]) ?_; intro wz H1 k1; have hn : New wx wz := k1.below wx hg11 hn1; have I12 : Has wz g11 x := H1; obtain ⟨i0, i1, i2, i3⟩ := I12.cell; replace HS : Hid (HasS wz gs l s p q) := Lib.hid (HasC.new HS.out hn); replace HWd : Hid (HasD wz gw (_, yv)) := Lib.hid (HasC.new HWd.out hn); replace HN := Lib.hid (HN.out.trans hn); clear hn; clear H1 k1 hn1 hg11 hl11 I11 I12)
            | (clear TX; refine wpList_alX rfl 28 rfl _ zeroS_run _ rfl ?_; intro wy gx hgx hlx H1 hn1; have HX : Hid (HasS wy gx noWs nilS 0 0) := Lib.hid H1; have dsx : gs ≠ gx := Nat.ne_of_lt (Nat.lt_of_lt_of_le (HasC.lt HS.out) hgx); clear H1 hlx)
            | (clear TO; refine wpList_alX rfl 33 rfl _ zeroO_run _ rfl ?_; intro wz go hgo hlo H1 hn2; have HO : Hid (HasO wz go 0 0 nilS) := Lib.hid H1; have dxo : gx ≠ go := Nat.ne_of_lt (Nat.lt_of_lt_of_le (HasC.lt HX.out) hgo); replace HX : Hid (HasS wz gx noWs nilS 0 0) := Lib.hid (HasC.new HX.out hn2); clear H1 hlo)
            | (clear Tk9; refine wpList_stS rfl rfl (.tmp 13) (.tmp 78) rfl gx rfl (l := l2) (s := s2) (p := p2) (q := q2) rfl HX.out ?_; intro wu H1 k1; replace HX : Hid (HasS wu gx l2 s2 p2 q2) := Lib.hid H1; replace HO : Hid (HasO wu go 0 0 nilS) := Lib.hid (HasC.kept HO.out k1 (Ne.symm dxo)); have hn3 : New wx wu := k1.below wx hgx (hn1.trans hn2); clear H1 k1)
            | (clear Tk10; refine wpList_stO rfl rfl (.tmp 15) (.tmp 80) rfl go rfl (how) (val) so rfl HO.out ?_; intro wv H1 k1; have hn : New wx wv := k1.below wx (Nat.le_trans hn1.size hgo) hn3; replace HO : Hid (HasO wv go (how) (val) so) := Lib.hid H1; replace HX : Hid (HasS wv gx l2 s2 p2 q2) := Lib.hid (HasC.kept HX.out k1 dxo); replace HH2 := Lib.hid (HH2.out.new hn); replace HE2 := Lib.hid (HE2.out.new hn); replace HO2 := Lib.hid (HO2.out.new hn); clear H1 k1 hn1 hn2 hn3 hgx hgo; replace HS : Hid (HasS wv gs l s p q) := Lib.hid (HasC.new HS.out hn); replace HWd : Hid (HasD wv gw (_, yv)) := Lib.hid (HasC.new HWd.out hn); replace HN := Lib.hid (HN.out.trans hn); clear hn; have x1 := HasS.hp HX.out; have x2 := HasS.at HX.out; have x3 := HasS.ask HX.out; have s1 := HasS.hp HS.out; have s3 := HasS.ask HS.out; have o1 := HasO.how HO.out; have o2 := HasO.val HO.out; have o3 := HasO.hp HO.out))
          go_ret
          exact ⟨rfl, hnk⟩
      · clear hm
        have b1 : (x.d == (k : Int)) = false := bneq_of h1
        have b2 : (x.a == (k : Int)) = false := bneq_of h2
        have b3 : (x.b == (k : Int)) = true := beq_of h3
        clear h1 h2 h3
        rcases qv with rfl | ⟨rfl, qv⟩
        all_goals
          go_enter Tryd.func5, Tryd.ntmps5
          have Tk1 : Hid True := Lib.hid trivial
          have Tk2 : Hid True := Lib.hid trivial
          have Tk3 : Hid True := Lib.hid trivial
          have Tk4 : Hid True := Lib.hid trivial
          have Tk5 : Hid True := Lib.hid trivial
          have Tk6 : Hid True := Lib.hid trivial
          have Tk7 : Hid True := Lib.hid trivial
          have Tk8 : Hid True := Lib.hid trivial
          have Tk9 : Hid True := Lib.hid trivial
          have Tk10 : Hid True := Lib.hid trivial
          go_wp2_with (first
            | (go_at_call 7; refine (great_is HN.out (HF.out.new HN.out) (HP.out.new HN.out) (HA.out.new HN.out) HG.out).mono ?_; rintro e wx ⟨rfl, hn⟩; replace HS : Hid (HasS wx gs l s p q) := Lib.hid (HasC.new HS.out hn); replace HWd : Hid (HasD wx gw (_, yv)) := Lib.hid (HasC.new HWd.out hn); replace HN := Lib.hid (HN.out.trans hn); clear hn)
            | (go_at_call 11; refine (as_any l s p q _).mono ?_; rintro e wx ⟨as1, rfl, ha, hn⟩; have HAs := Lib.hid ha; clear ha; replace HS : Hid (HasS wx gs l s p q) := Lib.hid (HasC.new HS.out hn); replace HWd : Hid (HasD wx gw (_, yv)) := Lib.hid (HasC.new HWd.out hn); replace HN := Lib.hid (HN.out.trans hn); clear hn)
            | (go_at_call 13; refine (refRight_any _ f ⟨l, zs, p, q⟩ as1 s _ (HF.out.new HN.out) (HP.out.new HN.out) HAs.out).mono ?_; rw [HM.out]; rintro e wx ⟨rfl, hn⟩; clear HAs; replace HS : Hid (HasS wx gs l s p q) := Lib.hid (HasC.new HS.out hn); replace HWd : Hid (HasD wx gw (_, yv)) := Lib.hid (HasC.new HWd.out hn); replace HN := Lib.hid (HN.out.trans hn); clear hn; have cp := HasS.at HS.out; have w0 := HasD.is HWd.out; have w1 := HasD.num HWd.out)
            | (clear TD1; go_at_call 9; refine (stepDo_is HL.out HN.out (HF.out.new HN.out) (HP.out.new HN.out) (HA.out.new HN.out) hal HM.out HR.out).mono ?_; rintro e wx ⟨s2, ve, so, rfl, h1, h2, h3, hn⟩; obtain ⟨eo, ec, e1⟩ := h2.form; subst e1; have HH2 := Lib.hid h1; have HE2 := Lib.hid h2; have HO2 := Lib.hid h3; clear h1 h2 h3; replace HS : Hid (HasS wx gs l s p q) := Lib.hid (HasC.new HS.out hn); replace HWd : Hid (HasD wx gw (_, yv)) := Lib.hid (HasC.new HWd.out hn); replace HN := Lib.hid (HN.out.trans hn); clear hn)
            | (go_at_call 8; refine (knows_from _ HL.out HN.out).mono ?_; rintro e wk ⟨rfl, hnk⟩)
            | (clear Tk1; refine wpList_boxX rfl 28 (.tmp 1) rfl (cellsS l s p q) rfl ?_; intro wx gs hgs hls H1 hn1; have HS : Hid (HasS wx gs l s p q) := Lib.hid H1; have HN := Lib.hid hn1; clear H1 hn1 hls)
            | (clear Tk2; refine wpList_boxX rfl 24 (.tmp 4) rfl (wcells (_, yv)) rfl ?_; intro wx gw hgw hlw H1 hn; have HWd : Hid (HasD wx gw (_, yv)) := Lib.hid H1; replace HS : Hid (HasS wx gs l s p q) := Lib.hid (HasC.new HS.out hn); replace HN := Lib.hid (HN.out.trans hn); clear hn H1 hlw)
            | (clear Tk3; refine wpList_ldSG rfl (.tmp 6) rfl gs rfl HS.out ?_)
            | (clear Tk4; refine wpList_ldSG rfl (.tmp 6) rfl gs rfl HS.out ?_)
            | (clear Tk5; refine wpList_ldSG rfl (.tmp 6) rfl gs rfl HS.out ?_)
            | (clear Tk6; refine wpList_ldM rfl 46 (.tmp 55) rfl fb fo rfl (cells6 x) _ (HX0.out _ HN.out) Tryd.underlying46 rfl (by rw [cells6_len]; exact infoI) ?_)
            | (clear Tk7; refine wpList_alX rfl 46 rfl _ Tryd.zeroValue46 [.int .i64 0, .int .i64 0, .int .i64 0, .int .i64 0, .int .i64 0, .int .i64 0] rfl ?_; intro wy g11 hg11 hl11 H1 hn1; have I11 := Lib.hid H1; clear H1)
            | (clear Tk8; refine wpList_stX rfl rfl 46 (.tmp 11) (.tmp 56) rfl g11 0 rfl _ rfl I11.out (cells6 x) rfl (by simp [cells6]) (by simp [cells6, Value.oneCell']) (by rw [cells6_len]; exact infoI) (cs' := cells6 x) (by simp [cells6]) ?_; intro wz H1 k1; have hn : New wx wz := k1.below wx hg11 hn1; have I12 : Has wz g11 x := H1; obtain ⟨i0, i1, i2, i3⟩ := I12.cell; replace HS : Hid (HasS wz gs l s p q) := Lib.hid (HasC.new HS.out hn); replace HWd : Hid (HasD wz gw (_, yv)) := Lib.hid (HasC.new HWd.out hn); replace HN := Lib.hid (HN.out.trans hn); clear hn; clear H1 k1 hn1 hg11 hl11 I11 I12)
            | (clear TX; refine wpList_alX rfl 28 rfl _ zeroS_run _ rfl ?_; intro wy gx hgx hlx H1 hn1; have HX : Hid (HasS wy gx noWs nilS 0 0) := Lib.hid H1; have dsx : gs ≠ gx := Nat.ne_of_lt (Nat.lt_of_lt_of_le (HasC.lt HS.out) hgx); clear H1 hlx)
            | (clear TO; refine wpList_alX rfl 33 rfl _ zeroO_run _ rfl ?_; intro wz go hgo hlo H1 hn2; have HO : Hid (HasO wz go 0 0 nilS) := Lib.hid H1; have dxo : gx ≠ go := Nat.ne_of_lt (Nat.lt_of_lt_of_le (HasC.lt HX.out) hgo); replace HX : Hid (HasS wz gx noWs nilS 0 0) := Lib.hid (HasC.new HX.out hn2); clear H1 hlo)
            | (clear Tk9; refine wpList_stS rfl rfl (.tmp 13) (.tmp 78) rfl gx rfl (l := l2) (s := s2) (p := p2) (q := q2) rfl HX.out ?_; intro wu H1 k1; replace HX : Hid (HasS wu gx l2 s2 p2 q2) := Lib.hid H1; replace HO : Hid (HasO wu go 0 0 nilS) := Lib.hid (HasC.kept HO.out k1 (Ne.symm dxo)); have hn3 : New wx wu := k1.below wx hgx (hn1.trans hn2); clear H1 k1)
            | (clear Tk10; refine wpList_stO rfl rfl (.tmp 15) (.tmp 80) rfl go rfl (how) (val) so rfl HO.out ?_; intro wv H1 k1; have hn : New wx wv := k1.below wx (Nat.le_trans hn1.size hgo) hn3; replace HO : Hid (HasO wv go (how) (val) so) := Lib.hid H1; replace HX : Hid (HasS wv gx l2 s2 p2 q2) := Lib.hid (HasC.kept HX.out k1 dxo); replace HH2 := Lib.hid (HH2.out.new hn); replace HE2 := Lib.hid (HE2.out.new hn); replace HO2 := Lib.hid (HO2.out.new hn); clear H1 k1 hn1 hn2 hn3 hgx hgo; replace HS : Hid (HasS wv gs l s p q) := Lib.hid (HasC.new HS.out hn); replace HWd : Hid (HasD wv gw (_, yv)) := Lib.hid (HasC.new HWd.out hn); replace HN := Lib.hid (HN.out.trans hn); clear hn; have x1 := HasS.hp HX.out; have x2 := HasS.at HX.out; have x3 := HasS.ask HX.out; have s1 := HasS.hp HS.out; have s3 := HasS.ask HS.out; have o1 := HasO.how HO.out; have o2 := HasO.val HO.out; have o3 := HasO.hp HO.out))
          go_ret
          exact ⟨rfl, hnk⟩
      · have b1 : (x.d == (k : Int)) = false := bneq_of h1
        have b2 : (x.a == (k : Int)) = false := bneq_of h2
        have b3 : (x.b == (k : Int)) = false := bneq_of h3
        have hri := ri_at hm
        have hxx : insA f (Mc.p ⟨l, zs, p, q⟩) = x := HXE.out
        have hpt := stp_put (f := f) (s := ⟨l, zs, p, q⟩) (j := k) (by rw [hxx] at hri ⊢; have := hri.d0; omega) (by rw [hxx] at hri ⊢; have := hri.a0; omega) (by rw [hxx] at hri ⊢; have := hri.b0; omega) (yi, yv) az
        have hzl := stp_lenD (az := az) hm
        rw [HR.out] at hpt hzl
        obtain ⟨hp1, hp2⟩ := hpt
        have HP2 : Hid (l2 k = l k) := Lib.hid hp2
        have HM2 : Hid (mcB f ⟨updW l k (yi, yv), zs, p, q⟩ = true) := Lib.hid (put_right hm hyw)
        obtain ⟨⟨m3, es3, how3, val3, oh3⟩, HR3⟩ : ∃ r, Hid (stp f ⟨updW l k (yi, yv), zs, p, q⟩ az = r) := ⟨_, Lib.hid rfl⟩
        have em3 : m3 = ⟨updW l2 k (yi, yv), z2, p2, q2⟩ := by
          have h : (stp f (putL ⟨l, zs, p, q⟩ k (yi, yv)) az).s = putL ⟨l2, z2, p2, q2⟩ k (yi, yv) := hp1
          have h' : stp f (putL ⟨l, zs, p, q⟩ k (yi, yv)) az = ⟨m3, es3, how3, val3, oh3⟩ := HR3.out
          rw [h'] at h
          exact h
        subst em3
        have HZ : Hid (z2.length ≤ 1000) := Lib.hid (by have h : z2.length = zs.length := hzl; omega)
        have HZZ : Hid (∀ i < 24, l2 i = updW (updW l2 k (yi, yv)) k (l2 k) i) := Lib.hid (fun i _ => by rw [put_back])
        have T17 : Hid True := Lib.hid trivial
        have TX2 : Hid True := Lib.hid trivial
        clear hm h1 h2 h3 hri hxx hp1 hp2 hzl hyw hz1000
        rcases qv with rfl | ⟨rfl, qv⟩
        · go_enter Tryd.func5, Tryd.ntmps5
          have Tk1 : Hid True := Lib.hid trivial
          have Tk2 : Hid True := Lib.hid trivial
          have Tk3 : Hid True := Lib.hid trivial
          have Tk4 : Hid True := Lib.hid trivial
          have Tk5 : Hid True := Lib.hid trivial
          have Tk6 : Hid True := Lib.hid trivial
          have Tk7 : Hid True := Lib.hid trivial
          have Tk8 : Hid True := Lib.hid trivial
          have Tk9 : Hid True := Lib.hid trivial
          have Tk10 : Hid True := Lib.hid trivial
          have Tk11 : Hid True := Lib.hid trivial
          have Tk12 : Hid True := Lib.hid trivial
          have Tk13 : Hid True := Lib.hid trivial
          have Tk14 : Hid True := Lib.hid trivial
          have Tk15 : Hid True := Lib.hid trivial
          have Tk16 : Hid True := Lib.hid trivial
          have Tk17 : Hid True := Lib.hid trivial
          have Tk18 : Hid True := Lib.hid trivial
          have Tk19 : Hid True := Lib.hid trivial
          go_wp2_with (first
            | (go_at_call 7; refine (great_is HN.out (HF.out.new HN.out) (HP.out.new HN.out) (HA.out.new HN.out) HG.out).mono ?_; rintro e wx ⟨rfl, hn⟩; replace HS : Hid (HasS wx gs l s p q) := Lib.hid (HasC.new HS.out hn); replace HWd : Hid (HasD wx gw (true, yv)) := Lib.hid (HasC.new HWd.out hn); replace HN := Lib.hid (HN.out.trans hn); clear hn)
            | (go_at_call 11; refine (as_any l s p q _).mono ?_; rintro e wx ⟨as1, rfl, ha, hn⟩; have HAs := Lib.hid ha; clear ha; replace HS : Hid (HasS wx gs l s p q) := Lib.hid (HasC.new HS.out hn); replace HWd : Hid (HasD wx gw (true, yv)) := Lib.hid (HasC.new HWd.out hn); replace HN := Lib.hid (HN.out.trans hn); clear hn)
            | (go_at_call 13; refine (refRight_any _ f ⟨l, zs, p, q⟩ as1 s _ (HF.out.new HN.out) (HP.out.new HN.out) HAs.out).mono ?_; rw [HM.out]; rintro e wx ⟨rfl, hn⟩; clear HAs; replace HS : Hid (HasS wx gs l s p q) := Lib.hid (HasC.new HS.out hn); replace HWd : Hid (HasD wx gw (true, yv)) := Lib.hid (HasC.new HWd.out hn); replace HN := Lib.hid (HN.out.trans hn); clear hn; have cp := HasS.at HS.out; have w0 := HasD.is HWd.out; have w1 := HasD.num HWd.out)
            | (clear TD1; go_at_call 9; refine (stepDo_is HL.out HN.out (HF.out.new HN.out) (HP.out.new HN.out) (HA.out.new HN.out) hal HM.out HR.out).mono ?_; rintro e wx ⟨s2, ve, so, rfl, h1, h2, h3, hn⟩; obtain ⟨eo, ec, e1⟩ := h2.form; subst e1; have HH2 := Lib.hid h1; have HE2 := Lib.hid h2; have HO2 := Lib.hid h3; clear h1 h2 h3; replace HS : Hid (HasS wx gs l s p q) := Lib.hid (HasC.new HS.out hn); replace HWd : Hid (HasD wx gw (true, yv)) := Lib.hid (HasC.new HWd.out hn); replace HN := Lib.hid (HN.out.trans hn); clear hn)
            | (go_at_call 9; refine (stepDo_is HL.out (HN.out.trans HV.out) ((HF.out.new HN.out).new HV.out) ((HP.out.new HN.out).new HV.out) ((HA.out.new HN.out).new HV.out) hal HM2.out HR3.out).mono ?_; rintro e wx ⟨s3, ve3, so3, rfl, h1, h2, h3, hn⟩; obtain ⟨eo3, ec3, e1⟩ := h2.form; subst e1; have HH3 := Lib.hid h1; have HHX := Lib.hid h1; replace HV := Lib.hid (HV.out.trans hn); have hvx := HV.out.size; clear h1 h2 h3 hn HT)
            | (clear Tk1; refine wpList_boxX rfl 28 (.tmp 1) rfl (cellsS l s p q) rfl ?_; intro wx gs hgs hls H1 hn1; have HS : Hid (HasS wx gs l s p q) := Lib.hid H1; have HN := Lib.hid hn1; clear H1 hn1 hls)
            | (clear Tk2; refine wpList_boxX rfl 24 (.tmp 4) rfl (wcells (true, yv)) rfl ?_; intro wx gw hgw hlw H1 hn; have HWd : Hid (HasD wx gw (true, yv)) := Lib.hid H1; replace HS : Hid (HasS wx gs l s p q) := Lib.hid (HasC.new HS.out hn); replace HN := Lib.hid (HN.out.trans hn); clear hn H1 hlw)
            | (clear Tk3; refine wpList_ldSG rfl (.tmp 6) rfl gs rfl HS.out ?_)
            | (clear Tk4; refine wpList_ldSG rfl (.tmp 6) rfl gs rfl HS.out ?_)
            | (clear Tk5; refine wpList_ldSG rfl (.tmp 6) rfl gs rfl HS.out ?_)
            | (clear Tk6; refine wpList_ldSG rfl (.tmp 6) rfl gs rfl HS.out ?_)
            | (clear Tk7; refine wpList_ldM rfl 46 (.tmp 55) rfl fb fo rfl (cells6 x) _ (HX0.out _ HN.out) Tryd.underlying46 rfl (by rw [cells6_len]; exact infoI) ?_)
            | (clear Tk8; refine wpList_alX rfl 46 rfl _ Tryd.zeroValue46 [.int .i64 0, .int .i64 0, .int .i64 0, .int .i64 0, .int .i64 0, .int .i64 0] rfl ?_; intro wy g11 hg11 hl11 H1 hn1; have I11 := Lib.hid H1; clear H1)
            | (clear Tk9; refine wpList_stX rfl rfl 46 (.tmp 11) (.tmp 56) rfl g11 0 rfl _ rfl I11.out (cells6 x) rfl (by simp [cells6]) (by simp [cells6, Value.oneCell']) (by rw [cells6_len]; exact infoI) (cs' := cells6 x) (by simp [cells6]) ?_; intro wz H1 k1; have hn : New wx wz := k1.below wx hg11 hn1; have I12 : Has wz g11 x := H1; obtain ⟨i0, i1, i2, i3⟩ := I12.cell; replace HS : Hid (HasS wz gs l s p q) := Lib.hid (HasC.new HS.out hn); replace HWd : Hid (HasD wz gw (true, yv)) := Lib.hid (HasC.new HWd.out hn); replace HN := Lib.hid (HN.out.trans hn); clear hn; clear H1 k1 hn1 hg11 hl11 I11 I12)
            | (clear TX; refine wpList_alX rfl 28 rfl _ zeroS_run _ rfl ?_; intro wy gx hgx hlx H1 hn1; have HX : Hid (HasS wy gx noWs nilS 0 0) := Lib.hid H1; have dsx : gs ≠ gx := Nat.ne_of_lt (Nat.lt_of_lt_of_le (HasC.lt HS.out) hgx); clear H1 hlx)
            | (clear TO; refine wpList_alX rfl 33 rfl _ zeroO_run _ rfl ?_; intro wz go hgo hlo H1 hn2; have HO : Hid (HasO wz go 0 0 nilS) := Lib.hid H1; have dxo : gx ≠ go := Nat.ne_of_lt (Nat.lt_of_lt_of_le (HasC.lt HX.out) hgo); replace HX : Hid (HasS wz gx noWs nilS 0 0) := Lib.hid (HasC.new HX.out hn2); clear H1 hlo)
            | (clear Tk10; refine wpList_stS rfl rfl (.tmp 13) (.tmp 78) rfl gx rfl (l := l2) (s := s2) (p := p2) (q := q2) rfl HX.out ?_; intro wu H1 k1; replace HX : Hid (HasS wu gx l2 s2 p2 q2) := Lib.hid H1; replace HO : Hid (HasO wu go 0 0 nilS) := Lib.hid (HasC.kept HO.out k1 (Ne.symm dxo)); have hn3 : New wx wu := k1.below wx hgx (hn1.trans hn2); clear H1 k1)
            | (clear Tk11; refine wpList_stO rfl rfl (.tmp 15) (.tmp 80) rfl go rfl (how) (val) so rfl HO.out ?_; intro wv H1 k1; have hn : New wx wv := k1.below wx (Nat.le_trans hn1.size hgo) hn3; replace HO : Hid (HasO wv go (how) (val) so) := Lib.hid H1; replace HX : Hid (HasS wv gx l2 s2 p2 q2) := Lib.hid (HasC.kept HX.out k1 dxo); replace HH2 := Lib.hid (HH2.out.new hn); replace HE2 := Lib.hid (HE2.out.new hn); replace HO2 := Lib.hid (HO2.out.new hn); clear H1 k1 hn1 hn2 hn3 hgx hgo; replace HS : Hid (HasS wv gs l s p q) := Lib.hid (HasC.new HS.out hn); replace HWd : Hid (HasD wv gw (true, yv)) := Lib.hid (HasC.new HWd.out hn); replace HN := Lib.hid (HN.out.trans hn); clear hn; have x1 := HasS.hp HX.out; have x2 := HasS.at HX.out; have x3 := HasS.ask HX.out; have s1 := HasS.hp HS.out; have s3 := HasS.ask HS.out; have o1 := HasO.how HO.out; have o2 := HasO.val HO.out; have o3 := HasO.hp HO.out; have CS : Hid (∀ w', New wv w' → HasS w' gs l s p q) := Lib.hid (fun w' h => HasC.new HS.out h); have CW : Hid (∀ w', New wv w' → HasD w' gw (true, yv)) := Lib.hid (fun w' h => HasC.new HWd.out h); have CX : Hid (∀ w', New wv w' → HasS w' gx l2 s2 p2 q2) := Lib.hid (fun w' h => HasC.new HX.out h); have HV := Lib.hid (New.refl wv))
            | (clear T17; refine wpList_alX rfl 28 rfl _ zeroS_run _ rfl ?_; intro wy g17 hg17 hl17 H1 hn1; have HT : Hid (HasS wy g17 noWs nilS 0 0) := Lib.hid H1; clear H1 hl17)
            | (clear Tk12; refine wpList_stS rfl rfl (.tmp 17) (.tmp 86) rfl g17 rfl (l := l) (s := s) (p := p) (q := q) rfl HT.out ?_; intro wz H1 k1; replace HT : Hid (HasS wz g17 l s p q) := Lib.hid H1; have hn2 : New wv wz := k1.below wv hg17 hn1; clear H1 k1)
            | (clear Tk13; refine wpList_ldM rfl 24 (.tmp 9) rfl gw 0 rfl (wcells (true, yv)) _ (HasC.all (CW.out _ hn2)) Tryd.underlying24 rfl infoWd ?_)
            | (clear Tk14; refine wpList_stWd rfl rfl (.tmp 90) (.tmp 88) rfl g17 k hk24 rfl (true, yv) rfl HT.out ?_; intro wq H1 k1; replace HT : Hid (HasS wq g17 (updW l k (true, yv)) s p q) := Lib.hid H1; replace HV : Hid (New wv wq) := Lib.hid (k1.below wv hg17 hn2); clear H1 k1 hn1 hn2 hg17)
            | (clear Tk15; refine wpList_ldSG rfl (.tmp 17) rfl g17 rfl HT.out ?_)
            | (clear Tk16; refine wpList_alX rfl 28 rfl _ zeroS_run _ rfl ?_; intro wy g18 hg18 hl18 H1 hn1; have HZ8 : Hid (HasS wy g18 noWs nilS 0 0) := Lib.hid H1; have HGX := Lib.hid hg18; clear H1 hl18)
            | (clear Tk17; refine wpList_alX rfl 33 rfl _ zeroO_run _ rfl ?_; intro wz g20 hg20 hl20 H1 hn2; have H20 : Hid (HasO wz g20 0 0 nilS) := Lib.hid H1; have d80 : g18 ≠ g20 := Nat.ne_of_lt (Nat.lt_of_lt_of_le (HasC.lt HZ8.out) hg20); replace HZ8 : Hid (HasS wz g18 noWs nilS 0 0) := Lib.hid (HasC.new HZ8.out hn2); clear H1 hl20)
            | (clear Tk18; refine wpList_stS rfl rfl (.tmp 18) (.tmp 96) rfl g18 rfl (l := updW l2 k (true, yv)) (s := s3) (p := p2) (q := q2) rfl HZ8.out ?_; intro wu H1 k1; replace HZ8 : Hid (HasS wu g18 (updW l2 k (true, yv)) s3 p2 q2) := Lib.hid H1; replace H20 : Hid (HasO wu g20 0 0 nilS) := Lib.hid (HasC.kept H20.out k1 (Ne.symm d80)); have hn3 : New wx wu := k1.below wx hg18 (hn1.trans hn2); clear H1 k1)
            | (clear Tk19; refine wpList_stO rfl rfl (.tmp 20) (.tmp 98) rfl g20 rfl how3 val3 so3 rfl H20.out ?_; intro wr H1 k1; have hn : New wx wr := k1.below wx (Nat.le_trans hn1.size hg20) hn3; replace HZ8 : Hid (HasS wr g18 (updW l2 k (true, yv)) s3 p2 q2) := Lib.hid (HasC.kept HZ8.out k1 d80); have HRX := Lib.hid hn; replace HH3 := Lib.hid (HH3.out.new hn); replace HV := Lib.hid (HV.out.trans hn); have hg18' : wv.heap.size ≤ g18 := Nat.le_trans hvx hg18; clear H1 k1 hn1 hn2 hn3 hn hg18 hg20))
          have hne := newW_any wr
          have hq1 := run_neqW (l k)
          have hq2 := run_neqW (true, yv)
          have CX2 : Hid (∀ w', New wr w' → HasS w' gx l2 s2 p2 q2) := Lib.hid (fun w' h => CX.out w' (HV.out.trans h))
          have CS2 : Hid (∀ w', New wr w' → HasS w' gs l s p q) := Lib.hid (fun w' h => CS.out w' (HV.out.trans h))
          have CW2 : Hid (∀ w', New wr w' → HasD w' gw (true, yv)) := Lib.hid (fun w' h => CW.out w' (HV.out.trans h))
          have CZ2 : Hid (∀ w', New wr w' → HasS w' g18 (updW l2 k (true, yv)) s3 p2 q2) := Lib.hid (fun w' h => HasC.new HZ8.out h)
          refine wp_region_new (New.refl wr) (by kernel_rfl) (by kernel_rfl) ?_
          repeat (first
            | (refine wpQuiet_ldSw rfl (.tmp 102) rfl gx k hk24 rfl (by rintro w' ⟨y, rfl⟩; exact CX2.out _ y.property) ?_; rw [HP2.out]; simp only [Act.put, List.setIfInBounds_toArray, List.set_cons_zero, List.set_cons_succ])
            | (refine wpQuiet_ldSw rfl (.tmp 106) rfl gs k hk24 rfl (by rintro w' ⟨y, rfl⟩; exact CS2.out _ y.property) ?_; simp only [Act.put, List.setIfInBounds_toArray, List.set_cons_zero, List.set_cons_succ])
            | (refine wpQuiet_ldSw rfl (.tmp 112) rfl g18 k hk24 rfl (by rintro w' ⟨y, rfl⟩; exact CZ2.out _ y.property) ?_; rw [upd_here]; simp only [Act.put, List.setIfInBounds_toArray, List.set_cons_zero, List.set_cons_succ])
            | (refine wpQuiet_ldDw rfl (.tmp 9) rfl gw rfl (by rintro w' ⟨y, rfl⟩; exact CW2.out _ y.property) ?_; simp only [Act.put, List.setIfInBounds_toArray, List.set_cons_zero, List.set_cons_succ])
            | go_big_quiet_step (first | fail))
          refine wpQuiet_nil ?_
          intro wt hnt
          have Tk1 : Hid True := Lib.hid trivial
          have Tk2 : Hid True := Lib.hid trivial
          go_wp2_with (first
            | (clear Tk1; refine wpList_ldWd rfl (.tmp 124) rfl gx k hk24 rfl (CX2.out _ hnt) ?_)
            | (clear Tk2; refine wpList_stWd rfl rfl (.tmp 127) (.tmp 125) rfl g18 k hk24 rfl (l2 k) rfl (CZ2.out _ hnt) ?_; intro wp H1 k1; have HZ9 : Hid (HasS wp g18 (updW (updW l2 k (true, yv)) k (l2 k)) s3 p2 q2) := Lib.hid H1; have NV : New wv wp := k1.below wv hg18' (HV.out.trans hnt); have NX : New wx wp := k1.below wx HGX.out (HRX.out.trans hnt)))
          have HX9 : Hid (HasS wp gx l2 s2 p2 q2) := Lib.hid (CX.out _ NV)
          have HH29 : Hid (Hp wp (.slice s2.ao s2.n s2.c) z2) := Lib.hid (HH2.out.new NV)
          have HH39 : Hid (Hp wp (.slice s3.ao s3.n s3.c) z2) := Lib.hid (HHX.out.new NX)
          replace HN := Lib.hid (HN.out.trans NV)
          have S0 : Hid (New wp wp.drew) := Lib.hid ((New.refl wp).drew)
          have HLV := HL.out.new HN.out
          have hne := newW_any wp
          refine wp_region_noPanic ?_
          refine wp_region_held_drew (S := fun w' => New wp w') (by kernel_rfl) S0.out (fun _ => ?_)
          refine wpAnyH_take (i := 0) rfl (by kernel_rfl) (by kernel_rfl) (by kernel_rfl) (fun _ _ _ h => h) (ldS_if rfl (.tmp 13) rfl gx rfl (fun w' h => HasC.new HX9.out h)) S0.out ?_
          simp only [List.getElem_toArray, List.getElem_cons_zero, Act.put, List.setIfInBounds_toArray, List.set_cons_zero, List.set_cons_succ]
          refine wpAnyH_take (i := 2) rfl (by kernel_rfl) (by kernel_rfl) (by kernel_rfl) (fun _ _ _ h => h) (ldS_if rfl (.tmp 18) rfl g18 rfl (fun w' h => HasC.new HZ9.out h)) S0.out ?_
          simp only [List.getElem_toArray, List.getElem_cons_zero, List.getElem_cons_succ, Act.put, List.setIfInBounds_toArray, List.set_cons_zero, List.set_cons_succ]
          refine wpAnyH_call (i := 1) rfl rfl (by kernel_rfl) 11 #[.agg (cellsS l2 s2 p2 q2).toArray] (by go_simp) ?_
          refine (as_any l2 s2 p2 q2 _).mono ?_
          rintro e w1 ⟨a1, rfl, ha1, hn1⟩
          have N1 := Lib.hid (S0.out.trans hn1)
          have HA1 := Lib.hid ha1
          refine ⟨_, rfl, N1.out, ?_⟩
          simp only [List.getElem_toArray, List.getElem_cons_zero, List.getElem_cons_succ, Act.put, List.setIfInBounds_toArray, List.set_cons_zero, List.set_cons_succ]
          refine wpAnyH_call (i := 3) rfl rfl (by kernel_rfl) 11 #[.agg (cellsS (updW (updW l2 k (true, yv)) k (l2 k)) s3 p2 q2).toArray] (by go_simp) ?_
          refine (as_any (updW (updW l2 k (true, yv)) k (l2 k)) s3 p2 q2 _).mono ?_
          rintro e w2 ⟨a2, rfl, ha2, hn2⟩
          have N2 := Lib.hid (N1.out.trans hn2)
          have HA2 := Lib.hid ha2
          replace HA1 := Lib.hid (HA1.out.new hn2)
          refine ⟨_, rfl, N2.out, ?_⟩
          simp only [List.getElem_toArray, List.getElem_cons_zero, List.getElem_cons_succ, Act.put, List.setIfInBounds_toArray, List.set_cons_zero, List.set_cons_succ]
          refine wpAnyH_call (i := 4) rfl rfl (by kernel_rfl) 10 #[.agg (refC a1 s2 p2 q2).toArray, .agg (refC a2 s3 p2 q2).toArray] (by go_simp) ?_
          refine (refSame_any l2 (updW (updW l2 k (true, yv)) k (l2 k)) HZZ.out z2 p2 q2 a1 s2 a2 s3 _ HA1.out HA2.out (HH29.out.new N2.out) (HH39.out.new N2.out) HZ.out).mono ?_
          rintro e w3 ⟨rfl, hn3⟩
          have N3 := Lib.hid (N2.out.trans hn3)
          refine ⟨_, rfl, N3.out, ?_⟩
          simp only [List.getElem_toArray, List.getElem_cons_zero, List.getElem_cons_succ, Act.put, List.setIfInBounds_toArray, List.set_cons_zero, List.set_cons_succ]
          refine wpAnyH_rest 5 rfl (by kernel_rfl) (by kernel_rfl) N3.out ?_
          simp only [List.drop_succ_cons, List.drop_zero]
          clear hn1 ha1 hn2 ha2 hn3 HA1 HA2
          repeat (go_big_quiet_step (first | (go_at_call 8; exact quiet_new (knows_from _ HLV (Subtype.property _)))))
          refine wpQuiet_nil ?_
          intro w4 h4
          refine NoPanic.normal ?_
          go_wp2
          go_ret
          exact ⟨rfl, HN.out.trans h4⟩
        · go_enter Tryd.func5, Tryd.ntmps5
          have Tk1 : Hid True := Lib.hid trivial
          have Tk2 : Hid True := Lib.hid trivial
          have Tk3 : Hid True := Lib.hid trivial
          have Tk4 : Hid True := Lib.hid trivial
          have Tk5 : Hid True := Lib.hid trivial
          have Tk6 : Hid True := Lib.hid trivial
          have Tk7 : Hid True := Lib.hid trivial
          have Tk8 : Hid True := Lib.hid trivial
          have Tk9 : Hid True := Lib.hid trivial
          have Tk10 : Hid True := Lib.hid trivial
          have Tk11 : Hid True := Lib.hid trivial
          have Tk12 : Hid True := Lib.hid trivial
          have Tk13 : Hid True := Lib.hid trivial
          have Tk14 : Hid True := Lib.hid trivial
          have Tk15 : Hid True := Lib.hid trivial
          have Tk16 : Hid True := Lib.hid trivial
          have Tk17 : Hid True := Lib.hid trivial
          have Tk18 : Hid True := Lib.hid trivial
          have Tk19 : Hid True := Lib.hid trivial
          go_wp2_with (first
            | (go_at_call 7; refine (great_is HN.out (HF.out.new HN.out) (HP.out.new HN.out) (HA.out.new HN.out) HG.out).mono ?_; rintro e wx ⟨rfl, hn⟩; replace HS : Hid (HasS wx gs l s p q) := Lib.hid (HasC.new HS.out hn); replace HWd : Hid (HasD wx gw (false, yv)) := Lib.hid (HasC.new HWd.out hn); replace HN := Lib.hid (HN.out.trans hn); clear hn)
            | (go_at_call 11; refine (as_any l s p q _).mono ?_; rintro e wx ⟨as1, rfl, ha, hn⟩; have HAs := Lib.hid ha; clear ha; replace HS : Hid (HasS wx gs l s p q) := Lib.hid (HasC.new HS.out hn); replace HWd : Hid (HasD wx gw (false, yv)) := Lib.hid (HasC.new HWd.out hn); replace HN := Lib.hid (HN.out.trans hn); clear hn)
            | (go_at_call 13; refine (refRight_any _ f ⟨l, zs, p, q⟩ as1 s _ (HF.out.new HN.out) (HP.out.new HN.out) HAs.out).mono ?_; rw [HM.out]; rintro e wx ⟨rfl, hn⟩; clear HAs; replace HS : Hid (HasS wx gs l s p q) := Lib.hid (HasC.new HS.out hn); replace HWd : Hid (HasD wx gw (false, yv)) := Lib.hid (HasC.new HWd.out hn); replace HN := Lib.hid (HN.out.trans hn); clear hn; have cp := HasS.at HS.out; have w0 := HasD.is HWd.out; have w1 := HasD.num HWd.out)
            | (clear TD1; go_at_call 9; refine (stepDo_is HL.out HN.out (HF.out.new HN.out) (HP.out.new HN.out) (HA.out.new HN.out) hal HM.out HR.out).mono ?_; rintro e wx ⟨s2, ve, so, rfl, h1, h2, h3, hn⟩; obtain ⟨eo, ec, e1⟩ := h2.form; subst e1; have HH2 := Lib.hid h1; have HE2 := Lib.hid h2; have HO2 := Lib.hid h3; clear h1 h2 h3; replace HS : Hid (HasS wx gs l s p q) := Lib.hid (HasC.new HS.out hn); replace HWd : Hid (HasD wx gw (false, yv)) := Lib.hid (HasC.new HWd.out hn); replace HN := Lib.hid (HN.out.trans hn); clear hn)
            | (go_at_call 9; refine (stepDo_is HL.out (HN.out.trans HV.out) ((HF.out.new HN.out).new HV.out) ((HP.out.new HN.out).new HV.out) ((HA.out.new HN.out).new HV.out) hal HM2.out HR3.out).mono ?_; rintro e wx ⟨s3, ve3, so3, rfl, h1, h2, h3, hn⟩; obtain ⟨eo3, ec3, e1⟩ := h2.form; subst e1; have HH3 := Lib.hid h1; have HHX := Lib.hid h1; replace HV := Lib.hid (HV.out.trans hn); have hvx := HV.out.size; clear h1 h2 h3 hn HT)
            | (clear Tk1; refine wpList_boxX rfl 28 (.tmp 1) rfl (cellsS l s p q) rfl ?_; intro wx gs hgs hls H1 hn1; have HS : Hid (HasS wx gs l s p q) := Lib.hid H1; have HN := Lib.hid hn1; clear H1 hn1 hls)
            | (clear Tk2; refine wpList_boxX rfl 24 (.tmp 4) rfl (wcells (false, yv)) rfl ?_; intro wx gw hgw hlw H1 hn; have HWd : Hid (HasD wx gw (false, yv)) := Lib.hid H1; replace HS : Hid (HasS wx gs l s p q) := Lib.hid (HasC.new HS.out hn); replace HN := Lib.hid (HN.out.trans hn); clear hn H1 hlw)
            | (clear Tk3; refine wpList_ldSG rfl (.tmp 6) rfl gs rfl HS.out ?_)
            | (clear Tk4; refine wpList_ldSG rfl (.tmp 6) rfl gs rfl HS.out ?_)
            | (clear Tk5; refine wpList_ldSG rfl (.tmp 6) rfl gs rfl HS.out ?_)
            | (clear Tk6; refine wpList_ldSG rfl (.tmp 6) rfl gs rfl HS.out ?_)
            | (clear Tk7; refine wpList_ldM rfl 46 (.tmp 55) rfl fb fo rfl (cells6 x) _ (HX0.out _ HN.out) Tryd.underlying46 rfl (by rw [cells6_len]; exact infoI) ?_)
            | (clear Tk8; refine wpList_alX rfl 46 rfl _ Tryd.zeroValue46 [.int .i64 0, .int .i64 0, .int .i64 0, .int .i64 0, .int .i64 0, .int .i64 0] rfl ?_; intro wy g11 hg11 hl11 H1 hn1; have I11 := Lib.hid H1; clear H1)
            | (clear Tk9; refine wpList_stX rfl rfl 46 (.tmp 11) (.tmp 56) rfl g11 0 rfl _ rfl I11.out (cells6 x) rfl (by simp [cells6]) (by simp [cells6, Value.oneCell']) (by rw [cells6_len]; exact infoI) (cs' := cells6 x) (by simp [cells6]) ?_; intro wz H1 k1; have hn : New wx wz := k1.below wx hg11 hn1; have I12 : Has wz g11 x := H1; obtain ⟨i0, i1, i2, i3⟩ := I12.cell; replace HS : Hid (HasS wz gs l s p q) := Lib.hid (HasC.new HS.out hn); replace HWd : Hid (HasD wz gw (false, yv)) := Lib.hid (HasC.new HWd.out hn); replace HN := Lib.hid (HN.out.trans hn); clear hn; clear H1 k1 hn1 hg11 hl11 I11 I12)
            | (clear TX; refine wpList_alX rfl 28 rfl _ zeroS_run _ rfl ?_; intro wy gx hgx hlx H1 hn1; have HX : Hid (HasS wy gx noWs nilS 0 0) := Lib.hid H1; have dsx : gs ≠ gx := Nat.ne_of_lt (Nat.lt_of_lt_of_le (HasC.lt HS.out) hgx); clear H1 hlx)
            | (clear TO; refine wpList_alX rfl 33 rfl _ zeroO_run _ rfl ?_; intro wz go hgo hlo H1 hn2; have HO : Hid (HasO wz go 0 0 nilS) := Lib.hid H1; have dxo : gx ≠ go := Nat.ne_of_lt (Nat.lt_of_lt_of_le (HasC.lt HX.out) hgo); replace HX : Hid (HasS wz gx noWs nilS 0 0) := Lib.hid (HasC.new HX.out hn2); clear H1 hlo)
            | (clear Tk10; refine wpList_stS rfl rfl (.tmp 13) (.tmp 78) rfl gx rfl (l := l2) (s := s2) (p := p2) (q := q2) rfl HX.out ?_; intro wu H1 k1; replace HX : Hid (HasS wu gx l2 s2 p2 q2) := Lib.hid H1; replace HO : Hid (HasO wu go 0 0 nilS) := Lib.hid (HasC.kept HO.out k1 (Ne.symm dxo)); have hn3 : New wx wu := k1.below wx hgx (hn1.trans hn2); clear H1 k1)
            | (clear Tk11; refine wpList_stO rfl rfl (.tmp 15) (.tmp 80) rfl go rfl (how) (val) so rfl HO.out ?_; intro wv H1 k1; have hn : New wx wv := k1.below wx (Nat.le_trans hn1.size hgo) hn3; replace HO : Hid (HasO wv go (how) (val) so) := Lib.hid H1; replace HX : Hid (HasS wv gx l2 s2 p2 q2) := Lib.hid (HasC.kept HX.out k1 dxo); replace HH2 := Lib.hid (HH2.out.new hn); replace HE2 := Lib.hid (HE2.out.new hn); replace HO2 := Lib.hid (HO2.out.new hn); clear H1 k1 hn1 hn2 hn3 hgx hgo; replace HS : Hid (HasS wv gs l s p q) := Lib.hid (HasC.new HS.out hn); replace HWd : Hid (HasD wv gw (false, yv)) := Lib.hid (HasC.new HWd.out hn); replace HN := Lib.hid (HN.out.trans hn); clear hn; have x1 := HasS.hp HX.out; have x2 := HasS.at HX.out; have x3 := HasS.ask HX.out; have s1 := HasS.hp HS.out; have s3 := HasS.ask HS.out; have o1 := HasO.how HO.out; have o2 := HasO.val HO.out; have o3 := HasO.hp HO.out; have CS : Hid (∀ w', New wv w' → HasS w' gs l s p q) := Lib.hid (fun w' h => HasC.new HS.out h); have CW : Hid (∀ w', New wv w' → HasD w' gw (false, yv)) := Lib.hid (fun w' h => HasC.new HWd.out h); have CX : Hid (∀ w', New wv w' → HasS w' gx l2 s2 p2 q2) := Lib.hid (fun w' h => HasC.new HX.out h); have HV := Lib.hid (New.refl wv))
            | (clear T17; refine wpList_alX rfl 28 rfl _ zeroS_run _ rfl ?_; intro wy g17 hg17 hl17 H1 hn1; have HT : Hid (HasS wy g17 noWs nilS 0 0) := Lib.hid H1; clear H1 hl17)
            | (clear Tk12; refine wpList_stS rfl rfl (.tmp 17) (.tmp 86) rfl g17 rfl (l := l) (s := s) (p := p) (q := q) rfl HT.out ?_; intro wz H1 k1; replace HT : Hid (HasS wz g17 l s p q) := Lib.hid H1; have hn2 : New wv wz := k1.below wv hg17 hn1; clear H1 k1)
            | (clear Tk13; refine wpList_ldM rfl 24 (.tmp 9) rfl gw 0 rfl (wcells (false, yv)) _ (HasC.all (CW.out _ hn2)) Tryd.underlying24 rfl infoWd ?_)
            | (clear Tk14; refine wpList_stWd rfl rfl (.tmp 90) (.tmp 88) rfl g17 k hk24 rfl (false, yv) rfl HT.out ?_; intro wq H1 k1; replace HT : Hid (HasS wq g17 (updW l k (false, yv)) s p q) := Lib.hid H1; replace HV : Hid (New wv wq) := Lib.hid (k1.below wv hg17 hn2); clear H1 k1 hn1 hn2 hg17)
            | (clear Tk15; refine wpList_ldSG rfl (.tmp 17) rfl g17 rfl HT.out ?_)
            | (clear Tk16; refine wpList_alX rfl 28 rfl _ zeroS_run _ rfl ?_; intro wy g18 hg18 hl18 H1 hn1; have HZ8 : Hid (HasS wy g18 noWs nilS 0 0) := Lib.hid H1; have HGX := Lib.hid hg18; clear H1 hl18)
            | (clear Tk17; refine wpList_alX rfl 33 rfl _ zeroO_run _ rfl ?_; intro wz g20 hg20 hl20 H1 hn2; have H20 : Hid (HasO wz g20 0 0 nilS) := Lib.hid H1; have d80 : g18 ≠ g20 := Nat.ne_of_lt (Nat.lt_of_lt_of_le (HasC.lt HZ8.out) hg20); replace HZ8 : Hid (HasS wz g18 noWs nilS 0 0) := Lib.hid (HasC.new HZ8.out hn2); clear H1 hl20)
            | (clear Tk18; refine wpList_stS rfl rfl (.tmp 18) (.tmp 96) rfl g18 rfl (l := updW l2 k (false, yv)) (s := s3) (p := p2) (q := q2) rfl HZ8.out ?_; intro wu H1 k1; replace HZ8 : Hid (HasS wu g18 (updW l2 k (false, yv)) s3 p2 q2) := Lib.hid H1; replace H20 : Hid (HasO wu g20 0 0 nilS) := Lib.hid (HasC.kept H20.out k1 (Ne.symm d80)); have hn3 : New wx wu := k1.below wx hg18 (hn1.trans hn2); clear H1 k1)
            | (clear Tk19; refine wpList_stO rfl rfl (.tmp 20) (.tmp 98) rfl g20 rfl how3 val3 so3 rfl H20.out ?_; intro wr H1 k1; have hn : New wx wr := k1.below wx (Nat.le_trans hn1.size hg20) hn3; replace HZ8 : Hid (HasS wr g18 (updW l2 k (false, yv)) s3 p2 q2) := Lib.hid (HasC.kept HZ8.out k1 d80); have HRX := Lib.hid hn; replace HH3 := Lib.hid (HH3.out.new hn); replace HV := Lib.hid (HV.out.trans hn); have hg18' : wv.heap.size ≤ g18 := Nat.le_trans hvx hg18; clear H1 k1 hn1 hn2 hn3 hn hg18 hg20))
          have hne := newW_any wr
          have hq1 := run_neqW (l k)
          have hq2 := run_neqW (false, yv)
          have CX2 : Hid (∀ w', New wr w' → HasS w' gx l2 s2 p2 q2) := Lib.hid (fun w' h => CX.out w' (HV.out.trans h))
          have CS2 : Hid (∀ w', New wr w' → HasS w' gs l s p q) := Lib.hid (fun w' h => CS.out w' (HV.out.trans h))
          have CW2 : Hid (∀ w', New wr w' → HasD w' gw (false, yv)) := Lib.hid (fun w' h => CW.out w' (HV.out.trans h))
          have CZ2 : Hid (∀ w', New wr w' → HasS w' g18 (updW l2 k (false, yv)) s3 p2 q2) := Lib.hid (fun w' h => HasC.new HZ8.out h)
          refine wp_region_new (New.refl wr) (by kernel_rfl) (by kernel_rfl) ?_
          repeat (first
            | (refine wpQuiet_ldSw rfl (.tmp 102) rfl gx k hk24 rfl (by rintro w' ⟨y, rfl⟩; exact CX2.out _ y.property) ?_; rw [HP2.out]; simp only [Act.put, List.setIfInBounds_toArray, List.set_cons_zero, List.set_cons_succ])
            | (refine wpQuiet_ldSw rfl (.tmp 106) rfl gs k hk24 rfl (by rintro w' ⟨y, rfl⟩; exact CS2.out _ y.property) ?_; simp only [Act.put, List.setIfInBounds_toArray, List.set_cons_zero, List.set_cons_succ])
            | (refine wpQuiet_ldSw rfl (.tmp 112) rfl g18 k hk24 rfl (by rintro w' ⟨y, rfl⟩; exact CZ2.out _ y.property) ?_; rw [upd_here]; simp only [Act.put, List.setIfInBounds_toArray, List.set_cons_zero, List.set_cons_succ])
            | (refine wpQuiet_ldDw rfl (.tmp 9) rfl gw rfl (by rintro w' ⟨y, rfl⟩; exact CW2.out _ y.property) ?_; simp only [Act.put, List.setIfInBounds_toArray, List.set_cons_zero, List.set_cons_succ])
            | go_big_quiet_step (first | fail))
          refine wpQuiet_nil ?_
          intro wt hnt
          have Tk1 : Hid True := Lib.hid trivial
          have Tk2 : Hid True := Lib.hid trivial
          go_wp2_with (first
            | (clear Tk1; refine wpList_ldWd rfl (.tmp 124) rfl gx k hk24 rfl (CX2.out _ hnt) ?_)
            | (clear Tk2; refine wpList_stWd rfl rfl (.tmp 127) (.tmp 125) rfl g18 k hk24 rfl (l2 k) rfl (CZ2.out _ hnt) ?_; intro wp H1 k1; have HZ9 : Hid (HasS wp g18 (updW (updW l2 k (false, yv)) k (l2 k)) s3 p2 q2) := Lib.hid H1; have NV : New wv wp := k1.below wv hg18' (HV.out.trans hnt); have NX : New wx wp := k1.below wx HGX.out (HRX.out.trans hnt)))
          have HX9 : Hid (HasS wp gx l2 s2 p2 q2) := Lib.hid (CX.out _ NV)
          have HH29 : Hid (Hp wp (.slice s2.ao s2.n s2.c) z2) := Lib.hid (HH2.out.new NV)
          have HH39 : Hid (Hp wp (.slice s3.ao s3.n s3.c) z2) := Lib.hid (HHX.out.new NX)
          replace HN := Lib.hid (HN.out.trans NV)
          have S0 : Hid (New wp wp.drew) := Lib.hid ((New.refl wp).drew)
          have HLV := HL.out.new HN.out
          have hne := newW_any wp
          refine wp_region_noPanic ?_
          refine wp_region_held_drew (S := fun w' => New wp w') (by kernel_rfl) S0.out (fun _ => ?_)
          refine wpAnyH_take (i := 0) rfl (by kernel_rfl) (by kernel_rfl) (by kernel_rfl) (fun _ _ _ h => h) (ldS_if rfl (.tmp 13) rfl gx rfl (fun w' h => HasC.new HX9.out h)) S0.out ?_
          simp only [List.getElem_toArray, List.getElem_cons_zero, Act.put, List.setIfInBounds_toArray, List.set_cons_zero, List.set_cons_succ]
          refine wpAnyH_take (i := 2) rfl (by kernel_rfl) (by kernel_rfl) (by kernel_rfl) (fun _ _ _ h => h) (ldS_if rfl (.tmp 18) rfl g18 rfl (fun w' h => HasC.new HZ9.out h)) S0.out ?_
          simp only [List.getElem_toArray, List.getElem_cons_zero, List.getElem_cons_succ, Act.put, List.setIfInBounds_toArray, List.set_cons_zero, List.set_cons_succ]
          refine wpAnyH_call (i := 1) rfl rfl (by kernel_rfl) 11 #[.agg (cellsS l2 s2 p2 q2).toArray] (by go_simp) ?_
          refine (as_any l2 s2 p2 q2 _).mono ?_
          rintro e w1 ⟨a1, rfl, ha1, hn1⟩
          have N1 := Lib.hid (S0.out.trans hn1)
          have HA1 := Lib.hid ha1
          refine ⟨_, rfl, N1.out, ?_⟩
          simp only [List.getElem_toArray, List.getElem_cons_zero, List.getElem_cons_succ, Act.put, List.setIfInBounds_toArray, List.set_cons_zero, List.set_cons_succ]
          refine wpAnyH_call (i := 3) rfl rfl (by kernel_rfl) 11 #[.agg (cellsS (updW (updW l2 k (false, yv)) k (l2 k)) s3 p2 q2).toArray] (by go_simp) ?_
          refine (as_any (updW (updW l2 k (false, yv)) k (l2 k)) s3 p2 q2 _).mono ?_
          rintro e w2 ⟨a2, rfl, ha2, hn2⟩
          have N2 := Lib.hid (N1.out.trans hn2)
          have HA2 := Lib.hid ha2
          replace HA1 := Lib.hid (HA1.out.new hn2)
          refine ⟨_, rfl, N2.out, ?_⟩
          simp only [List.getElem_toArray, List.getElem_cons_zero, List.getElem_cons_succ, Act.put, List.setIfInBounds_toArray, List.set_cons_zero, List.set_cons_succ]
          refine wpAnyH_call (i := 4) rfl rfl (by kernel_rfl) 10 #[.agg (refC a1 s2 p2 q2).toArray, .agg (refC a2 s3 p2 q2).toArray] (by go_simp) ?_
          refine (refSame_any l2 (updW (updW l2 k (false, yv)) k (l2 k)) HZZ.out z2 p2 q2 a1 s2 a2 s3 _ HA1.out HA2.out (HH29.out.new N2.out) (HH39.out.new N2.out) HZ.out).mono ?_
          rintro e w3 ⟨rfl, hn3⟩
          have N3 := Lib.hid (N2.out.trans hn3)
          refine ⟨_, rfl, N3.out, ?_⟩
          simp only [List.getElem_toArray, List.getElem_cons_zero, List.getElem_cons_succ, Act.put, List.setIfInBounds_toArray, List.set_cons_zero, List.set_cons_succ]
          refine wpAnyH_rest 5 rfl (by kernel_rfl) (by kernel_rfl) N3.out ?_
          simp only [List.drop_succ_cons, List.drop_zero]
          clear hn1 ha1 hn2 ha2 hn3 HA1 HA2
          repeat (go_big_quiet_step (first | (go_at_call 8; exact quiet_new (knows_from _ HLV (Subtype.property _)))))
          refine wpQuiet_nil ?_
          intro w4 h4
          refine NoPanic.normal ?_
          go_wp2
          go_ret
          exact ⟨rfl, HN.out.trans h4⟩
theorem stepKeeps_law (v : Value) (f : List I) (l : Ws) (s : Sl) (p q : Int) (zs : List Int) (va : Value) (az : List Int) (lk : Int) (y : Wd) (w : World) (hf : FunAt w v f) (_hi : ∀ y ∈ f, In64I y) (_hm : f.length ≤ maxLen) (hp : Hp w (.slice s.ao s.n s.c) zs) (ha : RowAt w va (az.map (.int .i64))) (hl : Laid w) :
    Calls Tryd.prog 5 #[v, .agg (cellsS l s p q).toArray, va, .int .i64 lk, .agg #[.bool y.1, .int .i64 y.2]] w fun e w' => e = .returned (.bool true) ∧ New w w' := stepKeeps_walk v f l s p q zs va az lk y w hf hp ha hl
end Go.Proofs.YtfllkagbphgjlaaDoor
