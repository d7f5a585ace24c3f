/-
  The reference's Same of traces that are alike, and Begins of events that begin others.
-/
import Derived.Test.YtlmnodbhfpgplaaGreatDoorRunF
namespace Go.Proofs.YtlmnodbhfpgplaaGreatDoor
open Go.RowKit

theorem HasTr.out {w : World} {g : Nat} {e o : Sl} {hw' vl' st' wk' : Int} (k : HasTr w g e hw' vl' o st' wk') : w.rangeAt g 1 (outC hw' vl' o) := HasC.range k 1 _ (fun j v hv => by
  match j, hv with
  | 0, hv => exact hv
  | 1, hv => exact hv
  | 2, hv => exact hv
  | j + 3, hv => simp [outC] at hv)
theorem wpList_ldTo {ops : Array Oper} {rest : List Oper} {op : Oper} {act : Act} {w : World} {Q : Exit → Act → World → Prop} (hw : Region.wanted op (yielded ops act.tmps) = true) (x : Operand) (ho : op.op = .load 31 x) (g : Nat) (hx : act.eval x = .pointer (some ⟨g, 1, none⟩)) {e : Sl} {how val : Int} {o : Sl} {st wk : Int} (k : HasTr w g e how val o st wk)
    (hk : wpList Tryz.prog ops Q rest (act.put op.dst (.agg (outC how val o).toArray)) w) : wpList Tryz.prog ops Q (op :: rest) act w :=
  wpList_ldM hw _ x ho g 1 hx (outC how val o) _ (HasTr.out k) Tryz.underlying31 rfl infoOut hk
set_option maxHeartbeats 4000000 in
theorem rTSame_any {e1 e2 o1 o2 : Sl} {how val st wk : Int} {es : List Ev} {oh : List Int} {w : World} (h1 : EvAt w (svS e1) es) (h2 : EvAt w (svS e2) es) (h3 : Hp w (svS o1) oh) (h4 : Hp w (svS o2) oh) (hb : es.length ≤ 100000) (hz : oh.length ≤ 1000) :
    Calls Tryz.prog 11 #[.agg (trC e1 how val o1 st wk).toArray, .agg (trC e2 how val o2 st wk).toArray] w fun e w' => e = .returned (.bool true) ∧ New w w' := by
  have H1 := Lib.hid h1
  have H2 := Lib.hid h2
  have H3 := Lib.hid h3
  have H4 := Lib.hid h4
  have HB := Lib.hid hb
  have HZ := Lib.hid hz
  clear h1 h2 h3 h4 hb hz
  have T1 : Hid True := Lib.hid trivial
  have T2 : Hid True := Lib.hid trivial
  have T3 : Hid True := Lib.hid trivial
  have T4 : Hid True := Lib.hid trivial
  go_enter Tryz.func11, Tryz.ntmps11
  go_wp2_with (first
    | (go_at_call 29; refine (refEvents_any es _ _ _ (H1.out.new HN.out) (H2.out.new HN.out) HB.out).mono ?_; rintro e wx ⟨rfl, hn⟩; replace A2 : Hid (HasTr wx g2 e1 how val o1 st wk) := Lib.hid (HasC.new A2.out hn); replace A3 : Hid (HasTr wx g3 e2 how val o2 st wk) := Lib.hid (HasC.new A3.out hn); replace HN := Lib.hid (HN.out.trans hn); clear hn)
    | (go_at_call 30; refine (refOutcome_any how val oh o1 o2 _ (H3.out.new HN.out) (H4.out.new HN.out) HZ.out).mono ?_; rintro e wx ⟨rfl, hn⟩; replace A2 : Hid (HasTr wx g2 e1 how val o1 st wk) := Lib.hid (HasC.new A2.out hn); replace A3 : Hid (HasTr wx g3 e2 how val o2 st wk) := Lib.hid (HasC.new A3.out hn); replace HN := Lib.hid (HN.out.trans hn); have c4 := HasTr.st A2.out; have c5 := HasTr.wk A2.out; have d4 := HasTr.st A3.out; have d5 := HasTr.wk A3.out; clear hn)
    | (clear T1; refine wpList_boxX rfl 33 (.tmp 0) rfl (trC e1 how val o1 st wk) rfl ?_; intro w1 g2 hg2 hl2 H hn1; have A2 : Hid (HasTr w1 g2 e1 how val o1 st wk) := Lib.hid H; clear H)
    | (clear T2; refine wpList_boxX rfl 33 (.tmp 1) rfl (trC e2 how val o2 st wk) rfl ?_; intro w2 g3 hg3 hl3 H hn2; have A3 : Hid (HasTr w2 g3 e2 how val o2 st wk) := Lib.hid H; replace A2 : Hid (HasTr w2 g2 e1 how val o1 st wk) := Lib.hid (HasC.new A2.out hn2); have HN := Lib.hid (hn1.trans hn2); have c0 := HasTr.ev A2.out; have d0 := HasTr.ev A3.out; clear H hn1 hn2)
    | (clear T3; refine wpList_ldTo (by rfl) (.tmp 11) rfl g2 rfl A2.out ?_)
    | (clear T4; refine wpList_ldTo (by rfl) (.tmp 13) rfl g3 rfl A3.out ?_))
  go_ret
  exact ⟨rfl, HN.out⟩
theorem EvAt.pre {w : World} {bo : Option Addr} {k dap : Nat} {xs ys : List Ev} (h : EvAt w (.slice bo k dap) (xs ++ ys)) {m : Nat} (hm : m = xs.length) : EvAt w (.slice bo m dap) xs := by
  obtain ⟨ao, cap, e, ht, hh⟩ := h
  simp only [Value.slice.injEq] at e
  obtain ⟨rfl, _, rfl⟩ := e
  subst hm
  refine ⟨bo, dap, rfl, ht, fun i hi => ?_⟩
  obtain ⟨b, off, e1, h1⟩ := hh i (by rw [List.length_append]; omega)
  refine ⟨b, off, e1, ?_⟩
  rw [List.getElem_append_left hi] at h1
  exact h1
end Go.Proofs.YtlmnodbhfpgplaaGreatDoor
