/-
  'PathRuns': from any state, as many steps as the path has lead to where it leads, with what its table fills, and make no event: true, for every input.
-/
import Derived.Test.YtfjlglnjonijdaaGreatDoorStepG0
import Derived.Test.YtfjlglnjonijdaaGreatDoorEnvE
import Derived.Test.YtfjlglnjonijdaaGreatDoorEnvEqW
import Derived.Test.YtfjlglnjonijdaaGreatDoorPathK
import Derived.Test.YtfjlglnjonijdaaGreatDoorRefMoves
namespace Go.Proofs.YtfjlglnjonijdaaGreatDoor
open Go.RowKit

/-- What a law is told of the path from a state's place: how many moves, where they lead, with which table. -/
structure Goes (f : List I) (p : Int) (o : Option Nat) (m : Nat) (to : Int) (tb : Tb) : Prop where
  wy : Wy f p o
  eto : toP f p o = to
  etb : tbP f p o = tb
  est : stP o = (m : Int)
  m200 : m ≤ 200
  mv : ∀ k < m, mvA f (itA f p k) = true
  fin : (to = -1 ∧ m = 0 ∧ Never f p) ∨ (0 ≤ to ∧ to < f.length ∧ m < f.length ∧ itA f p m = to ∧ tbA f p m = tb ∧ mvA f to = false)
theorem goes_mk {f : List I} {p : Int} (hi : InF f p) : ∃ o m to tb, Goes f p o m to tb := by
  obtain ⟨o, ho⟩ := wy_ex f p
  cases o with
  | none => exact ⟨none, 0, -1, newT, ho, rfl, rfl, rfl, by omega, fun k hk => absurd hk (Nat.not_lt_zero _), .inl ⟨rfl, rfl, ho⟩⟩
  | some m =>
    have h1 := leads_lt hi ho
    have h2 := chk_len hi.1
    have h3 := it_in hi ho.1
    exact ⟨some m, m, itA f p m, tbA f p m, ho, rfl, rfl, rfl, by omega, ho.1, .inr ⟨h3.2.1, h3.2.2, h1, rfl, rfl, ho.2⟩⟩
theorem mc_in {f : List I} {l : Ws} {zs : List Int} {p q : Int} (h : mcB f ⟨l, zs, p, q⟩ = true) : InF f p := ⟨(mc_iff.mp h).1, (mc_iff.mp h).2.1, (mc_iff.mp h).2.2.1⟩
/-- A step of those that only move. -/
theorem goes_step {f : List I} {l : Ws} {zs : List Int} {p q : Int} (h : mcB f ⟨l, zs, p, q⟩ = true) {k : Nat} (hm : ∀ j ≤ k, mvA f (itA f p j) = true) :
    mcB f ⟨fil (tbA f p k) l, zs, itA f p k, q⟩ = true ∧ stp f ⟨fil (tbA f p k) l, zs, itA f p k, q⟩ [] = ⟨⟨fil (tbA f p (k + 1)) l, zs, itA f p (k + 1), q⟩, [], 0, 0, []⟩ := by
  have hi := mc_in h
  refine ⟨mvS_right (s := ⟨l, zs, p, q⟩) h (n := k) fun j hj => hm j (by omega), ?_⟩
  exact mvS_step (s := ⟨l, zs, p, q⟩) (it_in hi (n := k) fun j hj => hm j (by omega)) (hm k (Nat.le_refl k)) []
theorem wpQuiet_ldArS {ops : Array Oper} {C : World → Prop} {Q : Act → Prop} {op : Oper} {rest : List Oper} {act : Act} (hw : Region.wanted op (yielded ops act.tmps) = true) (a : Operand) (ho : op.op = .load 25 a)
    (g : Nat) (hx : act.eval a = .pointer (some ⟨g, 0, none⟩)) {l : Ws} {s : Sl} {p q : Int} (h : ∀ w, C w → HasS w g l s p q)
    (hk : wpQuiet Tryz.prog ops C Q rest (act.put op.dst (.agg (cellsW l)))) : wpQuiet Tryz.prog ops C Q (op :: rest) act :=
  wpQuiet_valG hw _ (fun w hw => by
    unfold execOp
    have := run_loadAt_mid (P := Tryz.prog) w g 0 25 (cellsW l).toList _ (HasS.arr (h w hw)) Tryz.underlying25 rfl (by rw [Array.length_toList, cellsW_size]; exact infoAr)
    simp only [ho, hx, this, Array.toArray_toList, Sem.run_bind, Sem.run_pure, Result.andThen_ok]) hk
theorem wpQuiet_ldPtE {ops : Array Oper} {C : World → Prop} {Q : Act → Prop} {op : Oper} {rest : List Oper} {act : Act} (hw : Region.wanted op (yielded ops act.tmps) = true) (a : Operand) (ho : op.op = .load 38 a)
    (g : Nat) (hx : act.eval a = .pointer (some ⟨g, 1, none⟩)) {to : Int} {t : Tb} {n : Int} (h : ∀ w, C w → HasP w g to t n)
    (hk : wpQuiet Tryz.prog ops C Q rest (act.put op.dst (.agg (cellsT t)))) : wpQuiet Tryz.prog ops C Q (op :: rest) act :=
  wpQuiet_valG hw _ (fun w hw => by
    unfold execOp
    have := run_loadAt_mid (P := Tryz.prog) w g 1 38 (cellsT t).toList _ (HasP.tb (h w hw)) Tryz.underlying38 rfl (by rw [cellsT_len]; exact infoTb)
    simp only [ho, hx, this, Array.toArray_toList, Sem.run_bind, Sem.run_pure, Result.andThen_ok]) hk
theorem wpQuiet_ldInE {ops : Array Oper} {C : World → Prop} {Q : Act → Prop} {op : Oper} {rest : List Oper} {act : Act} (hw : Region.wanted op (yielded ops act.tmps) = true) (a : Operand) (ho : op.op = .load 53 a)
    (b o : Nat) (hx : act.eval a = .pointer (some ⟨b, o, none⟩)) {x : I} (h : ∀ w, C w → w.rangeAt b o (cells6 x))
    (hk : wpQuiet Tryz.prog ops C Q rest (act.put op.dst (.agg #[.int .i64 (x).op, .int .i64 (x).d, .int .i64 (x).a, .int .i64 (x).b, .int .i64 (x).n, .int .i64 (x).t]))) : wpQuiet Tryz.prog ops C Q (op :: rest) act :=
  wpQuiet_valG hw _ (fun w hw => by
    unfold execOp
    have := run_loadAt_mid (P := Tryz.prog) w b o 53 (cells6 x) _ (h w hw) Tryz.underlying53 rfl (by rw [cells6_len]; exact infoI)
    simp only [ho, hx, this, Sem.run_bind, Sem.run_pure, Result.andThen_ok]
    rfl) hk
theorem fill_frm {w0 : World} (t : Tb) (l : Ws) (w : World) (h : New w0 w) :
    Calls Tryz.prog 10 #[.agg (cellsT t), .agg (cellsW l)] w fun e w' => e = .returned (.agg (cellsW (fil t l))) ∧ New w0 w' := (fill_any t l w).mono fun _ _ ⟨he, hw⟩ => ⟨he, h.trans hw⟩
theorem rsame_frm {w0 : World} {zs : List Int} {v1 v2 : Value} {w : World} (h1 : Hp w0 v1 zs) (h2 : Hp w0 v2 zs) (hb : zs.length ≤ 1000) (h : New w0 w) :
    Calls Tryz.prog 11 #[v1, v2] w fun e w' => e = .returned (.bool true) ∧ New w0 w' := (rsame_is (h1.new h) (h2.new h) hb (eqB_refl _)).mono fun _ _ ⟨he, hw⟩ => ⟨he, h.trans hw⟩
theorem rmoves_frm {w0 : World} (x : I) {b : Bool} (hb : movesB x.op = b) (w : World) (h : New w0 w) :
    Calls Tryz.prog 12 #[.agg #[.int .i64 (x).op, .int .i64 (x).d, .int .i64 (x).a, .int .i64 (x).b, .int .i64 (x).n, .int .i64 (x).t]] w fun e w' => e = .returned (.bool b) ∧ New w0 w' := (refMoves_any x.op x.d x.a x.b x.n x.t w).mono fun _ _ ⟨he, hw⟩ => ⟨by rw [← hb]; exact he, h.trans hw⟩
set_option maxHeartbeats 16000000 in
set_option maxRecDepth 100000 in
theorem pathRuns_out (v : Value) (f : List I) (l : Ws) (s : Sl) (p q : Int) (zs : List Int) (w : World) (hf : FunAt w v f) (hp : Hp w (.slice s.ao s.n s.c) zs) (hl : Laid w) (h : f.length ≤ 300 → zs.length ≤ 100 → mcB f ⟨l, zs, p, q⟩ = true → False) :
    Calls Tryz.prog 3 #[v, .agg (cellsS l s p q).toArray] w fun e w' => e = .returned (.bool true) ∧ New w w' := by
  obtain ⟨ao, fc, rfl⟩ := hf.form
  have HL := Lib.hid hl
  have HF := Lib.hid hf
  have HP := Lib.hid hp
  have HZ := Lib.hid hp.len
  have HH := Lib.hid h
  have T1 : Hid True := Lib.hid trivial
  have T2 : Hid True := Lib.hid trivial
  clear hl hf hp h
  by_cases h3 : f.length ≤ 300
  · have d3 : decide ((300 : Int) < (f.length : Int)) = false := decide_eq_false (by omega)
    by_cases h1 : s.n ≤ 100
    · have d1 : decide ((100 : Int) < (s.n : Int)) = false := decide_eq_false (by omega)
      have HM : Hid (mcB f ⟨l, zs, p, q⟩ = false) := Lib.hid (by
        cases e : mcB f ⟨l, zs, p, q⟩ with
        | false => rfl
        | true => exact (HH.out h3 (by have := HZ.out; omega) e).elim)
      go_enter Tryz.func3, Tryz.ntmps3
      go_wp2_with (first
        | (clear T1; refine wpList_boxX rfl 28 (.tmp 1) rfl (cellsS l s p q) rfl ?_; intro wx gs hgs hls H1 hn; have HS : Hid (HasS wx gs l s p q) := Lib.hid H1; have HN := Lib.hid hn; have ngs : w.heap.size ≤ gs := hgs; have c48 := HasS.hp HS.out; clear H1 hn hls hgs)
        | (clear T2; refine wpList_ldSG rfl (.tmp 3) rfl gs rfl HS.out ?_)
        | (go_at_call 6; refine (as_any l s p q _).mono ?_; rintro e wa ⟨as1, rfl, ha, hn⟩; have HAs := Lib.hid ha; have IS : Hid (HasS wa gs l s p q) := Lib.hid (HasC.new HS.out hn); have IN := Lib.hid (HN.out.trans hn); clear ha hn)
        | (go_at_call 5; refine (refRight_any _ f ⟨l, zs, p, q⟩ as1 s _ (HF.out.new IN.out) (HP.out.new IN.out) HAs.out).mono ?_; rw [HM.out]; rintro e wb ⟨rfl, hn⟩; have JS : Hid (HasS wb gs l s p q) := Lib.hid (HasC.new IS.out hn); have JN := Lib.hid (IN.out.trans hn); have c49 := HasS.at JS.out; clear hn HAs c48)
        | (go_at_call 7; refine (knows_from _ HL.out JN.out).mono ?_; rintro e wk ⟨rfl, hnk⟩))
      go_ret
      exact ⟨rfl, hnk⟩
    · have d1 : decide ((100 : Int) < (s.n : Int)) = true := decide_eq_true (by omega)
      go_enter Tryz.func3, Tryz.ntmps3
      go_wp2_with (first
        | (clear T1; refine wpList_boxX rfl 28 (.tmp 1) rfl (cellsS l s p q) rfl ?_; intro wx gs hgs hls H1 hn; have HS : Hid (HasS wx gs l s p q) := Lib.hid H1; have HN := Lib.hid hn; have ngs : w.heap.size ≤ gs := hgs; have c48 := HasS.hp HS.out; clear H1 hn hls hgs)
        | (go_at_call 7; refine (knows_from _ HL.out HN.out).mono ?_; rintro e wk ⟨rfl, hnk⟩))
      go_ret
      exact ⟨rfl, hnk⟩
  · have d3 : decide ((300 : Int) < (f.length : Int)) = true := decide_eq_true (by omega)
    go_enter Tryz.func3, Tryz.ntmps3
    go_wp2_with (first
      | (clear T1; refine wpList_boxX rfl 28 (.tmp 1) rfl (cellsS l s p q) rfl ?_; intro wx gs hgs hls H1 hn; have HS : Hid (HasS wx gs l s p q) := Lib.hid H1; have HN := Lib.hid hn; have ngs : w.heap.size ≤ gs := hgs; have c48 := HasS.hp HS.out; clear H1 hn hls hgs)
      | (go_at_call 7; refine (knows_from _ HL.out HN.out).mono ?_; rintro e wk ⟨rfl, hnk⟩))
    go_ret
    exact ⟨rfl, hnk⟩
set_option maxHeartbeats 16000000 in
set_option maxRecDepth 100000 in
theorem pathRuns_in (ao : Option Addr) (n fc : Nat) (f : List I) (l : Ws) (s : Sl) (p q : Int) (zs : List Int) (w : World) (hf : FunAt w (.slice ao n fc) f) (hp : Hp w (.slice s.ao s.n s.c) zs) (hl : Laid w) (h3 : f.length ≤ 300) (hz : zs.length ≤ 100) (hm : mcB f ⟨l, zs, p, q⟩ = true) :
    Calls Tryz.prog 3 #[.slice ao n fc, .agg (cellsS l s p q).toArray] w fun e w' => e = .returned (.bool true) ∧ New w w' := by
  have HL := Lib.hid hl
  have HF := Lib.hid hf
  have HP := Lib.hid hp
  have HLN := Lib.hid hf.len
  have d3 : decide ((300 : Int) < (n : Int)) = false := decide_eq_false (by have := HLN.out; omega)
  have d1 : decide ((100 : Int) < (s.n : Int)) = false := decide_eq_false (by have := hp.len; omega)
  have HM := Lib.hid hm
  have HI := Lib.hid (mc_in hm)
  have HZ : Hid (zs.length ≤ 1000) := Lib.hid (by omega)
  have hn300 : n ≤ 300 := by have := HLN.out; omega
  obtain ⟨o, m, to, tb, hg⟩ := goes_mk (mc_in hm)
  have HG := Lib.hid hg
  have m200 := hg.m200
  have T1 : Hid True := Lib.hid trivial
  have T2 : Hid True := Lib.hid trivial
  have T3 : Hid True := Lib.hid trivial
  have T4 : Hid True := Lib.hid trivial
  have T5 : Hid True := Lib.hid trivial
  have T6 : Hid True := Lib.hid trivial
  have T7 : Hid True := Lib.hid trivial
  have T8 : Hid True := Lib.hid trivial
  clear hl hf hp h3 hz hm hg
  go_enter Tryz.func3, Tryz.ntmps3
  go_wp2_with (first
    | (clear T1; refine wpList_boxX rfl 28 (.tmp 1) rfl (cellsS l s p q) rfl ?_; intro wx gs hgs hls H1 hn; have HS : Hid (HasS wx gs l s p q) := Lib.hid H1; have HN := Lib.hid hn; have ngs : w.heap.size ≤ gs := hgs; have c48 := HasS.hp HS.out; clear H1 hn hls hgs)
    | (clear T2; refine wpList_ldSG rfl (.tmp 3) rfl gs rfl HS.out ?_)
    | (go_at_call 6; refine (as_any l s p q _).mono ?_; rintro e wa ⟨as1, rfl, ha, hn⟩; have HAs := Lib.hid ha; have IS : Hid (HasS wa gs l s p q) := Lib.hid (HasC.new HS.out hn); have IN := Lib.hid (HN.out.trans hn); clear ha hn)
    | (go_at_call 5; refine (refRight_any _ f ⟨l, zs, p, q⟩ as1 s _ (HF.out.new IN.out) (HP.out.new IN.out) HAs.out).mono ?_; rw [HM.out]; rintro e wb ⟨rfl, hn⟩; have JS : Hid (HasS wb gs l s p q) := Lib.hid (HasC.new IS.out hn); have JN := Lib.hid (IN.out.trans hn); have c49 := HasS.at JS.out; clear hn HAs c48)
    | (clear T3; go_at_call 8; refine (path_is (q := to) (t := tb) (k := (m : Int)) HL.out JN.out (HF.out.new JN.out) HI.out HG.out.wy HG.out.eto HG.out.etb HG.out.est).mono ?_; rintro e wc ⟨rfl, hn⟩; have KS : Hid (HasS wc gs l s p q) := Lib.hid (HasC.new JS.out hn); have KN := Lib.hid (JN.out.trans hn); clear hn c49)
    | (clear T4; refine wpList_alX rfl 40 rfl _ zeroP_run _ rfl ?_; intro wd g5 hg5 hl5 H5 hn; have L5 : Hid (HasP wd g5 0 noT 0) := Lib.hid H5; have n5 : w.heap.size ≤ g5 := Nat.le_trans KN.out.size hg5; have LS : Hid (HasS wd gs l s p q) := Lib.hid (HasC.new KS.out hn); have ds5 : gs ≠ g5 := Nat.ne_of_lt (Nat.lt_of_lt_of_le (HasC.lt KS.out) hg5); have LN := Lib.hid (KN.out.trans hn); clear H5 hn)
    | (clear T5; refine wpList_stP rfl rfl (.tmp 5) (.tmp 35) rfl g5 rfl (to := to) (t := tb) (n := (m : Int)) rfl L5.out ?_; intro we h5 k5; have M5 : Hid (HasP we g5 to tb (m : Int)) := Lib.hid h5; have MS : Hid (HasS we gs l s p q) := Lib.hid (HasC.kept LS.out k5 ds5); have MN := Lib.hid (k5.below _ n5 LN.out); have x0 := HasP.at M5.out; have x1 := HasP.st M5.out; clear h5 k5)
    | (clear T6; refine wpList_ldS rfl (.tmp 3) rfl gs rfl MS.out ?_)
    | (clear T7; refine wpList_alX rfl 28 rfl _ zeroS_run _ rfl ?_; intro wf g7 hg7 hl7 H7 hn; have N7 : Hid (HasS wf g7 noWs nilS 0 0) := Lib.hid H7; have n7 : w.heap.size ≤ g7 := Nat.le_trans MN.out.size hg7; have NS : Hid (HasS wf gs l s p q) := Lib.hid (HasC.new MS.out hn); have N5 : Hid (HasP wf g5 to tb (m : Int)) := Lib.hid (HasC.new M5.out hn); have ds7 : gs ≠ g7 := Nat.ne_of_lt (Nat.lt_of_lt_of_le (HasC.lt MS.out) hg7); have d57 : g5 ≠ g7 := Nat.ne_of_lt (Nat.lt_of_lt_of_le (HasC.lt M5.out) hg7); have NN := Lib.hid (MN.out.trans hn); clear H7 hn)
    | (clear T8; refine wpList_stS rfl rfl (.tmp 7) (.tmp 39) rfl g7 rfl (l := l) (s := s) (p := p) (q := q) rfl N7.out ?_; intro wg h7 k7; have O7 : Hid (HasS wg g7 l s p q) := Lib.hid h7; have OS : Hid (HasS wg gs l s p q) := Lib.hid (HasC.kept NS.out k7 ds7); have O5 : Hid (HasP wg g5 to tb (m : Int)) := Lib.hid (HasC.kept N5.out k7 d57); have ON := Lib.hid (k7.below _ n7 NN.out); clear h7 k7 x0 x1))
  go_loopw [8] (fun nv wr => ∃ (k : Nat) (s2 : Sl), nv = .int .i64 (k : Int) ∧ k ≤ m ∧ Hid (HasS wr gs l s p q) ∧ Hid (HasP wr g5 to tb (m : Int)) ∧ Hid (HasS wr g7 (fil (tbA f p k) l) s2 (itA f p k) q) ∧ Hid (Hp wr (.slice s2.ao s2.n s2.c) zs) ∧ Hid (New w wr)) (fun nv _ => m - (intOf nv).toNat)
  case atStart => exact ⟨0, s, rfl, by omega, OS, O5, Lib.hid (by show HasS wg g7 (fil newT l) s p q; rw [fil_new]; exact O7.out), Lib.hid (HP.out.new ON.out), ON⟩
  case round =>
    obtain ⟨k, s2, rfl, hk, RS, R5, R7, RH, RN⟩ := hrel
    have y1 := HasP.st R5.out
    have y0 := HasP.at R5.out
    have U1 : Hid True := Lib.hid trivial
    have U2 : Hid True := Lib.hid trivial
    have U3 : Hid True := Lib.hid trivial
    have U4 : Hid True := Lib.hid trivial
    have U5 : Hid True := Lib.hid trivial
    have U6 : Hid True := Lib.hid trivial
    have U7 : Hid True := Lib.hid trivial
    have U8 : Hid True := Lib.hid trivial
    by_cases hkm : k < m
    · have hkm' : (k : Int) < (m : Int) := by omega
      obtain ⟨hr, hs⟩ := goes_step HM.out (k := k) fun j hj => HG.out.mv j (by omega)
      have HR := Lib.hid hr
      have HST := Lib.hid hs
      clear hr hs
      go_wp2_with (first
        | (clear U1; refine wpList_ldS rfl (.tmp 7) rfl g7 rfl R7.out ?_)
        | (clear U2; go_at_call 9; refine (stepDo_fr HL.out RN.out (HF.out.new RN.out) RH.out (Hp.nil _) (by decide) HR.out HST.out).mono ?_; rintro e wh ⟨s3, ve, so, rfl, h1, h2, h3, hn, f1, _, _⟩; obtain ⟨eo, ec, e1⟩ := h2.form; subst e1; have SH := Lib.hid h1; have SF := Lib.hid f1; have SS : Hid (HasS wh gs l s p q) := Lib.hid (HasC.new RS.out hn); have S5 : Hid (HasP wh g5 to tb (m : Int)) := Lib.hid (HasC.new R5.out hn); have S7 := Lib.hid (HasC.new R7.out hn); have SN := Lib.hid (RN.out.trans hn); have L7 := HasC.lt R7.out; clear h1 h2 h3 hn f1 y0 y1)
        | (clear U3; refine wpList_alX rfl 28 rfl _ zeroS_run _ rfl ?_; intro wi g9 hg9 hl9 H9 hn9; have V9 : Hid (HasS wi g9 noWs nilS 0 0) := Lib.hid H9; clear H9)
        | (clear U4; refine wpList_alX rfl 46 rfl _ zeroO_run _ rfl ?_; intro wj g11 hg11 hl11 H11 hn11; have W11 : Hid (HasO wj g11 0 0 nilS) := Lib.hid H11; have W9 : Hid (HasS wj g9 noWs nilS 0 0) := Lib.hid (HasC.new V9.out hn11); have d911 : g9 ≠ g11 := Nat.ne_of_lt (Nat.lt_of_lt_of_le (HasC.lt V9.out) hg11); have NJ := Lib.hid (hn9.trans hn11); have q11 : wh.heap.size ≤ g11 := Nat.le_trans hn9.size hg11; clear H11 hn9 hn11)
        | (clear U5; refine wpList_stS rfl rfl (.tmp 9) (.tmp 50) rfl g9 rfl (l := fil (tbA f p (k + 1)) l) (s := s3) (p := itA f p (k + 1)) (q := q) rfl W9.out ?_; intro wl h9 k9; have X9 : Hid (HasS wl g9 (fil (tbA f p (k + 1)) l) s3 (itA f p (k + 1)) q) := Lib.hid h9; have X11 : Hid (HasO wl g11 0 0 nilS) := Lib.hid (HasC.kept W11.out k9 (Ne.symm d911)); have NL := Lib.hid (k9.below wh hg9 NJ.out); clear h9 k9)
        | (clear U6; refine wpList_stO rfl rfl (.tmp 11) (.tmp 52) rfl g11 rfl 0 0 so rfl X11.out ?_; intro wm h11 k11; have Y11 : Hid (HasO wm g11 0 0 so) := Lib.hid h11; have Y9 : Hid (HasS wm g9 (fil (tbA f p (k + 1)) l) s3 (itA f p (k + 1)) q) := Lib.hid (HasC.kept X9.out k11 d911); have NM := Lib.hid (k11.below wh q11 NL.out); have YS : Hid (HasS wm gs l s p q) := Lib.hid (HasC.new SS.out NM.out); have Y5 : Hid (HasP wm g5 to tb (m : Int)) := Lib.hid (HasC.new S5.out NM.out); have Y7 := Lib.hid (HasC.new S7.out NM.out); have YH := Lib.hid (SH.out.new NM.out); have YN := Lib.hid (SN.out.trans NM.out); have z0 := HasO.how Y11.out; clear h11 k11)
        | (clear U7; refine wpList_ldS rfl (.tmp 9) rfl g9 rfl Y9.out ?_)
        | (clear U8; refine wpList_stS rfl rfl (.tmp 7) (.tmp 66) rfl g7 rfl (l := fil (tbA f p (k + 1)) l) (s := s3) (p := itA f p (k + 1)) (q := q) rfl Y7.out ?_; intro wn h7 k7; have Z7 := Lib.hid h7; have ZS : Hid (HasS wn gs l s p q) := Lib.hid (HasC.kept YS.out k7 ds7); have Z5 : Hid (HasP wn g5 to tb (m : Int)) := Lib.hid (HasC.kept Y5.out k7 d57); have ZH := Lib.hid (YH.out.far SF.out L7 k7.other); have ZN := Lib.hid (k7.below _ n7 YN.out); clear h7 k7))
      go_roundw
      case rel => exact ⟨k + 1, s3, by go_num, by omega, ZS, Z5, Z7, ZH, ZN⟩
      case measure => simp [intOf]; omega
    · obtain rfl : k = m := by omega
      have hfin := HG.out.fin
      rcases hfin with ⟨e1, e2, _⟩ | ⟨t0, t1, _, e1, e2, e3⟩
      · have dn : decide (to < 0) = true := decide_eq_true (by omega)
        have k0 : (k : Int) = 0 := by omega
        clear e1 e2
        go_wp2_with (first
          | (go_at_call 7; refine (knows_from _ HL.out RN.out).mono ?_; rintro e wk ⟨rfl, hnk⟩))
        go_ret
        exact ⟨rfl, hnk⟩
      · have dn : decide (to < 0) = false := decide_eq_false (by omega)
        obtain ⟨qn, HQ⟩ : ∃ qn : Nat, Hid (to = (qn : Int)) := ⟨to.toNat, Lib.hid (by omega)⟩
        have hqn : qn < n := by have := HQ.out; have := HLN.out; omega
        obtain ⟨fb, fo, x, ex, hix, hrg⟩ := FunAt.ix HF.out hqn
        have HX : Hid (movesB x.op = false) := Lib.hid (by
          have : insA f to = x := by
            rw [HQ.out]
            unfold insA
            rw [Int.toNat_natCast, List.getD_eq_getElem?_getD, ex]
            rfl
          unfold mvA at e3
          rw [this] at e3
          exact e3)
        rw [← HQ.out] at hix
        have HRG := Lib.hid hrg
        rw [e1] at R7
        rw [e2] at R7
        clear ex hrg e1 e2 e3 t0 t1
        go_wp2_with fail
        have hne := newW_any wr
        refine wp_region_new (New.refl wr) (by kernel_rfl) (by kernel_rfl) ?_
        have c1 : ∀ y : NewW wr, y.val.cell? ⟨g7, 49, none⟩ = some (.int .i64 to) := fun y => y.property.cell (HasS.at R7.out)
        have c2 : ∀ y : NewW wr, y.val.cell? ⟨g5, 0, none⟩ = some (.int .i64 to) := fun y => y.property.cell (HasP.at R5.out)
        have c3 : ∀ y : NewW wr, y.val.cell? ⟨g7, 48, none⟩ = some (.slice s2.ao s2.n s2.c) := fun y => y.property.cell (HasS.hp R7.out)
        have c4 : ∀ y : NewW wr, y.val.cell? ⟨gs, 48, none⟩ = some (.slice s.ao s.n s.c) := fun y => y.property.cell (HasS.hp RS.out)
        have c5 : ∀ y : NewW wr, y.val.cell? ⟨g7, 50, none⟩ = some (.int .i64 q) := fun y => y.property.cell (HasS.ask R7.out)
        have c6 : ∀ y : NewW wr, y.val.cell? ⟨gs, 50, none⟩ = some (.int .i64 q) := fun y => y.property.cell (HasS.ask RS.out)
        have C7 : Hid (∀ w', (∃ y : NewW wr, w' = y.val) → HasS w' g7 (fil tb l) s2 to q) := Lib.hid (by rintro w' ⟨y, rfl⟩; exact HasC.new R7.out y.property)
        have CS : Hid (∀ w', (∃ y : NewW wr, w' = y.val) → HasS w' gs l s p q) := Lib.hid (by rintro w' ⟨y, rfl⟩; exact HasC.new RS.out y.property)
        have C5 : Hid (∀ w', (∃ y : NewW wr, w' = y.val) → HasP w' g5 to tb (k : Int)) := Lib.hid (by rintro w' ⟨y, rfl⟩; exact HasC.new R5.out y.property)
        have CI : Hid (∀ w', (∃ y : NewW wr, w' = y.val) → w'.rangeAt fb fo (cells6 x)) := Lib.hid (by rintro w' ⟨y, rfl⟩; exact HRG.out _ (RN.out.trans y.property))
        have HK : Hid (Laid wr) := Lib.hid (HL.out.new RN.out)
        have HPw := Lib.hid (HP.out.new RN.out)
        have qt : (to == to) = true := by simp
        have qq : (q == q) = true := by simp
        have e1 : ∀ w, (binOp .eql 25 (.agg (cellsW (fil tb l))) (.agg (cellsW (fil tb l)))).run Tryz.prog w = .ok (.bool true) w := fun w => by rw [eql_W, eqW_iff.mpr (fun i _ => rfl)]
        have e2 : ∀ x y w, (eqGuard .eql 25 x y (.agg (cellsW (fil tb l))) (.agg (cellsW (fil tb l)))).run Tryz.prog w = .ok () w := fun x y w => guard_W _ _ _ x y w
        clear RS R5 R7 y0 y1
        repeat (first
          | (refine wpQuiet_ldArS rfl (.tmp 82) rfl g7 rfl C7.out ?_; simp only [Act.put, List.setIfInBounds_toArray, List.set_cons_zero, List.set_cons_succ])
          | (refine wpQuiet_ldPtE rfl (.tmp 84) rfl g5 rfl C5.out ?_; simp only [Act.put, List.setIfInBounds_toArray, List.set_cons_zero, List.set_cons_succ])
          | (refine wpQuiet_ldArS rfl (.tmp 86) rfl gs rfl CS.out ?_; simp only [Act.put, List.setIfInBounds_toArray, List.set_cons_zero, List.set_cons_succ])
          | (refine wpQuiet_ldInE rfl (.tmp 109) rfl fb fo rfl CI.out ?_; simp only [Act.put, List.setIfInBounds_toArray, List.set_cons_zero, List.set_cons_succ])
          | go_big_quiet_step (first | (go_at_call 10; exact quiet_new (fill_frm _ _ _ (Subtype.property _))) | (go_at_call 11; exact quiet_new (rsame_frm RH.out HPw.out HZ.out (Subtype.property _))) | (go_at_call 12; exact quiet_new (rmoves_frm x HX.out _ (Subtype.property _))) | (go_at_call 7; exact quiet_new (knows_from _ HK.out (Subtype.property _)))))
        refine wpQuiet_nil ?_
        intro wz hnz
        go_wp2
        go_ret
        exact ⟨rfl, RN.out.trans hnz⟩
theorem pathRuns_law (v : Value) (f : List I) (l : Ws) (s : Sl) (p q : Int) (zs : List Int) (w : World) (hf : FunAt w v f) (_hi : ∀ y ∈ f, In64I y) (_hm : f.length ≤ maxLen) (hp : Hp w (.slice s.ao s.n s.c) zs) (hl : Laid w) :
    Calls Tryz.prog 3 #[v, .agg (cellsS l s p q).toArray] w fun e w' => e = .returned (.bool true) ∧ New w w' := by
  by_cases h : f.length ≤ 300 ∧ zs.length ≤ 100 ∧ mcB f ⟨l, zs, p, q⟩ = true
  · obtain ⟨ao, fc, rfl⟩ := hf.form
    exact pathRuns_in ao _ fc f l s p q zs w hf hp hl h.1 h.2.1 h.2.2
  · exact pathRuns_out v f l s p q zs w hf hp hl fun h1 h2 h3 => h ⟨h1, h2, h3⟩
end Go.Proofs.YtfjlglnjonijdaaGreatDoor
