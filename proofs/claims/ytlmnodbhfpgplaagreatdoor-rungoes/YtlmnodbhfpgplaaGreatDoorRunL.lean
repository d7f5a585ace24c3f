/-
  run.Run of what is not right; the reference's Run of what may be run.
-/
import Derived.Test.YtlmnodbhfpgplaaGreatDoorRunOn
namespace Go.Proofs.YtlmnodbhfpgplaaGreatDoor
open Go.RowKit

set_option maxHeartbeats 8000000 in
set_option maxRecDepth 100000 in
theorem run_bad {w0 : World} {v : Value} {f : List I} {rs : Nat → Int} {h a : Sl} {n : Int} {zs az : List Int} {w : World} (hl : Laid w0) (h0 : New w0 w) (hf : FunAt w v f) (hh : Hp w (svS h) zs) (ha : Hp w (svS a) az) (hb : fairB f zs az n = false) :
    Calls Tryz.prog 8 #[v, .agg (caC rs h a n).toArray] w fun e w' => e = .returned (.tuple #[.agg (trC nilS 0 0 nilS 0 0).toArray, .agg (cellsS noWs nilS 0 0).toArray, .int .i64 1]) ∧ New w w' := by
  obtain ⟨fo, fc, rfl⟩ := hf.form
  have HL := Lib.hid (hl.new h0)
  have HF := Lib.hid hf
  have HC : Hid (caseN h.n a.n n = caseN zs.length az.length n) := Lib.hid (by rw [Hp.len hh, Hp.len ha])
  have HB := Lib.hid hb
  clear hl h0 hf hh ha hb
  have T1 : Hid True := Lib.hid trivial
  have T2 : Hid True := Lib.hid trivial
  have T3 : Hid True := Lib.hid trivial
  have T4 : Hid True := Lib.hid trivial
  have T5 : Hid True := Lib.hid trivial
  have T6 : Hid True := Lib.hid trivial
  cases q1 : ((chkF f).2 == 0) with
  | true =>
    have q2 : caseN h.n a.n n = false := by rw [HC.out]; have := HB.out; unfold fairB at this; rwa [q1, Bool.true_and] at this
    go_enter Tryz.func8, Tryz.ntmps8
    go_wp2_with (first
      | (go_at_call 22; refine (asmRight_any _ f _ (HL.out.new HN.out) (HF.out.new HN.out)).mono ?_; rw [q1]; rintro e wx ⟨rfl, hn⟩; replace A3 : Hid (HasK wx g3 rs h a n) := Lib.hid (HasC.new A3.out hn); replace A4 : Hid (HasTr wx g4 nilS 0 0 nilS 0 0) := Lib.hid (HasC.new A4.out hn); replace A5 : Hid (HasS wx g5 noWs nilS 0 0) := Lib.hid (HasC.new A5.out hn); replace HN := Lib.hid (HN.out.trans hn); clear hn)
      | (go_at_call 21; refine (runRight_any rs h a n _).mono ?_; rw [q2]; rintro e wx ⟨rfl, hn⟩; replace A4 : Hid (HasTr wx g4 nilS 0 0 nilS 0 0) := Lib.hid (HasC.new A4.out hn); replace A5 : Hid (HasS wx g5 noWs nilS 0 0) := Lib.hid (HasC.new A5.out hn); replace HN := Lib.hid (HN.out.trans hn); clear hn)
      | (clear T1; refine wpList_boxX rfl 26 (.tmp 1) rfl (caC rs h a n) rfl ?_; intro w1 g3 hg3 hl3 H3 hn3; have A3 : Hid (HasK w1 g3 rs h a n) := Lib.hid H3; clear H3)
      | (clear T2; refine wpList_alX rfl 33 rfl _ zeroT_run _ rfl ?_; intro w2 g4 hg4 hl4 H4 hn4; have A4 : Hid (HasTr w2 g4 nilS 0 0 nilS 0 0) := Lib.hid H4; clear H4)
      | (clear T3; refine wpList_alX rfl 38 rfl _ zeroS_run _ rfl ?_; intro wx g5 hg5 hl5 H5 hn5; have A5 : Hid (HasS wx g5 noWs nilS 0 0) := Lib.hid H5; have l45 : g4 < g5 := Nat.lt_of_lt_of_le hl4 hg5; have n4 : w.heap.size ≤ g4 := Nat.le_trans hn3.size hg4; replace A3 : Hid (HasK wx g3 rs h a n) := Lib.hid (HasC.new A3.out (hn4.trans hn5)); replace A4 : Hid (HasTr wx g4 nilS 0 0 nilS 0 0) := Lib.hid (HasC.new A4.out hn5); have HN := Lib.hid ((hn3.trans hn4).trans hn5); clear H5 hn3 hn4 hn5)
      | (clear T4; refine wpList_ldK (by rfl) (.tmp 3) rfl g3 rfl A3.out ?_)
      | (clear T5; refine wpList_stTr rfl rfl (.tmp 4) (.tmp 22) rfl g4 rfl nilS 0 0 nilS 0 0 rfl A4.out ?_; intro wu H1 k1; replace A4 : Hid (HasTr wu g4 nilS 0 0 nilS 0 0) := Lib.hid H1; replace A5 : Hid (HasS wu g5 noWs nilS 0 0) := Lib.hid (HasC.kept A5.out k1 (Nat.ne_of_gt l45)); replace HN := Lib.hid (k1.below _ n4 HN.out); clear H1 k1)
      | (clear T6; refine wpList_stS rfl rfl (.tmp 5) (.tmp 23) rfl g5 rfl (l := noWs) (s := nilS) (p := 0) (q := 0) rfl A5.out ?_; intro wz Hz kz))
    exact bodyPost_ret (results_cct (p := 4) (v := 5) (u := 6) rfl _ _ g4 g5 _ _ _ rfl (loadVar_C (HasC.kept A4.out kz (Nat.ne_of_lt l45)) Tryz.underlying33 rfl infoTr) rfl (loadVar_C Hz Tryz.underlying38 rfl (by rw [cellsS_len]; exact infoSt)) rfl) rfl ⟨rfl, kz.below _ (Nat.le_trans n4 (Nat.le_of_lt l45)) HN.out⟩
  | false =>
    clear T4
    go_enter Tryz.func8, Tryz.ntmps8
    go_wp2_with (first
      | (go_at_call 22; refine (asmRight_any _ f _ (HL.out.new HN.out) (HF.out.new HN.out)).mono ?_; rw [q1]; rintro e wx ⟨rfl, hn⟩; replace A4 : Hid (HasTr wx g4 nilS 0 0 nilS 0 0) := Lib.hid (HasC.new A4.out hn); replace A5 : Hid (HasS wx g5 noWs nilS 0 0) := Lib.hid (HasC.new A5.out hn); replace HN := Lib.hid (HN.out.trans hn); clear hn)
      | (clear T1; refine wpList_boxX rfl 26 (.tmp 1) rfl (caC rs h a n) rfl ?_; intro w1 g3 hg3 hl3 H3 hn3; clear H3)
      | (clear T2; refine wpList_alX rfl 33 rfl _ zeroT_run _ rfl ?_; intro w2 g4 hg4 hl4 H4 hn4; have A4 : Hid (HasTr w2 g4 nilS 0 0 nilS 0 0) := Lib.hid H4; clear H4)
      | (clear T3; refine wpList_alX rfl 38 rfl _ zeroS_run _ rfl ?_; intro wx g5 hg5 hl5 H5 hn5; have A5 : Hid (HasS wx g5 noWs nilS 0 0) := Lib.hid H5; have l45 : g4 < g5 := Nat.lt_of_lt_of_le hl4 hg5; have n4 : w.heap.size ≤ g4 := Nat.le_trans hn3.size hg4; replace A4 : Hid (HasTr wx g4 nilS 0 0 nilS 0 0) := Lib.hid (HasC.new A4.out hn5); have HN := Lib.hid ((hn3.trans hn4).trans hn5); clear H5 hn3 hn4 hn5)
      | (clear T5; refine wpList_stTr rfl rfl (.tmp 4) (.tmp 22) rfl g4 rfl nilS 0 0 nilS 0 0 rfl A4.out ?_; intro wu H1 k1; replace A4 : Hid (HasTr wu g4 nilS 0 0 nilS 0 0) := Lib.hid H1; replace A5 : Hid (HasS wu g5 noWs nilS 0 0) := Lib.hid (HasC.kept A5.out k1 (Nat.ne_of_gt l45)); replace HN := Lib.hid (k1.below _ n4 HN.out); clear H1 k1)
      | (clear T6; refine wpList_stS rfl rfl (.tmp 5) (.tmp 23) rfl g5 rfl (l := noWs) (s := nilS) (p := 0) (q := 0) rfl A5.out ?_; intro wz Hz kz))
    exact bodyPost_ret (results_cct (p := 4) (v := 5) (u := 6) rfl _ _ g4 g5 _ _ _ rfl (loadVar_C (HasC.kept A4.out kz (Nat.ne_of_lt l45)) Tryz.underlying33 rfl infoTr) rfl (loadVar_C Hz Tryz.underlying38 rfl (by rw [cellsS_len]; exact infoSt)) rfl) rfl ⟨rfl, kz.below _ (Nat.le_trans n4 (Nat.le_of_lt l45)) HN.out⟩
/-- On with its answers as parameters. -/
theorem on_is {v : Value} {f : List I} {az : List Int} {ca : Sl} {k : Int} {a s e o : Sl} {l : Ws} {zs : List Int} {p q : Int} {es : List Ev} {how val : Int} {oh : List Int} {st wk : Int} {w : World} (hf : FunAt w v f) (ha : Hp w (svS ca) az) (hal : az.length ≤ 100000) (hw : WsAt w a l) (hp : Hp w (svS s) zs) (he : EvAt w (svS e) es) (ho : Hp w (svS o) oh) (hm : mcB f ⟨l, zs, p, q⟩ = true)
    (hk : 0 ≤ k) (hs : 0 ≤ st ∧ st + k ≤ 20000) (hwk : 0 ≤ wk ∧ wk + k ≤ 20000) (hel : (es.length : Int) + k ≤ 20000) {G0 : Nat → Prop} (hG0 : ∀ k, G0 k → k < w.heap.size) (i1 : Ap G0 (svS e) es) (i2 : ApS G0 a) (i3 : Ap G0 (svS s) zs) (i4 : Ap G0 (svS o) oh) {es2 : List Ev} {how2 val2 st2 wk2 p2 q2 : Int} {oh2 z2 : List Int} {l2 : Ws} (hR : onR f az k.toNat ⟨l, zs, p, q⟩ ⟨es, how, val, oh, st, wk⟩ = (⟨es2, how2, val2, oh2, st2, wk2⟩, ⟨l2, z2, p2, q2⟩)) :
    Calls Tryz.prog 9 #[v, .agg (refC a s p q).toArray, .agg (trC e how val o st wk).toArray, .slice ca.ao ca.n ca.c, .int .i64 k] w fun r w' => ∃ (ev so a' s' : Sl), r = .returned (.tuple #[.agg (trC ev how2 val2 so st2 wk2).toArray, .agg (refC a' s' p2 q2).toArray]) ∧ EvAt w' (svS ev) es2 ∧ Hp w' (svS so) oh2 ∧ WsAt w' a' l2 ∧ Hp w' (svS s') z2 ∧ New w w' ∧ Ap G0 (svS ev) es2 ∧ Ap G0 (svS so) oh2 ∧ ApS G0 a' ∧ Ap G0 (svS s') z2 := by
  obtain ⟨fo, fc, rfl⟩ := hf.form
  have := on_in f az fo _ fc ca k.toNat a s e o l zs p q es how val oh st wk w hf ha hal hw hp he ho hm (by omega) (by omega) (by omega) G0 hG0 i1 i2 i3 i4
  rw [show ((k.toNat : Nat) : Int) = k by omega, hR] at this
  exact this
end Go.Proofs.YtlmnodbhfpgplaaGreatDoor
