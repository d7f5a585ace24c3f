/-
  The reference's Do of an instruction that only moves.
-/
import Derived.Test.YtdghhedenjgjiaaGreatDoorStepO
namespace Go.Proofs.YtdghhedenjgjiaaGreatDoor
open Go.RowKit

set_option maxHeartbeats 16000000 in
set_option maxRecDepth 100000 in
theorem refStep_moves (ao : Option Addr) (n cap : Nat) (f : List I) (l : Ws) (zs : List Int) (p q : Int) (a s : Sl) (az : List Int) (bo : Option Addr) (bn bc : Nat) (w : World) (hf : FunAt w (.slice ao n cap) f) (hw : WsAt w a l) (hp : Hp w (.slice s.ao s.n s.c) zs) (ha : Hp w (.slice bo bn bc) az) (_hal : bn ≤ 100000)
    (hm : mcB f ⟨l, zs, p, q⟩ = true) (o nn t : Int) (kd ka kb : Nat) (hkd : kd < 24) (hka : ka < 24) (hkb : kb < 24) (ho : o = 16 ∨ o = 1 ∨ o = 2 ∨ o = 3) (hx : insA f p = ⟨o, kd, ka, kb, nn, t⟩) :
    Calls Tryz.prog 18 #[.slice ao n cap, .agg (refC a s p q).toArray, .slice bo bn bc] w fun e w' => Dm w w' e a s (stp f ⟨l, zs, p, q⟩ az) := by
  have hmm := mc_iff.mp hm
  have hr := (right_iff.mp hmm.1).1
  have hp0 : 0 ≤ p := hmm.2.1
  have hpn : p < f.length := hmm.2.2.1
  have hp1 : p < 200 := by omega
  have hq0 : 0 ≤ q := hmm.2.2.2.2.1
  have h16 : zs.length ≤ 16 := hmm.2.2.2.1
  have h24 := hw.n
  obtain ⟨a1, a2, a3⟩ := a
  have h24' : a2 = 24 := h24
  subst h24'
  obtain ⟨fb, fo, x, ex, hix, hrg⟩ := FunAt.ix hf (i := p.toNat) (by have := hf.len; omega)
  rw [show ((p.toNat : Nat) : Int) = p from by omega] at hix
  have hxe : x = ⟨o, kd, ka, kb, nn, t⟩ := by
    rw [← hx]
    unfold insA
    rw [List.getD_eq_getElem?_getD, ex]
    rfl
  subst hxe
  have HW : Hid (∀ w', New w w' → WsAt w' ⟨a1, 24, a3⟩ l) := Lib.hid (fun w' h => hw.new h)
  have HP : Hid (∀ w', New w w' → Hp w' (.slice s.ao s.n s.c) zs) := Lib.hid (fun w' h => hp.new h)
  have HA : Hid (∀ w', New w w' → Hp w' (.slice bo bn bc) az) := Lib.hid (fun w' h => ha.new h)
  have HAL : Hid (bn = az.length) := Lib.hid ha.len
  have HX := Lib.hid hrg
  have HIX := Lib.hid hx
  have Tq1 : Hid True := Lib.hid trivial
  have Tq2 : Hid True := Lib.hid trivial
  have Tq3 : Hid True := Lib.hid trivial
  have Tq4 : Hid True := Lib.hid trivial
  have Tq5 : Hid True := Lib.hid trivial
  have Tq6 : Hid True := Lib.hid trivial
  have Tq7 : Hid True := Lib.hid trivial
  have Tq8 : Hid True := Lib.hid trivial
  have hkd' : (kd : Int) < 24 := by omega
  have hka' : (ka : Int) < 24 := by omega
  have hkb' : (kb : Int) < 24 := by omega
  clear hf hw hp ha hrg ex hmm hr hpn hx hm h24
  go_enter Tryz.func18, Tryz.ntmps18
  go_upto_region 3 with (first
    | (clear Tq1; refine wpList_boxX rfl 40 (.tmp 1) rfl (refC ⟨a1, 24, a3⟩ s p q) rfl ?_; intro w1 g4 hg4 hl4 H4 hn1; have A4 : Hid (HasRf w1 g4 ⟨a1, 24, a3⟩ s p q) := Lib.hid H4; clear H4)
    | (clear Tq2; refine wpList_alX rfl 40 rfl _ zeroR_run _ rfl ?_; intro w2 g6 hg6 hl6 H6 hn2; have A6 : Hid (HasRf w2 g6 nilS nilS 0 0) := Lib.hid H6; clear H6)
    | (clear Tq3; refine wpList_alX rfl 33 rfl _ zeroO_run _ rfl ?_; intro w3 g8 hg8 hl8 H8 hn3; have A8 : Hid (HasO w3 g8 0 0 nilS) := Lib.hid H8; replace A6 : Hid (HasRf w3 g6 nilS nilS 0 0) := Lib.hid (HasC.new A6.out hn3); replace A4 : Hid (HasRf w3 g4 ⟨a1, 24, a3⟩ s p q) := Lib.hid (HasC.new (HasC.new A4.out hn2) hn3); have HN := Lib.hid ((hn1.trans hn2).trans hn3); have c2 := HasRf.at A4.out; have n6 : w.heap.size ≤ g6 := Nat.le_trans hn1.size hg6; have n8 : w.heap.size ≤ g8 := Nat.le_trans (hn1.trans hn2).size hg8; have d46 : g4 < g6 := Nat.lt_of_lt_of_le hl4 hg6; have d68 : g6 < g8 := Nat.lt_of_lt_of_le hl6 hg8; clear H8 hn1 hn2 hn3 hg6 hl4 hl6 hg8)
    | (clear Tq4; refine wpList_ldE rfl (.tmp 23) rfl fb fo rfl (HX.out _ HN.out) ?_)
    | (clear Tq5; refine wpList_alX rfl 72 rfl _ Tryz.zeroValue72 [.int .i64 0, .int .i64 0, .int .i64 0, .int .i64 0, .int .i64 0, .int .i64 0] rfl ?_; intro w4 g9 hg9 hl9 H9 hn4; have I9 := Lib.hid H9; clear H9)
    | (clear Tq6; refine wpList_stX rfl rfl 72 (.tmp 9) (.tmp 24) rfl g9 0 rfl _ rfl I9.out (cells6 ⟨o, kd, ka, kb, nn, t⟩) rfl (by simp [cells6]) (by simp [cells6, Value.oneCell']) (by rw [cells6_len]; exact infoI) (cs' := cells6 ⟨o, kd, ka, kb, nn, t⟩) (by simp [cells6]) ?_; intro w5 H5 k5; have hn5 : New w3 w5 := k5.below w3 hg9 hn4; replace I9 : Hid (Has w5 g9 ⟨o, kd, ka, kb, nn, t⟩) := Lib.hid H5; have d89 : g8 < g9 := Nat.lt_of_lt_of_le hl8 hg9; replace A4 : Hid (HasRf w5 g4 ⟨a1, 24, a3⟩ s p q) := Lib.hid (HasC.new A4.out hn5); replace A6 : Hid (HasRf w5 g6 nilS nilS 0 0) := Lib.hid (HasC.new A6.out hn5); replace A8 : Hid (HasO w5 g8 0 0 nilS) := Lib.hid (HasC.new A8.out hn5); replace HN := Lib.hid (HN.out.trans hn5); have x0 := HasRf.l A4.out; have x1 := HasRf.hp A4.out; have x2 := HasRf.at A4.out; have x3 := HasRf.ask A4.out; have z5 := k5.size; clear H5 k5 hn4 hn5 hl8)
    | (clear Tq7; refine wpList_alX rfl 40 rfl _ zeroR_run _ rfl ?_; intro w6 g10 hg10 hl10 H10 hn6; have A10 : Hid (HasRf w6 g10 nilS nilS 0 0) := Lib.hid H10; clear H10)
    | (clear Tq8; refine wpList_stRf rfl rfl (.tmp 10) (.tmp 34) rfl g10 rfl ⟨a1, 24, a3⟩ s (p + 1) q rfl A10.out ?_; intro wy H7 k7; have hn7 : New w5 wy := k7.below w5 hg10 hn6; have d910 : g9 < g10 := Nat.lt_of_lt_of_le (heap_lt I9.out) hg10; have D : Hid (Dq w.heap.size g4 g6 g8 g9 g10) := Lib.hid ⟨n6, n8, Nat.le_trans HN.out.size hg10, by omega, by omega, by omega, by omega, by omega, by omega, by omega, by omega, by omega⟩; have FR : Hid (Fq w wy g4 g6 g8 g9 g10 ⟨a1, 24, a3⟩ s p q ⟨o, kd, ka, kb, nn, t⟩ ⟨a1, 24, a3⟩ s (p + 1) q) := Lib.hid ⟨HasC.new A4.out hn7, HasC.new A6.out hn7, HasC.new A8.out hn7, I9.out.new hn7, H7, HN.out.trans hn7⟩; obtain ⟨c0, c1, c2, c3, d0, d1, d2, d3, d4, d5⟩ := FR.out.cells; clear H7 k7 hn6 hn7 hg10 hl10 A4 A6 A8 A10 I9 HN x0 x1 x2 x3 n6 n8 d46 d68 d89 d910 z5 hg9 hl9))
  rcases ho with rfl | rfl | rfl | rfl
  · have HT : Hid (stp f ⟨l, zs, p, q⟩ az = ⟨⟨l, zs, t, q⟩, [], 0, 0, []⟩) := Lib.hid (stp_go HIX.out (knw_moves rfl l) (by simp [flw]))
    have Tr1 : Hid True := Lib.hid trivial
    have Tr2 : Hid True := Lib.hid trivial
    have Tr3 : Hid True := Lib.hid trivial
    have Tr4 : Hid True := Lib.hid trivial
    go_wp2_with (first
      | (clear Tr1; refine wpList_stR2 rfl rfl (.tmp 40) (.tmp 39) rfl g10 rfl t rfl FR.out.nx ?_; intro wy Hy ky; replace FR := Lib.hid (FR.out.turn D.out Hy ky); obtain ⟨c0, c1, c2, c3, d0, d1, d2, d3, d4, d5⟩ := FR.out.cells)
      | (clear Tr2; refine wpList_ldRf rfl (.tmp 10) rfl g10 rfl FR.out.nx ?_)
      | (clear Tr3; refine wpList_stRf rfl rfl (.tmp 6) (.tmp 41) rfl g6 rfl ⟨a1, 24, a3⟩ s t q rfl FR.out.res ?_; intro wz Hz kz)
      | (clear Tr4; refine wpList_stO rfl rfl (.tmp 8) (.tmp 42) rfl g8 rfl (0) (0) nilS rfl (HasC.kept FR.out.out kz (Ne.symm D.out.d68)) ?_; intro wo Ho ko))
    have NO : New w wo := ko.below _ D.out.n8 (kz.below _ D.out.n6 FR.out.new)
    exact bodyPost_ret (results_ctc (p := 6) (u := 7) (v := 8) rfl _ _ g6 g8 _ (.slice none 0 0) _ rfl (loadVar_C (HasC.kept Hz ko D.out.d68) Tryz.underlying40 rfl infoRf) rfl rfl (loadVar_C Ho Tryz.underlying33 rfl infoOut)) rfl (Dm.of HT.out (HW.out _ NO) (HP.out _ NO) (EvAt.nil _) (Hp.nil _) NO (.inl rfl) (.inl rfl) (.inl rfl) (.inr (.inl rfl)))
  · have HT : Hid (stp f ⟨l, zs, p, q⟩ az = ⟨⟨updW l kd (true, nn), zs, p + 1, q⟩, [], 0, 0, []⟩) := Lib.hid (stp_go HIX.out (knw_moves rfl l) (by simp [flw]))
    have Tr1 : Hid True := Lib.hid trivial
    have Tr2 : Hid True := Lib.hid trivial
    have Tr3 : Hid True := Lib.hid trivial
    have Tr4 : Hid True := Lib.hid trivial
    go_wp2_with (first
      | (go_at_call 40; have b6 := HasC.lt FR.out.res; have b8 := HasC.lt FR.out.out; have b10 := HasC.lt FR.out.nx; refine (refWith_any l kd hkd (true, nn) ⟨a1, 24, a3⟩ _ (HW.out _ FR.out.new)).mono ?_; rintro e w7 ⟨a7, rfl, hws, hn, hfar⟩; have HWS := Lib.hid hws; have HFS := Lib.hid hfar; clear hws hfar; replace FR := Lib.hid (FR.out.grow hn); clear hn; obtain ⟨c0, c1, c2, c3, d0, d1, d2, d3, d4, d5⟩ := FR.out.cells)
      | (clear Tr1; refine wpList_stR0 rfl rfl (.tmp 54) (.tmp 53) rfl g10 rfl a7 rfl FR.out.nx ?_; intro wy Hy ky; replace HWS := Lib.hid (WsAt.far HWS.out HFS.out b10 ky.other); replace FR := Lib.hid (FR.out.turn D.out Hy ky); obtain ⟨c0, c1, c2, c3, d0, d1, d2, d3, d4, d5⟩ := FR.out.cells)
      | (clear Tr2; refine wpList_ldRf rfl (.tmp 10) rfl g10 rfl FR.out.nx ?_)
      | (clear Tr3; refine wpList_stRf rfl rfl (.tmp 6) (.tmp 55) rfl g6 rfl a7 s (p + 1) q rfl FR.out.res ?_; intro wz Hz kz)
      | (clear Tr4; refine wpList_stO rfl rfl (.tmp 8) (.tmp 56) rfl g8 rfl (0) (0) nilS rfl (HasC.kept FR.out.out kz (Ne.symm D.out.d68)) ?_; intro wo Ho ko))
    have NO : New w wo := ko.below _ D.out.n8 (kz.below _ D.out.n6 FR.out.new)
    exact bodyPost_ret (results_ctc (p := 6) (u := 7) (v := 8) rfl _ _ g6 g8 _ (.slice none 0 0) _ rfl (loadVar_C (HasC.kept Hz ko D.out.d68) Tryz.underlying40 rfl infoRf) rfl rfl (loadVar_C Ho Tryz.underlying33 rfl infoOut)) rfl (Dm.of HT.out (WsAt.far (WsAt.far HWS.out HFS.out b6 kz.other) HFS.out b8 ko.other) (HP.out _ NO) (EvAt.nil _) (Hp.nil _) NO (.inr (HFS.out.mono (Nat.le_trans D.out.n6 (Nat.le_of_lt b6)))) (.inl rfl) (.inl rfl) (.inr (.inl rfl)))
  · have HT : Hid (stp f ⟨l, zs, p, q⟩ az = ⟨⟨updW l kd (l ka), zs, p + 1, q⟩, [], 0, 0, []⟩) := Lib.hid (stp_go HIX.out (knw_moves rfl l) (by simp [flw]))
    go_wp2_with fail
    obtain ⟨ab, af, hixA, hrgA⟩ := ElAt.ix (show ElAt w (.slice a1 24 a3) 24 (fun i => wcells (l i)) from HW.out w (New.refl w)) 38 Tryz.underlying38 sizeWd hka
    obtain ⟨eb, ef, hixD, hrgD⟩ := ElAt.ix (show ElAt w (.slice a1 24 a3) 24 (fun i => wcells (l i)) from HW.out w (New.refl w)) 38 Tryz.underlying38 sizeWd hkd
    have b6 := HasC.lt FR.out.res
    have b8 := HasC.lt FR.out.out
    have b10 := HasC.lt FR.out.nx
    have F0 := Lib.hid (FR.out.grow ((New.refl wy).drew))
    have S0 : Hid (New w wy.drew ∧ HasRf wy.drew g4 ⟨a1, 24, a3⟩ s p q ∧ Has wy.drew g9 ⟨2, kd, ka, kb, nn, t⟩) := Lib.hid ⟨F0.out.new, F0.out.st, F0.out.ins⟩
    refine wp_region_noPanic ?_
    refine wp_region_held_drew (S := fun w' => New w w' ∧ HasRf w' g4 ⟨a1, 24, a3⟩ s p q ∧ Has w' g9 ⟨2, kd, ka, kb, nn, t⟩) (by kernel_rfl) S0.out (fun _ => ?_)
    refine wpAnyH_take (i := 0) (v := .pointer (some ⟨g4, 0, none⟩)) rfl (by kernel_rfl) (by kernel_rfl) (by kernel_rfl) (fun _ _ _ h => h) (Or.inl ⟨rfl, fun _ _ => by go_simp⟩) S0.out ?_
    simp only [List.getElem_toArray, List.getElem_cons_zero, Act.put, List.setIfInBounds_toArray, List.set_cons_zero, List.set_cons_succ]
    refine wpAnyH_take (i := 1) (v := .slice a1 24 a3) rfl (by kernel_rfl) (by kernel_rfl) (by kernel_rfl) (fun _ _ _ h => h) (ldC_if rfl 38 Tryz.isAgg38 (.tmp 60) rfl ⟨g4, 0, none⟩ rfl (fun w' h => HasRf.l h.2.1)) S0.out ?_
    simp only [List.getElem_toArray, List.getElem_cons_zero, List.getElem_cons_succ, Act.put, List.setIfInBounds_toArray, List.set_cons_zero, List.set_cons_succ]
    refine wpAnyH_take (i := 2) (v := .pointer (some ⟨g9, 1, none⟩)) rfl (by kernel_rfl) (by kernel_rfl) (by kernel_rfl) (fun _ _ _ h => h) (Or.inl ⟨rfl, fun _ _ => by go_simp⟩) S0.out ?_
    simp only [List.getElem_toArray, List.getElem_cons_zero, List.getElem_cons_succ, Act.put, List.setIfInBounds_toArray, List.set_cons_zero, List.set_cons_succ]
    refine wpAnyH_take (i := 3) (v := .int .i64 (kd : Int)) rfl (by kernel_rfl) (by kernel_rfl) (by kernel_rfl) (fun _ _ _ h => h) (ldC_if rfl 3 Tryz.isAgg3 (.tmp 62) rfl ⟨g9, 1, none⟩ rfl (fun w' h => h.2.2.cell.2.1)) S0.out ?_
    simp only [List.getElem_toArray, List.getElem_cons_zero, List.getElem_cons_succ, Act.put, List.setIfInBounds_toArray, List.set_cons_zero, List.set_cons_succ]
    refine wpAnyH_take (i := 4) (v := .pointer (some ⟨g4, 0, none⟩)) rfl (by kernel_rfl) (by kernel_rfl) (by kernel_rfl) (fun _ _ _ h => h) (Or.inl ⟨rfl, fun _ _ => by go_simp⟩) S0.out ?_
    simp only [List.getElem_toArray, List.getElem_cons_zero, List.getElem_cons_succ, Act.put, List.setIfInBounds_toArray, List.set_cons_zero, List.set_cons_succ]
    refine wpAnyH_take (i := 5) (v := .slice a1 24 a3) rfl (by kernel_rfl) (by kernel_rfl) (by kernel_rfl) (fun _ _ _ h => h) (ldC_if rfl 38 Tryz.isAgg38 (.tmp 64) rfl ⟨g4, 0, none⟩ rfl (fun w' h => HasRf.l h.2.1)) S0.out ?_
    simp only [List.getElem_toArray, List.getElem_cons_zero, List.getElem_cons_succ, Act.put, List.setIfInBounds_toArray, List.set_cons_zero, List.set_cons_succ]
    refine wpAnyH_take (i := 6) (v := .pointer (some ⟨g9, 2, none⟩)) rfl (by kernel_rfl) (by kernel_rfl) (by kernel_rfl) (fun _ _ _ h => h) (Or.inl ⟨rfl, fun _ _ => by go_simp⟩) S0.out ?_
    simp only [List.getElem_toArray, List.getElem_cons_zero, List.getElem_cons_succ, Act.put, List.setIfInBounds_toArray, List.set_cons_zero, List.set_cons_succ]
    refine wpAnyH_take (i := 7) (v := .int .i64 (ka : Int)) rfl (by kernel_rfl) (by kernel_rfl) (by kernel_rfl) (fun _ _ _ h => h) (ldC_if rfl 3 Tryz.isAgg3 (.tmp 66) rfl ⟨g9, 2, none⟩ rfl (fun w' h => h.2.2.cell.2.2.1)) S0.out ?_
    simp only [List.getElem_toArray, List.getElem_cons_zero, List.getElem_cons_succ, Act.put, List.setIfInBounds_toArray, List.set_cons_zero, List.set_cons_succ]
    refine wpAnyH_take (i := 8) (v := .pointer (some ⟨ab, af, none⟩)) rfl (by kernel_rfl) (by kernel_rfl) (by kernel_rfl) (fun _ _ _ h => h) (ixR_if rfl 38 (.tmp 65) (.tmp 67) rfl _ _ _ rfl rfl hixA) S0.out ?_
    simp only [List.getElem_toArray, List.getElem_cons_zero, List.getElem_cons_succ, Act.put, List.setIfInBounds_toArray, List.set_cons_zero, List.set_cons_succ]
    refine wpAnyH_take (i := 9) (v := .agg #[.bool (l ka).1, .int .i64 (l ka).2]) rfl (by kernel_rfl) (by kernel_rfl) (by kernel_rfl) (fun _ _ _ h => h) (yieldsIf_load_mid (by rfl) _ _ rfl ab af rfl (wcells (l ka)) _ (fun w' h => hrgA w' h.1) Tryz.underlying24 rfl infoWd) S0.out ?_
    simp only [List.getElem_toArray, List.getElem_cons_zero, List.getElem_cons_succ, Act.put, List.setIfInBounds_toArray, List.set_cons_zero, List.set_cons_succ]
    refine wpAnyH_call (i := 10) rfl rfl (by kernel_rfl) 40 #[.slice a1 24 a3, .int .i64 (kd : Int), .agg #[.bool (l ka).1, .int .i64 (l ka).2]] (by go_simp) ?_
    refine (refWith_any (l) kd hkd (l ka) ⟨a1, 24, a3⟩ _ (HW.out _ S0.out.1)).mono ?_
    rintro e w7 ⟨a7, rfl, hws7, hn7, hfar7⟩
    replace F0 := Lib.hid (F0.out.grow hn7)
    replace S0 : Hid (New w w7 ∧ HasRf w7 g4 ⟨a1, 24, a3⟩ s p q ∧ Has w7 g9 ⟨2, kd, ka, kb, nn, t⟩) := Lib.hid ⟨F0.out.new, F0.out.st, F0.out.ins⟩
    refine ⟨_, rfl, S0.out, ?_⟩
    simp only [List.getElem_toArray, List.getElem_cons_zero, List.getElem_cons_succ, Act.put, List.setIfInBounds_toArray, List.set_cons_zero, List.set_cons_succ]
    refine wpAnyH_forced [11, 12] _ _ _ S0.out (by kernel_rfl) (by simp) ?_
    simp only [List.map_cons, List.map_nil, Array.getD_eq_getD_getElem?, List.getElem?_toArray, List.getElem?_cons_succ, List.getElem?_cons_zero, Option.getD_some]
    refine wpLS_value rfl (.pointer (some ⟨g10, 0, none⟩)) S0.out (by go_simp) ?_
    simp only [Act.put, List.setIfInBounds_toArray, List.set_cons_zero, List.set_cons_succ]
    refine wpLS_stR0 rfl rfl (.tmp 71) (.tmp 70) rfl g10 rfl a7 rfl F0.out.nx ?_
    intro w9 H9 k9
    have F9 := F0.out.turn D.out H9 k9
    refine ⟨⟨F9.new, F9.st, F9.ins⟩, ?_⟩
    refine wpLS_nil ?_
    refine NoPanic.normal ?_
    have HWS := Lib.hid (WsAt.far hws7 hfar7 (Nat.lt_of_lt_of_le b10 (Nat.le_refl _)) k9.other)
    have HFS := Lib.hid hfar7
    replace FR := Lib.hid F9
    obtain ⟨c0, c1, c2, c3, d0, d1, d2, d3, d4, d5⟩ := FR.out.cells
    clear F0 S0 F9 H9 k9 hws7 hfar7
    have Tr1 : Hid True := Lib.hid trivial
    have Tr2 : Hid True := Lib.hid trivial
    have Tr3 : Hid True := Lib.hid trivial
    go_wp2_with (first
      | (clear Tr1; refine wpList_ldRf rfl (.tmp 10) rfl g10 rfl FR.out.nx ?_)
      | (clear Tr2; refine wpList_stRf rfl rfl (.tmp 6) (.tmp 72) rfl g6 rfl a7 s (p + 1) q rfl FR.out.res ?_; intro wz Hz kz)
      | (clear Tr3; refine wpList_stO rfl rfl (.tmp 8) (.tmp 73) rfl g8 rfl (0) (0) nilS rfl (HasC.kept FR.out.out kz (Ne.symm D.out.d68)) ?_; intro wo Ho ko))
    have NO : New w wo := ko.below _ D.out.n8 (kz.below _ D.out.n6 FR.out.new)
    exact bodyPost_ret (results_ctc (p := 6) (u := 7) (v := 8) rfl _ _ g6 g8 _ (.slice none 0 0) _ rfl (loadVar_C (HasC.kept Hz ko D.out.d68) Tryz.underlying40 rfl infoRf) rfl rfl (loadVar_C Ho Tryz.underlying33 rfl infoOut)) rfl (Dm.of HT.out (WsAt.far (WsAt.far HWS.out HFS.out b6 kz.other) HFS.out b8 ko.other) (HP.out _ NO) (EvAt.nil _) (Hp.nil _) NO (.inr (HFS.out.mono (Nat.le_trans D.out.n6 (Nat.le_of_lt b6)))) (.inl rfl) (.inl rfl) (.inr (.inl rfl)))
  · have HT : Hid (stp f ⟨l, zs, p, q⟩ az = ⟨⟨updW (updW l kd (l ka)) ka (l kd), zs, p + 1, q⟩, [], 0, 0, []⟩) := Lib.hid (stp_go HIX.out (knw_moves rfl l) (by simp [flw, upd_swap]))
    go_wp2_with fail
    obtain ⟨ab, af, hixA, hrgA⟩ := ElAt.ix (show ElAt w (.slice a1 24 a3) 24 (fun i => wcells (l i)) from HW.out w (New.refl w)) 38 Tryz.underlying38 sizeWd hka
    obtain ⟨eb, ef, hixD, hrgD⟩ := ElAt.ix (show ElAt w (.slice a1 24 a3) 24 (fun i => wcells (l i)) from HW.out w (New.refl w)) 38 Tryz.underlying38 sizeWd hkd
    have b6 := HasC.lt FR.out.res
    have b8 := HasC.lt FR.out.out
    have b10 := HasC.lt FR.out.nx
    have F0 := Lib.hid (FR.out.grow ((New.refl wy).drew))
    have S0 : Hid (New w wy.drew ∧ HasRf wy.drew g4 ⟨a1, 24, a3⟩ s p q ∧ Has wy.drew g9 ⟨3, kd, ka, kb, nn, t⟩) := Lib.hid ⟨F0.out.new, F0.out.st, F0.out.ins⟩
    refine wp_region_noPanic ?_
    refine wp_region_held_drew (S := fun w' => New w w' ∧ HasRf w' g4 ⟨a1, 24, a3⟩ s p q ∧ Has w' g9 ⟨3, kd, ka, kb, nn, t⟩) (by kernel_rfl) S0.out (fun _ => ?_)
    refine wpAnyH_take (i := 0) (v := .pointer (some ⟨g4, 0, none⟩)) rfl (by kernel_rfl) (by kernel_rfl) (by kernel_rfl) (fun _ _ _ h => h) (Or.inl ⟨rfl, fun _ _ => by go_simp⟩) S0.out ?_
    simp only [List.getElem_toArray, List.getElem_cons_zero, Act.put, List.setIfInBounds_toArray, List.set_cons_zero, List.set_cons_succ]
    refine wpAnyH_take (i := 1) (v := .slice a1 24 a3) rfl (by kernel_rfl) (by kernel_rfl) (by kernel_rfl) (fun _ _ _ h => h) (ldC_if rfl 38 Tryz.isAgg38 (.tmp 77) rfl ⟨g4, 0, none⟩ rfl (fun w' h => HasRf.l h.2.1)) S0.out ?_
    simp only [List.getElem_toArray, List.getElem_cons_zero, List.getElem_cons_succ, Act.put, List.setIfInBounds_toArray, List.set_cons_zero, List.set_cons_succ]
    refine wpAnyH_take (i := 2) (v := .pointer (some ⟨g9, 1, none⟩)) rfl (by kernel_rfl) (by kernel_rfl) (by kernel_rfl) (fun _ _ _ h => h) (Or.inl ⟨rfl, fun _ _ => by go_simp⟩) S0.out ?_
    simp only [List.getElem_toArray, List.getElem_cons_zero, List.getElem_cons_succ, Act.put, List.setIfInBounds_toArray, List.set_cons_zero, List.set_cons_succ]
    refine wpAnyH_take (i := 3) (v := .int .i64 (kd : Int)) rfl (by kernel_rfl) (by kernel_rfl) (by kernel_rfl) (fun _ _ _ h => h) (ldC_if rfl 3 Tryz.isAgg3 (.tmp 79) rfl ⟨g9, 1, none⟩ rfl (fun w' h => h.2.2.cell.2.1)) S0.out ?_
    simp only [List.getElem_toArray, List.getElem_cons_zero, List.getElem_cons_succ, Act.put, List.setIfInBounds_toArray, List.set_cons_zero, List.set_cons_succ]
    refine wpAnyH_take (i := 4) (v := .pointer (some ⟨g4, 0, none⟩)) rfl (by kernel_rfl) (by kernel_rfl) (by kernel_rfl) (fun _ _ _ h => h) (Or.inl ⟨rfl, fun _ _ => by go_simp⟩) S0.out ?_
    simp only [List.getElem_toArray, List.getElem_cons_zero, List.getElem_cons_succ, Act.put, List.setIfInBounds_toArray, List.set_cons_zero, List.set_cons_succ]
    refine wpAnyH_take (i := 5) (v := .slice a1 24 a3) rfl (by kernel_rfl) (by kernel_rfl) (by kernel_rfl) (fun _ _ _ h => h) (ldC_if rfl 38 Tryz.isAgg38 (.tmp 81) rfl ⟨g4, 0, none⟩ rfl (fun w' h => HasRf.l h.2.1)) S0.out ?_
    simp only [List.getElem_toArray, List.getElem_cons_zero, List.getElem_cons_succ, Act.put, List.setIfInBounds_toArray, List.set_cons_zero, List.set_cons_succ]
    refine wpAnyH_take (i := 6) (v := .pointer (some ⟨g9, 2, none⟩)) rfl (by kernel_rfl) (by kernel_rfl) (by kernel_rfl) (fun _ _ _ h => h) (Or.inl ⟨rfl, fun _ _ => by go_simp⟩) S0.out ?_
    simp only [List.getElem_toArray, List.getElem_cons_zero, List.getElem_cons_succ, Act.put, List.setIfInBounds_toArray, List.set_cons_zero, List.set_cons_succ]
    refine wpAnyH_take (i := 7) (v := .int .i64 (ka : Int)) rfl (by kernel_rfl) (by kernel_rfl) (by kernel_rfl) (fun _ _ _ h => h) (ldC_if rfl 3 Tryz.isAgg3 (.tmp 83) rfl ⟨g9, 2, none⟩ rfl (fun w' h => h.2.2.cell.2.2.1)) S0.out ?_
    simp only [List.getElem_toArray, List.getElem_cons_zero, List.getElem_cons_succ, Act.put, List.setIfInBounds_toArray, List.set_cons_zero, List.set_cons_succ]
    refine wpAnyH_take (i := 8) (v := .pointer (some ⟨ab, af, none⟩)) rfl (by kernel_rfl) (by kernel_rfl) (by kernel_rfl) (fun _ _ _ h => h) (ixR_if rfl 38 (.tmp 82) (.tmp 84) rfl _ _ _ rfl rfl hixA) S0.out ?_
    simp only [List.getElem_toArray, List.getElem_cons_zero, List.getElem_cons_succ, Act.put, List.setIfInBounds_toArray, List.set_cons_zero, List.set_cons_succ]
    refine wpAnyH_take (i := 9) (v := .agg #[.bool (l ka).1, .int .i64 (l ka).2]) rfl (by kernel_rfl) (by kernel_rfl) (by kernel_rfl) (fun _ _ _ h => h) (yieldsIf_load_mid (by rfl) _ _ rfl ab af rfl (wcells (l ka)) _ (fun w' h => hrgA w' h.1) Tryz.underlying24 rfl infoWd) S0.out ?_
    simp only [List.getElem_toArray, List.getElem_cons_zero, List.getElem_cons_succ, Act.put, List.setIfInBounds_toArray, List.set_cons_zero, List.set_cons_succ]
    refine wpAnyH_take (i := 11) (v := .pointer (some ⟨g9, 2, none⟩)) rfl (by kernel_rfl) (by kernel_rfl) (by kernel_rfl) (fun _ _ _ h => h) (Or.inl ⟨rfl, fun _ _ => by go_simp⟩) S0.out ?_
    simp only [List.getElem_toArray, List.getElem_cons_zero, List.getElem_cons_succ, Act.put, List.setIfInBounds_toArray, List.set_cons_zero, List.set_cons_succ]
    refine wpAnyH_take (i := 12) (v := .int .i64 (ka : Int)) rfl (by kernel_rfl) (by kernel_rfl) (by kernel_rfl) (fun _ _ _ h => h) (ldC_if rfl 3 Tryz.isAgg3 (.tmp 88) rfl ⟨g9, 2, none⟩ rfl (fun w' h => h.2.2.cell.2.2.1)) S0.out ?_
    simp only [List.getElem_toArray, List.getElem_cons_zero, List.getElem_cons_succ, Act.put, List.setIfInBounds_toArray, List.set_cons_zero, List.set_cons_succ]
    refine wpAnyH_take (i := 13) (v := .pointer (some ⟨g4, 0, none⟩)) rfl (by kernel_rfl) (by kernel_rfl) (by kernel_rfl) (fun _ _ _ h => h) (Or.inl ⟨rfl, fun _ _ => by go_simp⟩) S0.out ?_
    simp only [List.getElem_toArray, List.getElem_cons_zero, List.getElem_cons_succ, Act.put, List.setIfInBounds_toArray, List.set_cons_zero, List.set_cons_succ]
    refine wpAnyH_take (i := 14) (v := .slice a1 24 a3) rfl (by kernel_rfl) (by kernel_rfl) (by kernel_rfl) (fun _ _ _ h => h) (ldC_if rfl 38 Tryz.isAgg38 (.tmp 90) rfl ⟨g4, 0, none⟩ rfl (fun w' h => HasRf.l h.2.1)) S0.out ?_
    simp only [List.getElem_toArray, List.getElem_cons_zero, List.getElem_cons_succ, Act.put, List.setIfInBounds_toArray, List.set_cons_zero, List.set_cons_succ]
    refine wpAnyH_take (i := 15) (v := .pointer (some ⟨g9, 1, none⟩)) rfl (by kernel_rfl) (by kernel_rfl) (by kernel_rfl) (fun _ _ _ h => h) (Or.inl ⟨rfl, fun _ _ => by go_simp⟩) S0.out ?_
    simp only [List.getElem_toArray, List.getElem_cons_zero, List.getElem_cons_succ, Act.put, List.setIfInBounds_toArray, List.set_cons_zero, List.set_cons_succ]
    refine wpAnyH_take (i := 16) (v := .int .i64 (kd : Int)) rfl (by kernel_rfl) (by kernel_rfl) (by kernel_rfl) (fun _ _ _ h => h) (ldC_if rfl 3 Tryz.isAgg3 (.tmp 92) rfl ⟨g9, 1, none⟩ rfl (fun w' h => h.2.2.cell.2.1)) S0.out ?_
    simp only [List.getElem_toArray, List.getElem_cons_zero, List.getElem_cons_succ, Act.put, List.setIfInBounds_toArray, List.set_cons_zero, List.set_cons_succ]
    refine wpAnyH_take (i := 17) (v := .pointer (some ⟨eb, ef, none⟩)) rfl (by kernel_rfl) (by kernel_rfl) (by kernel_rfl) (fun _ _ _ h => h) (ixR_if rfl 38 (.tmp 91) (.tmp 93) rfl _ _ _ rfl rfl hixD) S0.out ?_
    simp only [List.getElem_toArray, List.getElem_cons_zero, List.getElem_cons_succ, Act.put, List.setIfInBounds_toArray, List.set_cons_zero, List.set_cons_succ]
    refine wpAnyH_take (i := 18) (v := .agg #[.bool (l kd).1, .int .i64 (l kd).2]) rfl (by kernel_rfl) (by kernel_rfl) (by kernel_rfl) (fun _ _ _ h => h) (yieldsIf_load_mid (by rfl) _ _ rfl eb ef rfl (wcells (l kd)) _ (fun w' h => hrgD w' h.1) Tryz.underlying24 rfl infoWd) S0.out ?_
    simp only [List.getElem_toArray, List.getElem_cons_zero, List.getElem_cons_succ, Act.put, List.setIfInBounds_toArray, List.set_cons_zero, List.set_cons_succ]
    refine wpAnyH_call (i := 10) rfl rfl (by kernel_rfl) 40 #[.slice a1 24 a3, .int .i64 (kd : Int), .agg #[.bool (l ka).1, .int .i64 (l ka).2]] (by go_simp) ?_
    refine (refWith_any (l) kd hkd (l ka) ⟨a1, 24, a3⟩ _ (HW.out _ S0.out.1)).mono ?_
    rintro e w7 ⟨a7, rfl, hws7, hn7, hfar7⟩
    replace F0 := Lib.hid (F0.out.grow hn7)
    replace S0 : Hid (New w w7 ∧ HasRf w7 g4 ⟨a1, 24, a3⟩ s p q ∧ Has w7 g9 ⟨3, kd, ka, kb, nn, t⟩) := Lib.hid ⟨F0.out.new, F0.out.st, F0.out.ins⟩
    refine ⟨_, rfl, S0.out, ?_⟩
    simp only [List.getElem_toArray, List.getElem_cons_zero, List.getElem_cons_succ, Act.put, List.setIfInBounds_toArray, List.set_cons_zero, List.set_cons_succ]
    refine wpAnyH_call (i := 19) rfl rfl (by kernel_rfl) 40 #[.slice a7.ao a7.n a7.c, .int .i64 (ka : Int), .agg #[.bool (l kd).1, .int .i64 (l kd).2]] (by go_simp) ?_
    refine (refWith_any (updW l kd (l ka)) ka hka (l kd) a7 _ (hws7)).mono ?_
    rintro e w8 ⟨a8, rfl, hws8, hn8, hfar8⟩
    replace F0 := Lib.hid (F0.out.grow hn8)
    replace S0 : Hid (New w w8 ∧ HasRf w8 g4 ⟨a1, 24, a3⟩ s p q ∧ Has w8 g9 ⟨3, kd, ka, kb, nn, t⟩) := Lib.hid ⟨F0.out.new, F0.out.st, F0.out.ins⟩
    refine ⟨_, rfl, S0.out, ?_⟩
    simp only [List.getElem_toArray, List.getElem_cons_zero, List.getElem_cons_succ, Act.put, List.setIfInBounds_toArray, List.set_cons_zero, List.set_cons_succ]
    refine wpAnyH_forced [20, 21] _ _ _ S0.out (by kernel_rfl) (by simp) ?_
    simp only [List.map_cons, List.map_nil, Array.getD_eq_getD_getElem?, List.getElem?_toArray, List.getElem?_cons_succ, List.getElem?_cons_zero, Option.getD_some]
    refine wpLS_value rfl (.pointer (some ⟨g10, 0, none⟩)) S0.out (by go_simp) ?_
    simp only [Act.put, List.setIfInBounds_toArray, List.set_cons_zero, List.set_cons_succ]
    refine wpLS_stR0 rfl rfl (.tmp 97) (.tmp 96) rfl g10 rfl a8 rfl F0.out.nx ?_
    intro w9 H9 k9
    have F9 := F0.out.turn D.out H9 k9
    refine ⟨⟨F9.new, F9.st, F9.ins⟩, ?_⟩
    refine wpLS_nil ?_
    refine NoPanic.normal ?_
    have HWS := Lib.hid (WsAt.far hws8 hfar8 (Nat.lt_of_lt_of_le b10 (hn7.size)) k9.other)
    have HFS := Lib.hid hfar8
    replace FR := Lib.hid F9
    obtain ⟨c0, c1, c2, c3, d0, d1, d2, d3, d4, d5⟩ := FR.out.cells
    clear F0 S0 F9 H9 k9 hws8 hfar8
    have Tr1 : Hid True := Lib.hid trivial
    have Tr2 : Hid True := Lib.hid trivial
    have Tr3 : Hid True := Lib.hid trivial
    go_wp2_with (first
      | (clear Tr1; refine wpList_ldRf rfl (.tmp 10) rfl g10 rfl FR.out.nx ?_)
      | (clear Tr2; refine wpList_stRf rfl rfl (.tmp 6) (.tmp 98) rfl g6 rfl a8 s (p + 1) q rfl FR.out.res ?_; intro wz Hz kz)
      | (clear Tr3; refine wpList_stO rfl rfl (.tmp 8) (.tmp 99) rfl g8 rfl (0) (0) nilS rfl (HasC.kept FR.out.out kz (Ne.symm D.out.d68)) ?_; intro wo Ho ko))
    have NO : New w wo := ko.below _ D.out.n8 (kz.below _ D.out.n6 FR.out.new)
    exact bodyPost_ret (results_ctc (p := 6) (u := 7) (v := 8) rfl _ _ g6 g8 _ (.slice none 0 0) _ rfl (loadVar_C (HasC.kept Hz ko D.out.d68) Tryz.underlying40 rfl infoRf) rfl rfl (loadVar_C Ho Tryz.underlying33 rfl infoOut)) rfl (Dm.of HT.out (WsAt.far (WsAt.far HWS.out HFS.out (Nat.lt_of_lt_of_le b6 hn7.size) kz.other) HFS.out (Nat.lt_of_lt_of_le b8 hn7.size) ko.other) (HP.out _ NO) (EvAt.nil _) (Hp.nil _) NO (.inr (HFS.out.mono (Nat.le_trans D.out.n6 (Nat.le_of_lt (Nat.lt_of_lt_of_le b6 hn7.size))))) (.inl rfl) (.inl rfl) (.inr (.inl rfl)))
end Go.Proofs.YtdghhedenjgjiaaGreatDoor
