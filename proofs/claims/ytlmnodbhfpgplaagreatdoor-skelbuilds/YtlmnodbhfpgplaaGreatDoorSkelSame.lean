/-
  Layer 10: the reference's Same of two skeletons that are alike (same, Same).
-/
import Derived.Test.YtlmnodbhfpgplaaGreatDoorSkelAs
import Derived.Test.YtlmnodbhfpgplaaGreatDoorRefSameT
namespace Go.Proofs.YtlmnodbhfpgplaaGreatDoor
open Go.RowKit

theorem wpQuiet_ldRo {ops : Array Oper} {C : World → Prop} {Q : Act → Prop} {op : Oper} {rest : List Oper} {act : Act} (hw : Region.wanted op (yielded ops act.tmps) = true) (p : Operand) (ho : op.op = .load 67 p)
    (b o : Nat) (hx : act.eval p = .pointer (some ⟨b, o, none⟩)) {q : Int} {v : Value} (h : ∀ w, C w → w.rangeAt b o (roC q v))
    (hk : wpQuiet Tryz.prog ops C Q rest (act.put op.dst (.agg #[.int .i64 q, v]))) : wpQuiet Tryz.prog ops C Q (op :: rest) act :=
  wpQuiet_valG hw _ (fun w hw => by
    unfold execOp
    have := run_loadAt_mid (P := Tryz.prog) w b o 67 (roC q v) _ (h w hw) Tryz.underlying67 rfl infoRo
    simp only [ho, hx, this, Sem.run_bind, Sem.run_pure, Result.andThen_ok]
    rfl) hk
theorem rnode_rd {x : Int × List Wyo} {c : List Value} {w : World} (h : (rnodeE x c).rd w) : ∃ v, c = roC x.1 v ∧ (routsO v x.2).rd w := by
  obtain ⟨F, ⟨v, F1, F2, h1, h2, _, _, h3⟩, h4⟩ := h
  exact ⟨v, h1, F2, h2, fun g hg => h4 g (h3 g hg)⟩
theorem rout_rd {o : Wyo} {c : List Value} {w : World} (h : (routE o c).rd w) : ∃ k cc, c = roC o.1 (.slice (some ⟨k, 0, none⟩) 24 cc) ∧ (tabA k o.2).rd w := by
  obtain ⟨F, ⟨kc, F1, F2, h1, h2, _, _, h3⟩, h4⟩ := h
  exact ⟨kc.1, kc.2, h1, F2, h2, fun g hg => h4 g (h3 g hg)⟩
theorem rs_pre (q : Int) (vt vn : Value) : ∀ j v, (roC q vt)[j]? = some v → (rsC q vt vn)[0 + j]? = some v := by
  intro j v hv
  rw [Nat.zero_add]
  rcases j with _ | _ | j
  · exact hv
  · exact hv
  · cases hv
theorem sizeRn2 : ∀ w, (sizeOf 112).run Tryz.prog w = .ok 2 w := Tryz.sizeOf112
theorem sizeRo2 : ∀ w, (sizeOf 67).run Tryz.prog w = .ok 2 w := Tryz.sizeOf67
set_option maxHeartbeats 4000000 in
set_option maxRecDepth 100000 in
theorem sameN_any (q : Int) (ka ca kb cb : Nat) (t : Tb) (w : World) (ha : (tabA ka t).rd w) (hb : (tabA kb t).rd w) :
    Calls Tryz.prog 37 #[.agg #[.int .i64 q, .slice (some ⟨ka, 0, none⟩) 24 ca], .agg #[.int .i64 q, .slice (some ⟨kb, 0, none⟩) 24 cb]] w fun e w' => e = .returned (.bool true) ∧ New w w' := by
  have HA := Lib.hid ha
  have HB := Lib.hid hb
  have HS := Lib.hid (Sep.start w)
  have T1 : Hid True := Lib.hid trivial
  have T2 : Hid True := Lib.hid trivial
  have T3 : Hid True := Lib.hid trivial
  clear ha hb
  go_enter Tryz.func37, Tryz.ntmps37
  go_wp2_with (first
    | (clear T1; refine wpList_boxB rfl 67 (.tmp 0) rfl (roC q (.slice (some ⟨ka, 0, none⟩) 24 ca)) rfl HS.out ?_; intro wa g2 hs; replace HS := Lib.hid hs; clear hs)
    | (clear T2; refine wpList_boxB rfl 67 (.tmp 1) rfl (roC q (.slice (some ⟨kb, 0, none⟩) 24 cb)) rfl HS.out ?_; intro wb g3 hs; replace HS := Lib.hid hs; have a0 := HS.out.cell 1 rfl (k := 0) rfl; have a1 := HS.out.cell 1 rfl (k := 1) rfl; have b0 := HS.out.cell 0 rfl (k := 0) rfl; have b1 := HS.out.cell 0 rfl (k := 1) rfl; clear hs)
    | (clear T3; go_at_call 64; refine (refSameT_any _ _ t _ (tabA_el (HA.out.new HS.out.nw)) (tabA_el (HB.out.new HS.out.nw))).mono ?_; rintro e w1 ⟨rfl, hn⟩; replace HS := Lib.hid (HS.out.go hn); clear hn))
  go_ret
  exact ⟨rfl, HS.out.nw⟩
theorem sameN_from {q : Int} {ka ca kb cb : Nat} {t : Tb} {w0 : World} (w : World) (ha : (tabA ka t).rd w0) (hb : (tabA kb t).rd w0) (h : New w0 w) :
    Calls Tryz.prog 37 #[.agg #[.int .i64 q, .slice (some ⟨ka, 0, none⟩) 24 ca], .agg #[.int .i64 q, .slice (some ⟨kb, 0, none⟩) 24 cb]] w fun e w' => e = .returned (.bool true) ∧ New w0 w' :=
  (sameN_any q ka ca kb cb t w (ha.new h) (hb.new h)).mono fun _ _ ⟨he, hw⟩ => ⟨he, h.trans hw⟩
set_option maxHeartbeats 16000000 in
set_option maxRecDepth 100000 in
theorem sameSk_any (s : Skl) (kt ct ku cu : Nat) (va vb : Option Addr) (vc vd N : Nat) (w : World) (hN : s.nodes.length = N) (hN2 : N ≤ 1000) (hB : ∀ x ∈ s.nodes, x.2.length ≤ 10) (ht : (tabA kt s.entry.2).rd w) (hu : (tabA ku s.entry.2).rd w)
    (h1 : (rnodesO (.slice va N vc) s.nodes).rd w) (h2 : (rnodesO (.slice vb N vd) s.nodes).rd w) :
    Calls Tryz.prog 16 #[.agg #[.int .i64 s.entry.1, .slice (some ⟨kt, 0, none⟩) 24 ct, .slice va N vc], .agg #[.int .i64 s.entry.1, .slice (some ⟨ku, 0, none⟩) 24 cu, .slice vb N vd]] w fun e w' => e = .returned (.bool true) ∧ New w w' := by
  have HTT := Lib.hid ht
  have HTU := Lib.hid hu
  have H1 := Lib.hid h1
  have H2 := Lib.hid h2
  have HN := Lib.hid hN
  have HB := Lib.hid hB
  obtain ⟨E, HE⟩ : ∃ E, Hid (s.entry = E) := ⟨_, Lib.hid rfl⟩
  rw [HE.out] at HTT HTU ⊢
  have HS := Lib.hid (Sep.start w)
  have T1 : Hid True := Lib.hid trivial
  have T2 : Hid True := Lib.hid trivial
  have T5 : Hid True := Lib.hid trivial
  clear ht hu h1 h2 hN hB
  go_enter Tryz.func16, Tryz.ntmps16
  go_wp2_with (first
    | (clear T1; refine wpList_boxB rfl 70 (.tmp 0) rfl (rsC E.1 (.slice (some ⟨kt, 0, none⟩) 24 ct) (.slice va N vc)) rfl HS.out ?_; intro wa g2 hs; replace HS := Lib.hid hs; clear hs)
    | (clear T2; refine wpList_boxB rfl 70 (.tmp 1) rfl (rsC E.1 (.slice (some ⟨ku, 0, none⟩) 24 cu) (.slice vb N vd)) rfl HS.out ?_; intro wb g3 hs; replace HS := Lib.hid hs; have y0 := HS.out.cell 1 rfl (k := 0) rfl; have y1 := HS.out.cell 1 rfl (k := 1) rfl; have z0 := HS.out.cell 0 rfl (k := 0) rfl; have z1 := HS.out.cell 0 rfl (k := 1) rfl; clear hs)
    | (clear T5; go_at_call 37; refine (sameN_any E.1 kt ct ku cu E.2 _ (HTT.out.new HS.out.nw) (HTU.out.new HS.out.nw)).mono ?_; rintro e w1 ⟨rfl, hn⟩; replace HS := Lib.hid (HS.out.go hn); have x2 := HS.out.cell 1 rfl (k := 2) rfl; have x3 := HS.out.cell 0 rfl (k := 2) rfl; clear hn y0 y1 z0 z1))
  go_loopw [5] (fun iv wr => ∃ k : Nat, iv = .int .i64 (k : Int) ∧ k ≤ N ∧ Hid (New w1 wr)) (fun iv _ => N - (intOf iv).toNat)
  case atStart => exact ⟨0, rfl, by omega, Lib.hid (New.refl _)⟩
  case round =>
    obtain ⟨k, rfl, hk, HNR⟩ := hrel
    have HT := Lib.hid (HS.out.go HNR.out)
    clear x2 x3
    have x2 := HT.out.cell 1 rfl (k := 2) rfl
    have x3 := HT.out.cell 0 rfl (k := 2) rfl
    by_cases hkN : k < N
    · obtain ⟨x, hx⟩ : ∃ x, s.nodes[k]? = some x := ⟨_, List.getElem?_eq_getElem (by rw [HN.out]; exact hkN)⟩
      obtain ⟨b1, o1, c1, _, hix1, hrg1, hE1⟩ := rowA_ix (P := Tryz.prog) (H1.out.new HT.out.nw) 68 Tryz.underlying68 sizeRn2 hx
      obtain ⟨b2, o2, c2, _, hix2, hrg2, hE2⟩ := rowA_ix (P := Tryz.prog) (H2.out.new HT.out.nw) 68 Tryz.underlying68 sizeRn2 hx
      obtain ⟨v1, hc1, hr1⟩ := rnode_rd hE1
      obtain ⟨v2, hc2, hr2⟩ := rnode_rd hE2
      subst hc1 hc2
      obtain ⟨K, HK⟩ : ∃ K, Hid (x.2.length = K) := ⟨_, Lib.hid rfl⟩
      have hK : K ≤ 10 := by rw [← HK.out]; exact HB.out x (List.mem_of_getElem? hx)
      obtain ⟨oa, oc, hv1⟩ := rowA_form hr1
      obtain ⟨ob, od, hv2⟩ := rowA_form hr2
      rw [HK.out] at hv1 hv2
      subst hv1 hv2
      have HR1 := Lib.hid hr1
      have HR2 := Lib.hid hr2
      have HG1 := Lib.hid hrg1
      have HG2 := Lib.hid hrg2
      obtain ⟨xq, hxq⟩ : ∃ xq, x.1 = xq := ⟨_, rfl⟩
      rw [hxq] at HG1 HG2
      have Y2 : ∀ z : NewW wr, z.val.cell? ⟨g2, 2, none⟩ = some (.slice va N vc) := fun z => z.property.cell' x2
      have Y3 : ∀ z : NewW wr, z.val.cell? ⟨g3, 2, none⟩ = some (.slice vb N vd) := fun z => z.property.cell' x3
      have Z1 : ∀ z : NewW wr, z.val.cell? ⟨b1, o1, none⟩ = some (.int .i64 xq) := fun z => by have := HG1.out _ z.property 0 _ rfl; rw [Nat.add_zero] at this; exact this
      have Z2 : ∀ z : NewW wr, z.val.cell? ⟨b2, o2, none⟩ = some (.int .i64 xq) := fun z => by have := HG2.out _ z.property 0 _ rfl; rw [Nat.add_zero] at this; exact this
      have Z3 : ∀ z : NewW wr, z.val.cell? ⟨b1, o1 + 1, none⟩ = some (.slice oa K oc) := fun z => HG1.out _ z.property 1 _ rfl
      have Z4 : ∀ z : NewW wr, z.val.cell? ⟨b2, o2 + 1, none⟩ = some (.slice ob K od) := fun z => HG2.out _ z.property 1 _ rfl
      clear hrg1 hrg2 hE1 hE2 hr1 hr2 hxq hx
      go_wp2_with fail
      have hne := newW_any wr
      refine wp_region_new (New.refl wr) (by kernel_rfl) (by kernel_rfl) ?_
      repeat (go_big_quiet_step (first | fail))
      refine wpQuiet_nil ?_
      intro w5 hn5
      have HN5 := Lib.hid hn5
      clear hne Z1 Z2 x2 x3 hn5
      go_wp2_with fail
      go_loopw [6] (fun jv wj => ∃ j : Nat, jv = .int .i64 (j : Int) ∧ j ≤ K ∧ Hid (New w5 wj)) (fun jv _ => K - (intOf jv).toNat)
      case atStart => exact ⟨0, rfl, by omega, Lib.hid (New.refl _)⟩
      case round =>
        obtain ⟨j, rfl, hj, HNJ⟩ := hrel
        have NJ := HN5.out.trans HNJ.out
        have x2 := Y2 ⟨_, NJ⟩
        have x3 := Y3 ⟨_, NJ⟩
        have z3 := Z3 ⟨_, NJ⟩
        have z4 := Z4 ⟨_, NJ⟩
        replace NJ := Lib.hid NJ
        by_cases hjK : j < K
        · obtain ⟨y, hy⟩ : ∃ y, x.2[j]? = some y := ⟨_, List.getElem?_eq_getElem (by rw [HK.out]; exact hjK)⟩
          obtain ⟨b3, o3, c3, _, hix3, hrg3, hE3⟩ := rowA_ix (P := Tryz.prog) (HR1.out.new NJ.out) 110 Tryz.underlying110 sizeRo2 hy
          obtain ⟨b4, o4, c4, _, hix4, hrg4, hE4⟩ := rowA_ix (P := Tryz.prog) (HR2.out.new NJ.out) 110 Tryz.underlying110 sizeRo2 hy
          obtain ⟨k3, d3, hc3, ht3⟩ := rout_rd hE3
          obtain ⟨k4, d4, hc4, ht4⟩ := rout_rd hE4
          subst hc3 hc4
          have HG3 := Lib.hid hrg3
          have HG4 := Lib.hid hrg4
          have HT3 := Lib.hid ht3
          have HT4 := Lib.hid ht4
          have V2 : ∀ z : NewW wr, z.val.cell? ⟨g2, 2, none⟩ = some (.slice va N vc) := fun z => z.property.cell' x2
          have V3 : ∀ z : NewW wr, z.val.cell? ⟨g3, 2, none⟩ = some (.slice vb N vd) := fun z => z.property.cell' x3
          have V4 : ∀ z : NewW wr, z.val.cell? ⟨b1, o1 + 1, none⟩ = some (.slice oa K oc) := fun z => z.property.cell' z3
          have V5 : ∀ z : NewW wr, z.val.cell? ⟨b2, o2 + 1, none⟩ = some (.slice ob K od) := fun z => z.property.cell' z4
          clear hrg3 hrg4 hE3 hE4 ht3 ht4 hy Y2 Y3 Z3 Z4
          go_wp2_with fail
          have hne := newW_any wr
          refine wp_region_new (New.refl wr) (by kernel_rfl) (by kernel_rfl) ?_
          repeat (first
            | (refine wpQuiet_ldRo rfl (.tmp 77) rfl b3 o3 rfl (q := y.1) (v := .slice (some ⟨k3, 0, none⟩) 24 d3) (by rintro w' ⟨z, rfl⟩; exact HG3.out _ z.property) ?_; simp only [Act.put, List.setIfInBounds_toArray, List.set_cons_zero, List.set_cons_succ])
            | (refine wpQuiet_ldRo rfl (.tmp 86) rfl b4 o4 rfl (q := y.1) (v := .slice (some ⟨k4, 0, none⟩) 24 d4) (by rintro w' ⟨z, rfl⟩; exact HG4.out _ z.property) ?_; simp only [Act.put, List.setIfInBounds_toArray, List.set_cons_zero, List.set_cons_succ])
            | go_big_quiet_step (first | (go_at_call 37; exact quiet_new (sameN_from _ HT3.out HT4.out (Subtype.property _)))))
          refine wpQuiet_nil ?_
          intro w6 hn6
          go_wp2_with fail
          go_roundw
          case rel => exact ⟨j + 1, by go_num, by omega, Lib.hid (HNJ.out.trans hn6)⟩
          case measure => simp [intOf]; omega
        · go_wp2_with fail
          go_roundw
          case rel => exact ⟨k + 1, by go_num, by omega, Lib.hid (HNR.out.trans NJ.out)⟩
          case measure => simp [intOf]; omega
    · go_wp2_with fail
      go_ret
      exact ⟨rfl, HT.out.nw⟩
end Go.Proofs.YtlmnodbhfpgplaaGreatDoor
