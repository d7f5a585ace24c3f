/-
  Layer 10: a skeleton as the reference's (as, As).
-/
import Derived.Test.YtlmnodbhfpgplaaGreatDoorSkelRefB
import Derived.Test.YtlmnodbhfpgplaaGreatDoorSkelWays
import Derived.Test.YtlmnodbhfpgplaaGreatDoorEnvAsT
namespace Go.Proofs.YtlmnodbhfpgplaaGreatDoor
open Go.RowKit

theorem asT_S (t : Tb) (w : World) :
    Calls Tryz.prog 65 #[.agg (cellsT t)] w fun e w' => ∃ k c, e = .returned (.slice (some ⟨k, 0, none⟩) 24 c) ∧ Sep w w' [tabA k t] :=
  (asT_own t w).mono fun _ _ ⟨v, h1, h2, h3⟩ =>
    let ⟨k, cap, e, hb, hr⟩ := h2.block (by decide)
    ⟨k, cap, by rw [h1, e], (Sep.start w).add (F := fun g => g = k) h3 ⟨hr, rfl⟩ fun g e => by
      subst e
      exact ⟨by omega, hr.lt⟩⟩
theorem outK_tb (o : Wyo) : ∀ j v, (cellsT o.2).toList[j]? = some v → (outK o)[1 + j]? = some v := by
  intro j v hv
  unfold outK
  rw [Nat.add_comm, List.getElem?_cons_succ]
  exact hv
theorem skC_out (o : Wyo) (v : Value) : ∀ j u, (outK o)[j]? = some u → (skC o v)[0 + j]? = some u := by
  intro j u hu
  unfold skC
  rw [Nat.zero_add, List.getElem?_append_left (List.getElem?_eq_some_iff.mp hu).1]
  exact hu
theorem nodeR {x : Int × List Wyo} {c : List Value} {w : World} (h : (nodeE x c).rd w) : ∃ v, c = nodeC x.1 v ∧ (outsA v x.2).rd w := by
  obtain ⟨F, ⟨v, F1, F2, h1, h2, _, _, h3⟩, h4⟩ := h
  exact ⟨v, h1, F2, h2, fun g hg => h4 g (h3 g hg)⟩
theorem ldOt_if {ops : Array Oper} {S : World → Prop} {op : Oper} {act : Act} (hw : Region.wanted op (yielded ops act.tmps) = true) (a : Operand) (ho : op.op = .load 56 a) (g : Nat) (hx : act.eval a = .pointer (some ⟨g, 1, none⟩)) {o : Wyo} (h : ∀ w, S w → HasC w g 58 (outK o)) :
    YieldsIf Tryz.prog ops S op (.agg (cellsT o.2)) act := by
  have := yieldsIf_load_mid hw _ a ho g 1 hx (cellsT o.2).toList _ (fun w hw => (h w hw).range 1 _ (outK_tb o)) Tryz.underlying56 rfl (by rw [cellsT_len]; exact infoTb)
  rwa [Array.toArray_toList] at this
set_option maxHeartbeats 4000000 in
set_option maxRecDepth 100000 in
theorem as_any (o : Wyo) (w : World) :
    Calls Tryz.prog 38 #[.agg (outK o).toArray] w fun e w' => ∃ k c, e = .returned (.agg #[.int .i64 o.1, .slice (some ⟨k, 0, none⟩) 24 c]) ∧ Sep w w' [tabA k o.2] := by
  have HS := Lib.hid (Sep.start w)
  have T1 : Hid True := Lib.hid trivial
  have T2 : Hid True := Lib.hid trivial
  go_enter Tryz.func38, Tryz.ntmps38
  go_wp2_with (first
    | (clear T1; refine wpList_boxB rfl 58 (.tmp 0) rfl (outK o) rfl HS.out ?_; intro wa g1 hs; replace HS := Lib.hid hs; clear hs)
    | (clear T2; refine wpList_alB rfl 67 rfl _ zeroRo_run _ rfl HS.out ?_; intro wb g2 hs; replace HS := Lib.hid hs; clear hs))
  have H1 := Lib.hid (HS.out.has 1 rfl)
  have c0 := Lib.hid (HS.out.cell 1 rfl (k := 0) rfl)
  have S0 : New wb wb.drew := (New.refl wb).drew
  refine wp_region_noPanic ?_
  refine region_late (k := 6) (S := fun w' => New wb w') (by kernel_rfl) S0 (fun _ => ?_)
  refine late_take (i := 0) (v := .pointer (some ⟨g1, 0, none⟩)) rfl (by kernel_rfl) (by kernel_rfl) (by kernel_rfl) (by kernel_rfl) (fun _ _ _ h => h) (Or.inl ⟨rfl, fun _ _ => by go_simp⟩) S0 ?_
  simp only [List.getElem_toArray, List.getElem_cons_zero, Act.put, List.setIfInBounds_toArray, List.set_cons_zero, List.set_cons_succ]
  refine late_take (i := 1) (v := .int .i64 o.1) rfl (by kernel_rfl) (by kernel_rfl) (by kernel_rfl) (by kernel_rfl) (fun _ _ _ h => h) (ldV_if rfl 3 Tryz.isAgg3 (.tmp 3) rfl ⟨g1, 0, none⟩ rfl (fun w' h => h.cell' c0.out)) S0 ?_
  simp only [List.getElem_toArray, List.getElem_cons_zero, List.getElem_cons_succ, Act.put, List.setIfInBounds_toArray, List.set_cons_zero, List.set_cons_succ]
  refine late_take (i := 2) (v := .pointer (some ⟨g1, 1, none⟩)) rfl (by kernel_rfl) (by kernel_rfl) (by kernel_rfl) (by kernel_rfl) (fun _ _ _ h => h) (Or.inl ⟨rfl, fun _ _ => by go_simp⟩) S0 ?_
  simp only [List.getElem_toArray, List.getElem_cons_zero, List.getElem_cons_succ, Act.put, List.setIfInBounds_toArray, List.set_cons_zero, List.set_cons_succ]
  refine late_take (i := 3) (v := .agg (cellsT o.2)) rfl (by kernel_rfl) (by kernel_rfl) (by kernel_rfl) (by kernel_rfl) (fun _ _ _ h => h) (ldOt_if rfl (.tmp 5) rfl g1 rfl (fun w' h => HasC.new H1.out h)) S0 ?_
  simp only [List.getElem_toArray, List.getElem_cons_zero, List.getElem_cons_succ, Act.put, List.setIfInBounds_toArray, List.set_cons_zero, List.set_cons_succ]
  refine late_forced [4, 5, 6] _ _ _ (by kernel_rfl) ?_
  refine LL_call rfl rfl 65 #[.agg (cellsT o.2)] (by go_simp) ?_
  refine (asT_S o.2 _).mono ?_
  rintro e w1 ⟨k, c, rfl, hs⟩
  have N1 := S0.trans hs.nw
  replace HS := Lib.hid ((HS.out.go S0).call hs)
  clear hs
  refine ⟨_, rfl, N1, ?_⟩
  simp only [List.getElem_toArray, List.getElem_cons_zero, List.getElem_cons_succ, Act.put, List.setIfInBounds_toArray, List.set_cons_zero, List.set_cons_succ]
  refine LL_val (v := .agg (roC o.1 (.slice (some ⟨k, 0, none⟩) 24 c)).toArray) rfl rfl (by unfold execOp; simp only [Act.eval]; simp [build_Ro]) N1 ?_
  simp only [List.getElem_toArray, List.getElem_cons_zero, List.getElem_cons_succ, Act.put, List.setIfInBounds_toArray, List.set_cons_zero, List.set_cons_succ]
  have hst : (Instr.storeAt 67 (.pointer (some ⟨g2, 0, none⟩)) (.agg (roC o.1 (.slice (some ⟨k, 0, none⟩) 24 c)).toArray)).run Tryz.prog w1 = .ok () (putO w1 g2 (.cells (roC o.1 (.slice (some ⟨k, 0, none⟩) 24 c)).toArray 67 (0, 0))) := HasC.store (HS.out.has 1 rfl) 0 (roC o.1 (.slice (some ⟨k, 0, none⟩) 24 c)) 67 _ rfl (by simp [roC]) (by simp [roC, Value.oneCell']) infoRo
  refine LL_skip rfl rfl rfl (run_stO 67 (.tmp 2) (.tmp 8) rfl rfl rfl hst) (fun h => absurd rfl h) ?_
  have hfin := HS.out.setAt 1 rfl (Kept.put w1 g2 (.cells (roC o.1 (.slice (some ⟨k, 0, none⟩) 24 c)).toArray 67 (0, 0))) (HasC.put (HS.out.has 1 rfl) _)
  clear hst
  generalize putO w1 g2 (.cells (roC o.1 (.slice (some ⟨k, 0, none⟩) 24 c)).toArray 67 (0, 0)) = w2 at hfin ⊢
  have HV := Lib.hid hfin
  clear hfin
  refine NoPanic.normal ?_
  go_wp2
  exact bodyPost_ret (resRo _ rfl _ _ g2 _ _ rfl (HV.out.has 1 rfl)) rfl ⟨k, c, rfl, (HV.out.dropAt 2 (by simp)).dropAt 1 (by simp)⟩
set_option maxHeartbeats 16000000 in
set_option maxRecDepth 100000 in
theorem asSk_any (s : Skl) (na : Option Addr) (N nc : Nat) (w : World) (hN : s.nodes.length = N) (hs : (nodesO (.slice na N nc) s.nodes).rd w) (hN2 : N ≤ 1000) (hB : ∀ x ∈ s.nodes, x.2.length ≤ 10) :
    Calls Tryz.prog 17 #[.agg (skC s.entry (.slice na N nc)).toArray] w fun e w' => ∃ kt ct va vc, e = .returned (.agg #[.int .i64 s.entry.1, .slice (some ⟨kt, 0, none⟩) 24 ct, .slice va N vc]) ∧ Sep w w' [tabA kt s.entry.2, rnodesO (.slice va N vc) s.nodes] := by
  have HRD := Lib.hid hs
  have HB := Lib.hid hB
  have HN := Lib.hid hN
  obtain ⟨E, HE⟩ : ∃ E, Hid (s.entry = E) := ⟨_, Lib.hid rfl⟩
  have HS := Lib.hid (Sep.start w)
  rw [HE.out]
  clear hs hB hN
  have T1 : Hid True := Lib.hid trivial
  have T2 : Hid True := Lib.hid trivial
  have T3 : Hid True := Lib.hid trivial
  have T4 : Hid True := Lib.hid trivial
  have T5 : Hid True := Lib.hid trivial
  have T6 : Hid True := Lib.hid trivial
  have T7 : Hid True := Lib.hid trivial
  go_enter Tryz.func17, Tryz.ntmps17
  go_wp2_with (first
    | (clear T1; refine wpList_boxB rfl 61 (.tmp 0) rfl (skC E (.slice na N nc)) rfl HS.out ?_; intro wa gs hs; replace HS := Lib.hid hs; clear hs)
                        | (clear T2; refine wpList_alB rfl 70 rfl _ zeroRs_run10 _ rfl HS.out ?_; intro wb g2 hs; replace HS := Lib.hid (hs.pull 1 rfl); clear hs)
                        | (clear T3; refine wpList_load_mid rfl 58 (.tmp 7) rfl gs 0 rfl (outK E) _ ((HS.out.has 0 rfl).range 0 (outK E) (skC_out _ _)) Tryz.underlying58 rfl (by rw [outK_len]; exact infoO) ?_)
                        | (clear T4; go_at_call 38; refine (as_any E _).mono ?_; rintro e wc ⟨kt, ct, rfl, hs⟩; replace HS := Lib.hid ((HS.out.call hs).row0 112 2 rnodeE); clear hs)
                        | (clear T5; refine wpList_bd1 (a := .agg #[.int .i64 E.1, .slice (some ⟨kt, 0, none⟩) 24 ct]) rfl 70 0 (.tmp 9) rfl rfl (build_Rs _ _ _ _) ?_)
                        | (clear T6; refine wpList_alB rfl 70 rfl _ zeroRs_run10 _ rfl HS.out ?_; intro wd g3 hs; replace HS := Lib.hid hs; clear hs)
                        | (clear T7; refine wpList_stSW 0 rfl rfl 70 (.tmp 3) (.tmp 10) rfl g3 rfl _ rfl HS.out rfl (rsC E.1 (.slice (some ⟨kt, 0, none⟩) 24 ct) (.slice none 0 0)) rfl rfl (by simp [rsC, Value.oneCell']) infoRs ?_; intro we hs; replace HS := Lib.hid hs; clear hs))
  go_loopw [4] (fun iv wr => ∃ (k : Nat) (vn : Value), iv = .int .i64 (k : Int) ∧ k ≤ N ∧ Hid (Sep w wr [blk g3 70 (rsC E.1 (.slice (some ⟨kt, 0, none⟩) 24 ct) vn), rnodesO vn (s.nodes.take k), tabA kt E.2, blk gs 61 (skC E (.slice na N nc)), blk g2 70 (rsC 0 (.slice none 0 0) (.slice none 0 0))])) (fun iv _ => N - (intOf iv).toNat)
  case atStart => exact ⟨0, .slice none 0 0, rfl, by omega, HS⟩
  case round =>
    obtain ⟨k, vn, rfl, hk, HT⟩ := hrel
    clear HS
    have cn := HT.out.cell 3 rfl (skC_nd _ _)
    by_cases hkN : k < N
    · obtain ⟨x, hx⟩ : ∃ x, s.nodes[k]? = some x := ⟨_, List.getElem?_eq_getElem (by rw [HN.out]; exact hkN)⟩
      have HXS : Hid (s.nodes.take k ++ [(x.1, x.2)] = s.nodes.take (k + 1)) := Lib.hid (by rw [List.take_add_one, hx]; rfl)
      have HLK : Hid ((s.nodes.take k).length ≤ 100000) := Lib.hid (by rw [List.length_take]; omega)
      obtain ⟨b0, o0, c, _, hix, hrg, hE⟩ := rowA_ix (P := Tryz.prog) HRD.out 59 Tryz.underlying59 sizeNd hx
      obtain ⟨vo0, hc, hro⟩ := nodeR hE
      subst hc
      obtain ⟨ia, ic, hv⟩ := rowA_form hro
      obtain ⟨JJ, HJ⟩ : ∃ JJ, Hid (x.2.length = JJ) := ⟨_, Lib.hid rfl⟩
      have hJ10 : JJ ≤ 10 := by rw [← HJ.out]; exact HB.out x (List.mem_of_getElem? hx)
      rw [HJ.out] at hv
      subst hv
      have HRO := Lib.hid hro
      have HRG := Lib.hid hrg
      have c0 := hrg _ HT.out.nw 0 _ rfl
      rw [Nat.add_zero] at c0
      obtain ⟨q, HQ⟩ : ∃ q, Hid (x.1 = q) := ⟨_, Lib.hid rfl⟩
      rw [HQ.out] at c0 HXS
      have U1 : Hid True := Lib.hid trivial
      have U2 : Hid True := Lib.hid trivial
      have U3 : Hid True := Lib.hid trivial
      clear hx hrg hE hro
      go_wp2_with (first
        | (clear U1; refine wpList_bd1 (a := .int .i64 q) rfl 112 0 (.tmp 23) rfl rfl (build_Rnd _) ?_)
                        | (clear U2; refine wpList_alB rfl 112 rfl _ zeroRnd_run _ rfl HT.out ?_; intro w1 g8 hs; replace HT := Lib.hid hs; clear hs cn c0)
                        | (clear U3; refine wpList_stSW 0 rfl rfl 112 (.tmp 5) (.tmp 24) rfl g8 rfl _ rfl HT.out rfl (roC q (.slice none 0 0)) rfl rfl (by simp [roC, Value.oneCell']) infoRnd ?_; intro w2 hs; replace HT := Lib.hid hs; clear hs))
      go_loopw [6] (fun jv wr => ∃ (j : Nat) (vo : Value), jv = .int .i64 (j : Int) ∧ j ≤ JJ ∧ Hid (Sep w wr [blk g8 112 (roC q vo), routsO vo (x.2.take j), blk g3 70 (rsC E.1 (.slice (some ⟨kt, 0, none⟩) 24 ct) vn), rnodesO vn (s.nodes.take k), tabA kt E.2, blk gs 61 (skC E (.slice na N nc)), blk g2 70 (rsC 0 (.slice none 0 0) (.slice none 0 0))])) (fun jv _ => JJ - (intOf jv).toNat)
      case atStart => exact ⟨0, .slice none 0 0, rfl, by omega, Lib.hid (((HT.out.row0 67 2 routE).pull 1 rfl))⟩
      case round =>
        obtain ⟨j, vo, rfl, hj, HU⟩ := hrel
        clear HT
        have cn := HU.out.cell 5 rfl (skC_nd _ _)
        have c1 := HRG.out _ HU.out.nw 1 _ rfl
        by_cases hjJ : j < JJ
        · obtain ⟨o, ho⟩ : ∃ o, x.2[j]? = some o := ⟨_, List.getElem?_eq_getElem (by rw [HJ.out]; exact hjJ)⟩
          have HO : Hid (x.2.take j ++ [(o.1, o.2)] = x.2.take (j + 1)) := Lib.hid (by rw [List.take_add_one, ho]; rfl)
          have HLO : Hid ((x.2.take j).length ≤ 100000) := Lib.hid (by rw [List.length_take]; omega)
          obtain ⟨b1, o1, hix1, hrg1⟩ := leaf_ix (P := Tryz.prog) HRO.out 94 Tryz.underlying94 sizeOt ho
          have HRG1 := Lib.hid hrg1
          obtain ⟨oa, oc, hvo⟩ := rowA_form (HU.out.rd 1 rfl)
          obtain ⟨M, HM⟩ : ∃ M, Hid ((x.2.take j).length = M) := ⟨_, Lib.hid rfl⟩
          rw [HM.out] at hvo
          subst hvo
          clear ho hrg1
          go_wp2_with fail
          have hS := HU.out.go ((New.refl wr).drew)
          have HNU := Lib.hid HU.out.nw
          have S0 : (wr.drew.cell? ⟨g8, 1, none⟩ = some (.slice oa M oc) ∧ wr.drew.cell? ⟨gs, 25, none⟩ = some (.slice na N nc)) ∧ New w wr.drew := ⟨⟨HU.out.cell 0 rfl (k := 1) rfl, cn⟩, hS.nw⟩
          refine wp_region_noPanic ?_
          refine region_late (k := 15) (S := fun w' => (w'.cell? ⟨g8, 1, none⟩ = some (.slice oa M oc) ∧ w'.cell? ⟨gs, 25, none⟩ = some (.slice na N nc)) ∧ New w w') (by kernel_rfl) S0 (fun _ => ?_)
          refine late_take (i := 0) (v := .pointer (some ⟨g8, 1, none⟩)) rfl (by kernel_rfl) (by kernel_rfl) (by kernel_rfl) (by kernel_rfl) (fun _ _ _ h => h) (Or.inl ⟨rfl, fun _ _ => by go_simp⟩) S0 ?_
          simp only [List.getElem_toArray, List.getElem_cons_zero, Act.put, List.setIfInBounds_toArray, List.set_cons_zero, List.set_cons_succ]
          refine late_take (i := 1) (v := .slice oa M oc) rfl (by kernel_rfl) (by kernel_rfl) (by kernel_rfl) (by kernel_rfl) (fun _ _ _ h => h) (ldV_if rfl 110 Tryz.isAgg110 (.tmp 36) rfl ⟨g8, 1, none⟩ rfl (fun w' h => h.1.1)) S0 ?_
          simp only [List.getElem_toArray, List.getElem_cons_zero, List.getElem_cons_succ, Act.put, List.setIfInBounds_toArray, List.set_cons_zero, List.set_cons_succ]
          refine late_take (i := 2) (v := .pointer (some ⟨gs, 25, none⟩)) rfl (by kernel_rfl) (by kernel_rfl) (by kernel_rfl) (by kernel_rfl) (fun _ _ _ h => h) (Or.inl ⟨rfl, fun _ _ => by go_simp⟩) S0 ?_
          simp only [List.getElem_toArray, List.getElem_cons_zero, List.getElem_cons_succ, Act.put, List.setIfInBounds_toArray, List.set_cons_zero, List.set_cons_succ]
          refine late_take (i := 3) (v := .slice na N nc) rfl (by kernel_rfl) (by kernel_rfl) (by kernel_rfl) (by kernel_rfl) (fun _ _ _ h => h) (ldV_if rfl 59 Tryz.isAgg59 (.tmp 38) rfl ⟨gs, 25, none⟩ rfl (fun w' h => h.1.2)) S0 ?_
          simp only [List.getElem_toArray, List.getElem_cons_zero, List.getElem_cons_succ, Act.put, List.setIfInBounds_toArray, List.set_cons_zero, List.set_cons_succ]
          refine late_take (i := 4) (v := .int .i64 (k : Int)) rfl (by kernel_rfl) (by kernel_rfl) (by kernel_rfl) (by kernel_rfl) (fun _ _ _ h => h) (Or.inl ⟨rfl, fun _ _ => by go_simp⟩) S0 ?_
          simp only [List.getElem_toArray, List.getElem_cons_zero, List.getElem_cons_succ, Act.put, List.setIfInBounds_toArray, List.set_cons_zero, List.set_cons_succ]
          refine late_take (i := 5) (v := .pointer (some ⟨b0, o0, none⟩)) rfl (by kernel_rfl) (by kernel_rfl) (by kernel_rfl) (by kernel_rfl) (fun _ _ _ h => h) (ixV_if rfl 59 (.tmp 39) (.tmp 40) rfl _ _ _ rfl rfl hix) S0 ?_
          simp only [List.getElem_toArray, List.getElem_cons_zero, List.getElem_cons_succ, Act.put, List.setIfInBounds_toArray, List.set_cons_zero, List.set_cons_succ]
          refine late_take (i := 6) (v := .pointer (some ⟨b0, o0 + 1, none⟩)) rfl (by kernel_rfl) (by kernel_rfl) (by kernel_rfl) (by kernel_rfl) (fun _ _ _ h => h) (Or.inl ⟨rfl, fun _ _ => by go_simp⟩) S0 ?_
          simp only [List.getElem_toArray, List.getElem_cons_zero, List.getElem_cons_succ, Act.put, List.setIfInBounds_toArray, List.set_cons_zero, List.set_cons_succ]
          refine late_take (i := 7) (v := .slice ia JJ ic) rfl (by kernel_rfl) (by kernel_rfl) (by kernel_rfl) (by kernel_rfl) (fun _ _ _ h => h) (ldV_if rfl 94 Tryz.isAgg94 (.tmp 42) rfl ⟨b0, o0 + 1, none⟩ rfl (fun w' h => HRG.out w' h.2 1 _ rfl)) S0 ?_
          simp only [List.getElem_toArray, List.getElem_cons_zero, List.getElem_cons_succ, Act.put, List.setIfInBounds_toArray, List.set_cons_zero, List.set_cons_succ]
          refine late_take (i := 8) (v := .int .i64 (j : Int)) rfl (by kernel_rfl) (by kernel_rfl) (by kernel_rfl) (by kernel_rfl) (fun _ _ _ h => h) (Or.inl ⟨rfl, fun _ _ => by go_simp⟩) S0 ?_
          simp only [List.getElem_toArray, List.getElem_cons_zero, List.getElem_cons_succ, Act.put, List.setIfInBounds_toArray, List.set_cons_zero, List.set_cons_succ]
          refine late_take (i := 9) (v := .pointer (some ⟨b1, o1, none⟩)) rfl (by kernel_rfl) (by kernel_rfl) (by kernel_rfl) (by kernel_rfl) (fun _ _ _ h => h) (ixV_if rfl 94 (.tmp 43) (.tmp 44) rfl _ _ _ rfl rfl hix1) S0 ?_
          simp only [List.getElem_toArray, List.getElem_cons_zero, List.getElem_cons_succ, Act.put, List.setIfInBounds_toArray, List.set_cons_zero, List.set_cons_succ]
          refine late_take (i := 10) (v := .agg (outK o).toArray) rfl (by kernel_rfl) (by kernel_rfl) (by kernel_rfl) (by kernel_rfl) (fun _ _ _ h => h) (yieldsIf_load_mid (by rfl) _ _ rfl b1 o1 rfl (outK o) _ (fun w' h => HRG1.out _ h.2) Tryz.underlying58 rfl (by rw [outK_len]; exact infoO)) S0 ?_
          simp only [List.getElem_toArray, List.getElem_cons_zero, List.getElem_cons_succ, Act.put, List.setIfInBounds_toArray, List.set_cons_zero, List.set_cons_succ]
          refine late_forced [11, 12, 13, 14, 15] _ _ _ (by kernel_rfl) ?_
          refine LL_call rfl rfl 38 #[.agg (outK o).toArray] (by go_simp) ?_
          refine (as_any o _).mono ?_
          rintro e w2 ⟨kt2, ct2, rfl, hs⟩
          have N2 := hs.nw
          replace hS := hS.call hs
          have S1 : (w2.cell? ⟨g8, 1, none⟩ = some (.slice oa M oc) ∧ w2.cell? ⟨gs, 25, none⟩ = some (.slice na N nc)) ∧ New w w2 := ⟨⟨N2.cell' S0.1.1, N2.cell' S0.1.2⟩, hS.nw⟩
          refine ⟨_, rfl, S1, ?_⟩
          simp only [List.getElem_toArray, List.getElem_cons_zero, List.getElem_cons_succ, Act.put, List.setIfInBounds_toArray, List.set_cons_zero, List.set_cons_succ]
          have hb := hS.new (g := w2.heap.size) (cs := roC o.1 (.slice (some ⟨kt2, 0, none⟩) 24 ct2)) (ty := 67) (alloc_new _ _) (Nat.le_refl _) (HasC.box w2 _ _)
          have hbl := hb.has 0 rfl
          refine LL_val rfl rfl (run_bsB 110 67 (.tmp 47) rfl Tryz.underlying110 infoRo3 (by decide) (by decide) (roC o.1 (.slice (some ⟨kt2, 0, none⟩) 24 ct2)) (.agg #[.int .i64 o.1, .slice (some ⟨kt2, 0, none⟩) 24 ct2]) rfl rfl rfl) ⟨⟨(alloc_new _ _).cell' S1.1.1, (alloc_new _ _).cell' S1.1.2⟩, S1.2.trans (alloc_new _ _)⟩ ?_
          simp only [List.getElem_toArray, List.getElem_cons_zero, List.getElem_cons_succ, Act.put, List.setIfInBounds_toArray, List.set_cons_zero, List.set_cons_succ]
          generalize w2.alloc (.cells (roC o.1 (.slice (some ⟨kt2, 0, none⟩) 24 ct2)).toArray 67) = w3 at hb hbl ⊢
          obtain ⟨v', w4, hr, hd⟩ := run_appA (ty := 110) (P := Tryz.prog) (T := 110) (e := 67) Tryz.underlying110 infoRo3 rfl (by decide) (by decide) (E := routE) (y := (o.1, o.2)) (cs := roC o.1 (.slice (some ⟨kt2, 0, none⟩) 24 ct2)) (((hb.pull 3 rfl).pull 2 rfl).rout o.1 ct2) HLO.out hbl rfl (by simp [roC, Value.oneCell'])
          rw [HO.out] at hd
          obtain ⟨oa', oc', hv'⟩ := rowA_form (hd.rd 0 rfl)
          obtain ⟨M2, HM2⟩ : ∃ M2, Hid ((x.2.take (j + 1)).length = M2) := ⟨_, Lib.hid rfl⟩
          rw [HM2.out] at hv'
          have S2 : (w4.cell? ⟨g8, 1, none⟩ = some (.slice oa M oc) ∧ w4.cell? ⟨gs, 25, none⟩ = some (.slice na N nc)) ∧ New w w4 := ⟨⟨hd.cell 2 rfl (k := 1) rfl, hd.cell 6 rfl (skC_nd _ _)⟩, hd.nw⟩
          refine LL_val rfl rfl (run_appO (.tmp 37) (.tmp 48) 110 rfl rfl rfl hr) S2 ?_
          simp only [List.getElem_toArray, List.getElem_cons_zero, List.getElem_cons_succ, Act.put, List.setIfInBounds_toArray, List.set_cons_zero, List.set_cons_succ]
          refine LL_val (v := .pointer (some ⟨g8, 1, none⟩)) rfl rfl (by unfold execOp; simp only [Act.eval]; go_simp) S2 ?_
          simp only [List.getElem_toArray, List.getElem_cons_zero, List.getElem_cons_succ, Act.put, List.setIfInBounds_toArray, List.set_cons_zero, List.set_cons_succ]
          subst hv'
          have hst : (Instr.storeAt 110 (.pointer (some ⟨g8, 1, none⟩)) (.slice oa' M2 oc')).run Tryz.prog w4 = .ok () (putO w4 g8 (.cells (roC q (.slice oa' M2 oc')).toArray 112 (0, 0))) := HasC.store (hd.has 2 rfl) 1 [.slice oa' M2 oc'] 110 (.slice oa' M2 oc') rfl (by simp [roC]) (by simp [Value.oneCell']) infoRos1
          refine LL_skip rfl rfl rfl (run_stO 110 (.tmp 50) (.tmp 49) rfl rfl rfl hst) (fun h => absurd rfl h) ?_
          have hfin := hd.setAt 2 rfl (Kept.put w4 g8 (.cells (roC q (.slice oa' M2 oc')).toArray 112 (0, 0))) (HasC.put (hd.has 2 rfl) _)
          clear hst
          generalize putO w4 g8 (.cells (roC q (.slice oa' M2 oc')).toArray 112 (0, 0)) = w5 at hfin ⊢
          have HV := Lib.hid ((hfin.dropAt 1 (by simp)).pull 1 rfl)
          refine NoPanic.normal ?_
          clear hfin hd hr hb hbl hS HU hix1 S0 S1 S2 hs N2 cn c1
          go_wp2
          go_roundw
          case rel => exact ⟨j + 1, _, by go_num, by omega, HV⟩
          case measure => simp [intOf]; omega
        · have HFR : Hid (x.2.take j = x.2) := Lib.hid (List.take_of_length_le (by rw [HJ.out]; omega))
          rw [HFR.out] at HU
          have HV : Hid (Sep w wr [blk g8 112 (roC q vo), routsO vo x.2, blk g3 70 (rsC E.1 (.slice (some ⟨kt, 0, none⟩) 24 ct) vn), rnodesO vn (s.nodes.take k), tabA kt E.2, blk gs 61 (skC E (.slice na N nc)), blk g2 70 (rsC 0 (.slice none 0 0) (.slice none 0 0))]) := HU
          obtain ⟨oa, oc, hvo⟩ := rowA_form (HV.out.rd 1 rfl)
          rw [HJ.out] at hvo
          subst hvo
          obtain ⟨va, vc, hvn⟩ := rowA_form (HV.out.rd 3 rfl)
          obtain ⟨M, HM⟩ : ∃ M, Hid ((s.nodes.take k).length = M) := ⟨_, Lib.hid rfl⟩
          rw [HM.out] at hvn
          subst hvn
          have cm := HV.out.cell 2 rfl (k := 2) rfl
          have U1 : Hid True := Lib.hid trivial
          have U2 : Hid True := Lib.hid trivial
          have U3 : Hid True := Lib.hid trivial
          have U4 : Hid True := Lib.hid trivial
          clear HU
          go_wp2_with (first
            | (clear U1; refine wpList_load_mid rfl 112 (.tmp 5) rfl g8 0 rfl (roC q (.slice oa JJ oc)) _ (HasC.all (HV.out.has 0 rfl)) Tryz.underlying112 rfl infoRnd ?_)
            | (clear U2; refine wpList_bsB rfl 68 112 (.tmp 53) rfl Tryz.underlying68 infoRnd3 (by decide) (by decide) (roC q (.slice oa JJ oc)) _ rfl rfl rfl HV.out ?_; intro w5 b hs; have HBB := Lib.hid (hs.has 0 rfl); replace HV := Lib.hid ((hs.pull 2 rfl).rnode q); clear hs cm cn c1)
            | (at_builtin; clear U3; refine wpList_appI 3 rfl (.tmp 52) (.tmp 54) 68 112 rfl Tryz.underlying68 infoRnd3 rfl (by decide) (by decide) (E := rnodeE) (y := (q, x.2)) (cs := roC q (.slice oa JJ oc)) HV.out rfl HLK.out rfl rfl HBB.out rfl (by simp [roC, Value.oneCell']) ?_; intro v2 w6 hs; rw [HXS.out] at hs; obtain ⟨va2, vc2, hv2⟩ := rowA_form (hs.rd 3 rfl); obtain ⟨M2, HM2⟩ : ∃ M2, Hid ((s.nodes.take (k + 1)).length = M2) := ⟨_, Lib.hid rfl⟩; rw [HM2.out] at hv2; subst hv2; replace HV := Lib.hid hs; clear hs)
            | (clear U4; refine wpList_stC1 2 rfl rfl 68 (.tmp 56) (.tmp 55) rfl g3 2 rfl (.slice va2 M2 vc2) rfl HV.out rfl rfl (by simp [rsC]) rfl infoRns1 ?_; intro w7 hs; replace HV := Lib.hid hs.drop.drop; clear hs))
          go_roundw
          case rel => exact ⟨k + 1, _, by go_num, by omega, HV⟩
          case measure => simp [intOf]; omega
    · have HXD : Hid (s.nodes.take k = s.nodes) := Lib.hid (List.take_of_length_le (by rw [HN.out]; omega))
      rw [HXD.out] at HT
      have U1 : Hid True := Lib.hid trivial
      have U2 : Hid True := Lib.hid trivial
      obtain ⟨va, vc, hvn⟩ := rowA_form (HT.out.rd 1 rfl)
      rw [HN.out] at hvn
      subst hvn
      go_wp2_with (first
        | (clear U1; refine wpList_load_mid rfl 70 (.tmp 3) rfl g3 0 rfl (rsC E.1 (.slice (some ⟨kt, 0, none⟩) 24 ct) (.slice va N vc)) _ (HasC.all (HT.out.has 0 rfl)) Tryz.underlying70 rfl infoRs ?_)
        | (clear U2; refine wpList_stSW 4 rfl rfl 70 (.tmp 2) (.tmp 57) rfl g2 rfl _ rfl HT.out rfl (rsC E.1 (.slice (some ⟨kt, 0, none⟩) 24 ct) (.slice va N vc)) rfl rfl (by simp [rsC, Value.oneCell']) infoRs ?_; intro w5 hs; replace HT := Lib.hid hs; clear hs))
      exact bodyPost_ret (resRs _ rfl _ _ g2 _ _ _ rfl (HT.out.has 4 rfl)) rfl ⟨kt, ct, va, vc, rfl, ((HT.out.drop.pull 1 rfl).dropAt 3 (by simp)).dropAt 2 (by simp)⟩
end Go.Proofs.YtlmnodbhfpgplaaGreatDoor
