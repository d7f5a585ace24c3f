/-
  Layer 10: the contract of skel.Ways.
-/
import Derived.Test.YtlmnodbhfpgplaaGreatDoorSkelWay
import Derived.Test.YtlmnodbhfpgplaaGreatDoorWayPlan
namespace Go.Proofs.YtlmnodbhfpgplaaGreatDoor
open Go.RowKit

theorem add_is (to : Int) (e : Ed) (gw : Nat) (v : Value) (N : Nat) (g g' : Int → List Ed) {w0 w : World} {l : List Asn} (hN : N ≤ 100000) (hlen : ∀ n, (g n).length ≤ 100000) (hg : ∀ n : Nat, n < N → g' n = g n ++ if to = n then [e] else []) (hs : Sep w0 w (blk gw 92 [v] :: waysO v (edTab N g) :: l)) :
    Calls Tryz.prog 59 #[.int .i64 to, .agg #[.int .i64 e.1, .int .i64 e.2], .pointer (some ⟨gw, 0, none⟩)] w fun r w' => r = .returned (.tuple #[]) ∧ Sep w0 w' (blk gw 92 [v] :: waysO v (edTab N g') :: l) := by
  by_cases h : 0 ≤ to ∧ to < N
  · obtain ⟨q, rfl⟩ : ∃ q : Nat, to = (q : Int) := ⟨to.toNat, by omega⟩
    have hq : q < N := by omega
    rw [← edTab_set (g := g) (g' := g') (e := e) hq fun n hn => by
      rw [hg n hn]
      by_cases e1 : n = q
      · subst e1
        rw [if_pos rfl, if_pos rfl]
      · rw [if_neg e1, if_neg (by omega), List.append_nil]]
    exact add_yes q e gw v _ _ (edTab_at g hq) (by rw [edTab_len]; exact hN) (hlen _) hs
  · rw [← edTab_none (g := g) (g' := g') fun n hn => by rw [hg n hn, if_neg (by omega), List.append_nil]]
    exact add_no to e gw v _ (by rw [edTab_len]; exact h) hs
theorem build_Ed1 (a : Int) (w : World) : (Instr.build 99 #[(0, .int .i64 a)]).run Tryz.prog w = .ok (.agg #[.int .i64 a, .int .i64 0]) w := run_build w _ _ _ (by kernel_rfl)
theorem build_Ed2 (a b : Int) (w : World) : (Instr.build 99 #[(0, .int .i64 a), (1, .int .i64 b)]).run Tryz.prog w = .ok (.agg #[.int .i64 a, .int .i64 b]) w := run_build w _ _ _ (by kernel_rfl)
theorem zeroWs_run (w : World) : (zeroValue 92).run Tryz.prog w = .ok (.slice none 0 0) w := Tryz.zeroValue92 w
theorem infoWs : (Tryz.prog.info? 92).map (·.size) = some 1 := by kernel_rfl
theorem infoEs3 : (Tryz.prog.info? 97).map (fun i => (i.zero, i.size, i.bytes)) = some (some (.slice none 0 0), 1, 24) := by kernel_rfl
theorem zeroNd_run (w : World) : (zeroValue 96).run Tryz.prog w = .ok (.agg (nodeC 0 (.slice none 0 0)).toArray) w := Tryz.zeroValue96 w
theorem infoNd : (Tryz.prog.info? 96).map (·.size) = some 2 := by kernel_rfl
theorem sizeOt : ∀ w, (sizeOf 58).run Tryz.prog w = .ok 25 w := Tryz.sizeOf58
theorem skC_to (o : Wyo) (v : Value) : (skC o v)[0]? = some (.int .i64 o.1) := rfl
theorem esE_nil (w : World) : (esE [] [.slice none 0 0]).on w (fun _ => False) :=
  ⟨.slice none 0 0, fun _ => False, fun _ => False, rfl, ⟨[], rfl, by simp, World.ownsRow_nil w 0 _ _, fun _ => False, fun _ => False, by simp [Value.ownBlock], trivial, fun _ h => h.elim, fun _ h => h, fun _ h => h⟩, fun _ h _ => h, fun _ h => h, fun _ h => h⟩
set_option maxHeartbeats 16000000 in
set_option maxRecDepth 100000 in
theorem ways_any (s : Skl) (v : Value) (w : World) (hs : (nodesO v s.nodes).rd w) (hN : s.nodes.length ≤ 1000) (hB : ∀ x ∈ s.nodes, x.2.length ≤ 10) :
    Calls Tryz.prog 33 #[.agg (skC s.entry v).toArray] w fun r w' => ∃ vw, r = .returned vw ∧ Sep w w' [waysO vw (edTab s.nodes.length (edgesA s))] := by
  have HR := Lib.hid hs
  have HB := Lib.hid hB
  obtain ⟨na, nc, hv⟩ := rowA_form hs
  obtain ⟨N, HN⟩ : ∃ N, Hid (s.nodes.length = N) := ⟨_, Lib.hid rfl⟩
  rw [HN.out] at hv hN ⊢
  subst hv
  have HLN : ∀ m k, Hid (∀ n, (edAt s m k n).length ≤ 100000) := fun m k => Lib.hid fun n => by
    have h1 := ed_len (m := m) (k := k) (n := n) hB
    rw [HN.out] at h1
    omega
  have HS := Lib.hid (Sep.start w)
  obtain ⟨E, HE⟩ : ∃ E, Hid (s.entry = E) := ⟨_, Lib.hid rfl⟩
  rw [HE.out]
  have HG0 : Hid (∀ n : Nat, n < N → edAt s 0 0 n = [] ++ if E.1 = (n : Int) then [(-1, 0)] else []) := Lib.hid fun n _ => by rw [ed_zero, HE.out, List.nil_append]
  have HW0 : Hid (List.replicate N ([] : List Ed) = edTab N fun _ => []) := Lib.hid (by unfold edTab; rw [List.map_const', List.length_range])
  clear hs hB
  have T1 : Hid True := Lib.hid trivial
  have T2 : Hid True := Lib.hid trivial
  have T3 : Hid True := Lib.hid trivial
  have T4 : Hid True := Lib.hid trivial
  have T5 : Hid True := Lib.hid trivial
  have T6 : Hid True := Lib.hid trivial
  go_enter Tryz.func33, Tryz.ntmps33
  go_wp2_with (first
    | (clear T1; refine wpList_boxB rfl 61 (.tmp 0) rfl (skC E (.slice na N nc)) rfl HS.out ?_; intro wa gb hs; replace HS := Lib.hid hs; have cn := HS.out.cell 0 rfl (skC_nd _ _); clear hs)
    | (clear T2; at_make; refine wpList_mk1 rfl (.tmp 11) (.tmp 11) 92 97 rfl Tryz.underlying92 infoEs3 rfl (by decide) N rfl rfl (by omega) HS.out (E := esE) (x0 := []) esE_nil ?_; intro wb vb hs; rw [HW0.out] at hs; replace HS := Lib.hid hs; clear hs cn)
    | (clear T3; refine wpList_alB rfl 92 rfl _ zeroWs_run [.slice none 0 0] rfl HS.out ?_; intro wc gw hs; replace HS := Lib.hid hs; clear hs)
    | (clear T4; refine wpList_stC1 0 rfl rfl 92 (.tmp 3) (.tmp 12) rfl gw 0 rfl (.slice (some ⟨vb, 0, none⟩) N N) rfl HS.out rfl rfl (by simp) rfl infoWs ?_; intro wd hs; replace HS := Lib.hid hs; have ce := HS.out.cell 2 rfl (skC_to _ _); clear hs)
    | (clear T5; refine wpList_bd1 (a := .int .i64 (-1)) rfl 99 0 (.const (.int .i64 (-1))) rfl rfl (build_Ed1 (-1)) ?_)
    | (clear T6; go_at_call 59; refine (add_is E.1 (-1, 0) gw (.slice (some ⟨vb, 0, none⟩) N N) N (fun _ => []) (edAt s 0 0) (by omega) (fun _ => by simp) HG0.out HS.out).mono ?_; rintro e we ⟨rfl, hs⟩; replace HS := Lib.hid hs; have cn := HS.out.cell 2 rfl (skC_nd _ _); clear hs ce))
  go_loopw [23] (fun iv wr => ∃ m : Nat, iv = .int .i64 (m : Int) ∧ m ≤ N ∧ Hid (Sep w wr [blk gw 92 [.slice (some ⟨vb, 0, none⟩) N N], waysO (.slice (some ⟨vb, 0, none⟩) N N) (edTab N (edAt s m 0))])) (fun iv _ => N - (intOf iv).toNat)
  case atStart => exact ⟨0, rfl, by omega, Lib.hid (HS.out.dropAt 2 (by simp))⟩
  case round =>
    obtain ⟨m, rfl, hm, HT⟩ := hrel
    clear HS cn
    by_cases hmN : m < N
    · obtain ⟨x, hx⟩ : ∃ x, s.nodes[m]? = some x := ⟨_, List.getElem?_eq_getElem (by rw [HN.out]; exact hmN)⟩
      have HX := Lib.hid hx
      obtain ⟨b0, o0, c, hlc, hix, hrg, hEr⟩ := rowA_ix (P := Tryz.prog) HR.out 59 Tryz.underlying59 sizeNd hx
      obtain ⟨vo, hc0, hro⟩ : ∃ vo, c = nodeC x.1 vo ∧ (outsA vo x.2).rd w := by
        obtain ⟨F, ⟨vo, F1, F2, h1, h2, _, _, h3⟩, h4⟩ := hEr
        exact ⟨vo, h1, F2, h2, fun g hg => h4 g (h3 g hg)⟩
      subst hc0
      obtain ⟨oa, oc, hvo⟩ := rowA_form hro
      obtain ⟨K, HK⟩ : ∃ K, Hid (x.2.length = K) := ⟨_, Lib.hid rfl⟩
      have hK10 : K ≤ 10 := by rw [← HK.out]; exact HB.out x (List.mem_of_getElem? hx)
      rw [HK.out] at hvo
      subst hvo
      have HRO := Lib.hid hro
      have HRG := Lib.hid hrg
      have U1 : Hid True := Lib.hid trivial
      have U2 : Hid True := Lib.hid trivial
      have U3 : Hid True := Lib.hid trivial
      clear hx hlc hrg hEr hro
      go_wp2_with (first
        | (clear U1; refine wpList_load_mid rfl 96 (.tmp 26) rfl b0 o0 rfl (nodeC x.1 (.slice oa K oc)) _ (HRG.out _ HT.out.nw) Tryz.underlying96 rfl infoNd ?_)
        | (clear U2; refine wpList_alB rfl 96 rfl _ zeroNd_run _ rfl HT.out ?_; intro wx gx hs; replace HT := Lib.hid hs; clear hs)
        | (clear U3; refine wpList_stSW 0 rfl rfl 96 (.tmp 6) (.tmp 27) rfl gx rfl _ rfl HT.out rfl (nodeC x.1 (.slice oa K oc)) rfl rfl (by simp [nodeC, Value.oneCell']) infoNd ?_; intro wy hs; replace HT := Lib.hid hs; have cx := HT.out.cell 0 rfl (k := 1) rfl; clear hs))
      go_loopw [31] (fun iv wr => ∃ k : Nat, iv = .int .i64 (k : Int) ∧ k ≤ K ∧ Hid (Sep w wr [blk gw 92 [.slice (some ⟨vb, 0, none⟩) N N], waysO (.slice (some ⟨vb, 0, none⟩) N N) (edTab N (edAt s m k))])) (fun iv _ => K - (intOf iv).toNat)
      case atStart => exact ⟨0, rfl, by omega, Lib.hid HT.out.drop⟩
      case round =>
        obtain ⟨k, rfl, hk, HU⟩ := hrel
        clear HT cx
        by_cases hkK : k < K
        · obtain ⟨o, ho⟩ : ∃ o, x.2[k]? = some o := ⟨_, List.getElem?_eq_getElem (by rw [HK.out]; exact hkK)⟩
          obtain ⟨b1, o1, hix1, hrg1⟩ := leaf_ix (P := Tryz.prog) HRO.out 94 Tryz.underlying94 sizeOt ho
          have HG : Hid (∀ n : Nat, n < N → edAt s m (k + 1) n = edAt s m k n ++ if o.1 = (n : Int) then [((m : Int), (k : Int))] else []) := Lib.hid fun n _ => ed_step HX.out ho
          have HRG1 := Lib.hid hrg1
          have V1 : Hid True := Lib.hid trivial
          have V2 : Hid True := Lib.hid trivial
          have V3 : Hid True := Lib.hid trivial
          have V4 : Hid True := Lib.hid trivial
          have V5 : Hid True := Lib.hid trivial
          clear ho hrg1 hix
          go_wp2_with (first
            | (clear V1; refine wpList_load_mid rfl 58 (.tmp 34) rfl b1 o1 rfl (outK o) _ (HRG1.out _ HU.out.nw) Tryz.underlying58 rfl (by rw [outK_len]; exact infoO) ?_)
            | (clear V2; refine wpList_alB rfl 58 rfl _ zeroOt_run _ rfl HU.out ?_; intro w1 g1 hs; replace HU := Lib.hid hs; clear hs)
            | (clear V3; refine wpList_stSW 0 rfl rfl 58 (.tmp 8) (.tmp 35) rfl g1 rfl _ rfl HU.out rfl (outK o) rfl (by rw [outK_len, outK_len]) (outK_one o) (by rw [outK_len]; exact infoO) ?_; intro w2 hs; replace HU := Lib.hid hs; have c1 := HU.out.cell 0 rfl (k := 0) rfl; replace HU := Lib.hid hs.drop; clear hs)
            | (clear V4; refine wpList_bd2 (a := .int .i64 (m : Int)) (b := .int .i64 (k : Int)) rfl 99 0 1 (.tmp 39) (.tmp 40) rfl rfl rfl (build_Ed2 m k) ?_)
            | (clear V5; go_at_call 59; refine (add_is o.1 (m, k) gw (.slice (some ⟨vb, 0, none⟩) N N) N (edAt s m k) (edAt s m (k + 1)) (by omega) (HLN m k).out HG.out HU.out).mono ?_; rintro e w3 ⟨rfl, hs⟩; replace HU := Lib.hid hs; clear hs c1))
          go_roundw
          case rel => exact ⟨k + 1, by go_num, by omega, HU⟩
          case measure => simp [intOf]; omega
        · have HG : Hid (edTab N (edAt s m k) = edTab N (edAt s (m + 1) 0)) := Lib.hid (edTab_none fun n _ => (ed_next HX.out (by rw [HK.out]; omega)).symm)
          rw [HG.out] at HU
          clear hix
          go_wp2
          go_roundw
          case rel => exact ⟨m + 1, by go_num, by omega, HU⟩
          case measure => simp [intOf]; omega
    · have HG : Hid (edTab N (edAt s m 0) = edTab N (edgesA s)) := Lib.hid (edTab_none fun n _ => (ed_done (by rw [HN.out]; omega)).symm)
      rw [HG.out] at HT
      have cw := HT.out.cell 0 rfl (k := 0) rfl
      go_wp2
      go_ret
      exact ⟨_, rfl, HT.out.drop⟩
end Go.Proofs.YtlmnodbhfpgplaaGreatDoor
