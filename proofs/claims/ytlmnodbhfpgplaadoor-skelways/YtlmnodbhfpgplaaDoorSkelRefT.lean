/-
  Layer 10: the contract of the reference's To.
-/
import Derived.Test.YtlmnodbhfpgplaaDoorSkelRefB
import Derived.Test.YtlmnodbhfpgplaaDoorSkelWays
namespace Go.Proofs.YtlmnodbhfpgplaaDoor
open Go.RowKit

theorem rnode_rd {x : Int × List Wyo} {c : List Value} {w : World} (h : (rnodeE x c).rd w) : ∃ v, c = roC x.1 v ∧ (routsO v x.2).rd w := by
  obtain ⟨F, ⟨v, F1, F2, h1, h2, _, _, h3⟩, h4⟩ := h
  exact ⟨v, h1, F2, h2, fun g hg => h4 g (h3 g hg)⟩
theorem rout_rd {o : Wyo} {c : List Value} {w : World} (h : (routE o c).rd w) : ∃ k ct, c = roC o.1 (.slice (some ⟨k, 0, none⟩) 24 ct) ∧ (tabA k o.2).rd w := by
  obtain ⟨F, ⟨kc, F1, F2, h1, h2, _, _, h3⟩, h4⟩ := h
  exact ⟨kc.1, kc.2, h1, F2, h2, fun g hg => h4 g (h3 g hg)⟩
theorem sizeRnd : ∀ w, (sizeOf 77).run Tryd.prog w = .ok 2 w := Tryd.sizeOf77
theorem sizeRo : ∀ w, (sizeOf 42).run Tryd.prog w = .ok 2 w := Tryd.sizeOf42
set_option maxHeartbeats 16000000 in
set_option maxRecDepth 100000 in
theorem refTo_any (s : Skl) (ta : Option Addr) (tm tc : Nat) (na : Option Addr) (nc N : Nat) (n : Int) (w : World) (hN : s.nodes.length = N) (hs : (rnodesO (.slice na N nc) s.nodes).rd w) (hN2 : N ≤ 1000) (hB : ∀ x ∈ s.nodes, x.2.length ≤ 10) :
    Calls Tryd.prog 11 #[.agg #[.int .i64 s.entry.1, .slice ta tm tc, .slice na N nc], .int .i64 n] w fun r w' => ∃ v, r = .returned v ∧ Sep w w' [edgesO v (edgesA s n)] := by
  have HR := Lib.hid hs
  have HB := Lib.hid hB
  have HN := Lib.hid hN
  have HLN : ∀ m k, Hid ((edAt s m k n).length ≤ 100000) := fun m k => Lib.hid (by
    have h1 := ed_len (m := m) (k := k) (n := n) hB
    rw [hN] at h1
    omega)
  have HS := Lib.hid ((Sep.start w).row0 50 2 (leafE edK))
  obtain ⟨e0, he0⟩ : ∃ e0, s.entry.1 = e0 := ⟨_, rfl⟩
  have HE0 := Lib.hid he0
  rw [he0]
  clear hs hB hN he0
  have T1 : Hid True := Lib.hid trivial
  have T2 : Hid True := Lib.hid trivial
  have T3 : Hid True := Lib.hid trivial
  have T4 : Hid True := Lib.hid trivial
  by_cases hq : e0 = n
  case' pos =>
    have q0 : (e0 == n) = true := beq_of hq
    go_enter Tryd.func11, Tryd.ntmps11
    go_wp2_with (first
      | (clear T1; refine wpList_boxB rfl 45 (.tmp 0) rfl (rsC e0 (.slice ta tm tc) (.slice na N nc)) rfl HS.out ?_; intro wa gb hs; replace HS := Lib.hid hs; have c0 := HS.out.cell 0 rfl (k := 0) rfl; clear hs)
      | (clear T2; refine wpList_bd1 (a := .int .i64 (-1)) rfl 50 0 (.const (.int .i64 (-1))) rfl rfl (build_Ed1 (-1)) ?_)
      | (clear T3; refine wpList_bsB rfl 47 50 (.tmp 14) rfl Tryd.underlying47 infoEd3 (by decide) (by decide) (edK (-1, 0)) _ rfl rfl rfl HS.out ?_; intro wx b hs; replace HS := Lib.hid hs; clear hs)
                        | (at_builtin; clear T4; refine wpList_appL 2 rfl (.tmp 13) (.tmp 15) 47 50 rfl Tryd.underlying47 infoEd3 rfl (by decide) (by decide) (mk := edK) (y := (-1, 0)) HS.out rfl (by simp) rfl rfl (HS.out.has 0 rfl) rfl (by simp [edK, Value.oneCell']) ?_; intro v2 wy hs; replace HS := Lib.hid hs.drop; clear hs))
    replace HS : Hid (Sep w wy [blk gb 45 (rsC e0 (.slice ta tm tc) (.slice na N nc)), edgesO v2 (edAt s 0 0 n)]) := Lib.hid (by rw [ed_zero, HE0.out, if_pos hq]; exact HS.out)
  case' neg =>
    have q0 : (e0 == n) = false := bneq_of hq
    go_enter Tryd.func11, Tryd.ntmps11
    go_wp2_with (first
      | (clear T1; refine wpList_boxB rfl 45 (.tmp 0) rfl (rsC e0 (.slice ta tm tc) (.slice na N nc)) rfl HS.out ?_; intro wa gb hs; replace HS := Lib.hid hs; have c0 := HS.out.cell 0 rfl (k := 0) rfl; clear hs))
    replace HS : Hid (Sep w wa [blk gb 45 (rsC e0 (.slice ta tm tc) (.slice na N nc)), edgesO (.slice none 0 0) (edAt s 0 0 n)]) := Lib.hid (by rw [ed_zero, HE0.out, if_neg hq]; exact HS.out)
  all_goals
    clear HE0
    go_loopw [5, 6] (fun ov mv wr => ∃ (m : Nat) (v : Value), ov = v ∧ mv = .int .i64 (m : Int) ∧ m ≤ N ∧ Hid (Sep w wr [blk gb 45 (rsC e0 (.slice ta tm tc) (.slice na N nc)), edgesO v (edAt s m 0 n)])) (fun _ mv _ => N - (intOf mv).toNat)
    case atStart => exact ⟨0, _, rfl, rfl, by omega, HS⟩
    case round =>
      obtain ⟨m, v, rfl, rfl, hm, HT⟩ := hrel
      clear HS c0 q0 hq
      have cn := HT.out.cell 0 rfl (k := 2) rfl
      by_cases hmN : m < N
      · obtain ⟨x, hx⟩ : ∃ x, s.nodes[m]? = some x := ⟨_, List.getElem?_eq_getElem (by rw [HN.out]; exact hmN)⟩
        have HX := Lib.hid hx
        obtain ⟨b0, o0, c, _, hix, hrg, hE⟩ := rowA_ix (P := Tryd.prog) HR.out 43 Tryd.underlying43 sizeRnd hx
        obtain ⟨vo, hc, hro⟩ := rnode_rd hE
        subst hc
        obtain ⟨oa, oc, hv⟩ := rowA_form hro
        obtain ⟨K, HK⟩ : ∃ K, Hid (x.2.length = K) := ⟨_, Lib.hid rfl⟩
        have hK10 : K ≤ 10 := by rw [← HK.out]; exact HB.out x (List.mem_of_getElem? hx)
        rw [HK.out] at hv
        subst hv
        have HRO := Lib.hid hro
        have HRG := Lib.hid hrg
        clear hx hrg hE hro
        go_wp2_with fail
        go_loopw [5, 7] (fun ov kv wr => ∃ (k : Nat) (v : Value), ov = v ∧ kv = .int .i64 (k : Int) ∧ k ≤ K ∧ Hid (Sep w wr [blk gb 45 (rsC e0 (.slice ta tm tc) (.slice na N nc)), edgesO v (edAt s m k n)])) (fun _ kv _ => K - (intOf kv).toNat)
        case atStart => exact ⟨0, _, rfl, rfl, by omega, HT⟩
        case round =>
          obtain ⟨k, v, rfl, rfl, hk, HU⟩ := hrel
          clear HT cn
          have cn := HU.out.cell 0 rfl (k := 2) rfl
          have y1 := HRG.out _ HU.out.nw 1 _ rfl
          by_cases hkK : k < K
          · obtain ⟨o, ho⟩ : ∃ o, x.2[k]? = some o := ⟨_, List.getElem?_eq_getElem (by rw [HK.out]; exact hkK)⟩
            obtain ⟨b1, o1, c1, _, hix1, hrg1, hE1⟩ := rowA_ix (P := Tryd.prog) HRO.out 75 Tryd.underlying75 sizeRo ho
            obtain ⟨kt, ct, hc1, _⟩ := rout_rd hE1
            subst hc1
            have z0 := hrg1 _ HU.out.nw 0 _ rfl
            rw [Nat.add_zero] at z0
            have HLEN := (HLN m k).out
            by_cases hon : o.1 = n
            · have q1 : (o.1 == n) = true := beq_of hon
              have HG : Hid (edAt s m k n ++ [((m : Int), (k : Int))] = edAt s m (k + 1) n) := Lib.hid (by rw [ed_step HX.out ho, if_pos hon])
              have U1 : Hid True := Lib.hid trivial
              have U2 : Hid True := Lib.hid trivial
              have U3 : Hid True := Lib.hid trivial
              clear ho hrg1 hE1 hon
              go_wp2_with (first
                | (clear U1; refine wpList_bd2 (a := .int .i64 (m : Int)) (b := .int .i64 (k : Int)) rfl 50 0 1 (.tmp 48) (.tmp 49) rfl rfl rfl (build_Ed2 m k) ?_)
                | (clear U2; refine wpList_bsB rfl 47 50 (.tmp 50) rfl Tryd.underlying47 infoEd3 (by decide) (by decide) (edK ((m : Int), (k : Int))) _ rfl rfl rfl HU.out ?_; intro wx b hs; replace HU := Lib.hid hs; clear hs)
                        | (at_builtin; clear U3; refine wpList_appL 2 rfl (.tmp 47) (.tmp 51) 47 50 rfl Tryd.underlying47 infoEd3 rfl (by decide) (by decide) (mk := edK) (y := ((m : Int), (k : Int))) HU.out rfl HLEN rfl rfl (HU.out.has 0 rfl) rfl (by simp [edK, Value.oneCell']) ?_; intro v2 wy hs; rw [HG.out] at hs; replace HU := Lib.hid hs.drop; clear hs))
              go_roundw
              case rel => exact ⟨k + 1, _, rfl, by go_num, by omega, HU⟩
              case measure => simp [intOf]; omega
            · have q1 : (o.1 == n) = false := bneq_of hon
              have HG : Hid (edAt s m k n = edAt s m (k + 1) n) := Lib.hid (by rw [ed_step HX.out ho, if_neg hon, List.append_nil])
              rw [HG.out] at HU
              clear ho hrg1 hE1 hon
              go_wp2_with fail
              go_roundw
              case rel => exact ⟨k + 1, _, rfl, by go_num, by omega, HU⟩
              case measure => simp [intOf]; omega
          · have HG : Hid (edAt s m k n = edAt s (m + 1) 0 n) := Lib.hid (ed_next HX.out (by rw [HK.out]; omega))
            rw [HG.out] at HU
            go_wp2_with fail
            go_roundw
            case rel => exact ⟨m + 1, _, rfl, by go_num, by omega, HU⟩
            case measure => simp [intOf]; omega
      · have HG : Hid (edAt s m 0 n = edgesA s n) := Lib.hid (ed_done (by rw [HN.out]; omega))
        rw [HG.out] at HT
        go_wp2_with fail
        go_ret
        exact ⟨_, rfl, HT.out.drop⟩
end Go.Proofs.YtlmnodbhfpgplaaDoor
