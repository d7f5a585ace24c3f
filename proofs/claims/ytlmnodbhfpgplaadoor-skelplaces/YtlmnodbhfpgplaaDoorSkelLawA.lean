/-
  'SkelPlaces': nodes are at unlike places, each of which does more than move, and has as many ways as its instruction has, or none, if it is cut: true, for every input.
-/
import Derived.Test.YtlmnodbhfpgplaaDoorSkelK
import Derived.Test.YtlmnodbhfpgplaaDoorRefMoves
import Derived.Test.YtlmnodbhfpgplaaDoorRefAsmA
namespace Go.Proofs.YtlmnodbhfpgplaaDoor
open Go.RowKit

theorem want_is (f : List I) (cut : List Bool) (p : Int) : (outsOf f cut p).length = if (insA f p).op = 18 ∨ ctA cut p = true then 0 else if (insA f p).op = 17 then 2 else 1 := by
  unfold outsOf fromsA
  rw [List.length_map]
  split
  · rfl
  · split <;> rfl
set_option maxHeartbeats 16000000 in
set_option maxRecDepth 100000 in
theorem skelPlaces_walk (fv cv : Value) (f : List I) (cut : List Bool) (w : World) (hf : FunAt w fv f) (hc : RowAt w cv (cut.map .bool)) (hl : Laid w) :
    Calls Tryd.prog 4 #[fv, cv] w fun e w' => e = .returned (.bool true) ∧ New w w' := by
  obtain ⟨fa, fc, rfl⟩ := hf.form
  obtain ⟨ca, m, cc, rfl⟩ := hc.form
  have HL := Lib.hid hl
  have HF := Lib.hid hf
  have HC := Lib.hid hc
  have HM : Hid (m = cut.length) := Lib.hid (by rw [hc.len, List.length_map])
  clear hl hf hc
  obtain ⟨n, HN⟩ : ∃ n, Hid (f.length = n) := ⟨_, Lib.hid rfl⟩
  rw [HN.out] at HF ⊢
  cases d3 : decide ((300 : Int) < (n : Int)) with
  | true =>
    go_enter Tryd.func4, Tryd.ntmps4
    go_wp2_with (go_at_call 7; refine (knows_from _ HL.out (New.refl w)).mono ?_; rintro e wk ⟨rfl, hnk⟩)
    go_ret
    exact ⟨rfl, hnk⟩
  | false =>
    cases d4 : decide ((300 : Int) < (m : Int)) with
    | true =>
      go_enter Tryd.func4, Tryd.ntmps4
      go_wp2_with (go_at_call 7; refine (knows_from _ HL.out (New.refl w)).mono ?_; rintro e wk ⟨rfl, hnk⟩)
      go_ret
      exact ⟨rfl, hnk⟩
    | false =>
      by_cases hr : (chkF f).2 = 0
      case neg =>
        have q1 : ((chkF f).2 == 0) = false := bneq_of hr
        have T1 : Hid True := Lib.hid trivial
        clear hr
        go_enter Tryd.func4, Tryd.ntmps4
        go_wp2_with (first
          | (clear T1; go_at_call 6; refine (rasmRight_any _ f _ HF.out).mono ?_; rw [q1]; rintro e w1 ⟨rfl, hn1⟩)
          | (go_at_call 7; refine (knows_from _ HL.out hn1).mono ?_; rintro e wk ⟨rfl, hnk⟩))
        go_ret
        exact ⟨rfl, hnk⟩
      case pos =>
        have q1 : ((chkF f).2 == 0) = true := beq_of hr
        have HR := Lib.hid hr
        have HS := Lib.hid (Sep.start w)
        obtain ⟨S, HSK⟩ : ∃ S, Hid (sklA f cut = S) := ⟨_, Lib.hid rfl⟩
        obtain ⟨N, HNN⟩ : ∃ N, Hid (S.nodes.length = N) := ⟨_, Lib.hid rfl⟩
        have HN2 : Hid (N ≤ 200) := Lib.hid (by
          rw [← HNN.out, ← HSK.out, skl_nodes, List.length_map]
          exact Nat.le_trans (nds_len (nodes_nds hr cut)) (chk_len hr))
        have T1 : Hid True := Lib.hid trivial
        have T2 : Hid True := Lib.hid trivial
        have T3 : Hid True := Lib.hid trivial
        have T4 : Hid True := Lib.hid trivial
        clear hr
        go_enter Tryd.func4, Tryd.ntmps4
        go_wp2_with (first
          | (clear T1; go_at_call 6; refine (rasmRight_any _ f _ HF.out).mono ?_; rw [q1]; rintro e w1 ⟨rfl, hn1⟩; replace HS := Lib.hid (HS.out.go hn1); clear hn1)
          | (clear T2; go_at_call 8; refine (build_in fa n fc f ca m cc cut _ (HL.out.new HS.out.nw) (HF.out.new HS.out.nw) (HC.out.new HS.out.nw) HR.out).mono ?_; rw [HSK.out]; rintro e w2 ⟨vs, rfl, hs⟩; obtain ⟨na, nc, hv⟩ := rowA_form hs.hd; rw [HNN.out] at hv; subst hv; replace HS := Lib.hid (HS.out.call hs); clear hs)
          | (clear T3; refine wpList_alB rfl 34 rfl _ zeroSk_run _ rfl HS.out ?_; intro w3 g5 hs; replace HS := Lib.hid hs; clear hs)
          | (clear T4; refine wpList_stSW 0 rfl rfl 34 (.tmp 5) (.tmp 29) rfl g5 rfl _ rfl HS.out rfl (skC S.entry (.slice na N nc)) rfl (by rw [skC_len, skC_len]) (skC_one _ rfl) (by rw [skC_len]; exact infoSk) ?_; intro w4 hs; replace HS := Lib.hid hs; clear hs))
        go_loopw [7] (fun iv wr => ∃ k : Nat, iv = .int .i64 (k : Int) ∧ k ≤ N ∧ Hid (Sep w wr [blk g5 34 (skC S.entry (.slice na N nc)), nodesO (.slice na N nc) S.nodes])) (fun iv _ => N - (intOf iv).toNat)
        case atStart => exact ⟨0, rfl, by omega, HS⟩
        case round =>
          obtain ⟨k, rfl, hk, HT⟩ := hrel
          clear HS
          have hN2 := HN2.out
          have cn := HT.out.cell 0 rfl (skC_nd _ _)
          by_cases hkN : k < N
          · obtain ⟨x, hx⟩ : ∃ x, S.nodes[k]? = some x := ⟨_, List.getElem?_eq_getElem (by rw [HNN.out]; exact hkN)⟩
            obtain ⟨pz, hpz, hxe⟩ : ∃ pz, (nodesA f cut)[k]? = some pz ∧ x = (pz, outsOf f cut pz) := by
              have h := hx
              rw [← HSK.out, skl_nodes, List.getElem?_map] at h
              obtain ⟨pz, h1, h2⟩ := Option.map_eq_some_iff.mp h
              exact ⟨pz, h1, h2.symm⟩
            subst hxe
            have hpn : InF f pz ∧ mvA f pz = false := (nodes_nds HR.out cut).inf pz (List.mem_of_getElem? hpz)
            obtain ⟨q, rfl⟩ : ∃ q : Nat, pz = (q : Int) := ⟨pz.toNat, by have := hpn.1.2.1; omega⟩
            have hqn : q < n := by have := hpn.1.2.2; have := HN.out; omega
            have HPZ := Lib.hid hpz
            obtain ⟨fb, fo, y, hy, hiy, hry⟩ := HF.out.ix hqn
            have HY : Hid (insA f (q : Int) = y) := Lib.hid (by
              unfold insA
              rw [Int.toNat_natCast, List.getD_eq_getElem?_getD, hy]
              rfl)
            have HMY : Hid (movesB y.op = false) := Lib.hid (by have := hpn.2; unfold mvA at this; rw [HY.out] at this; exact this)
            obtain ⟨b0, o0, c, _, hix, hrg, hE⟩ := rowA_ix (P := Tryd.prog) (HT.out.rd 1 rfl) 32 Tryd.underlying32 sizeNd hx
            obtain ⟨vo, hc, hro⟩ := node_rd hE
            subst hc
            obtain ⟨oa, oc, hv⟩ := rowA_form hro
            obtain ⟨K, HK⟩ : ∃ K, Hid ((outsOf f cut (q : Int)).length = K) := ⟨_, Lib.hid rfl⟩
            rw [show ((q : Int), outsOf f cut (q : Int)).2.length = K from HK.out] at hv
            subst hv
            have y0 := hrg _ (New.refl _) 0 _ rfl
            rw [Nat.add_zero] at y0
            have HRG := Lib.hid hrg
            have HRY := Lib.hid hry
            have HWN := Lib.hid HT.out.nw
            have d5 : decide ((q : Int) < 0) = false := decide_eq_false (by omega)
            have d6 : decide ((n : Int) ≤ (q : Int)) = false := decide_eq_false (by omega)
            have h6 : ¬ n ≤ q := by omega
            have U1 : Hid True := Lib.hid trivial
            clear hx hpz hpn hy hry hrg hE hro
            go_wp2_with (first
              | (clear U1; refine wpList_ldAG rfl 57 (.tmp 55) rfl fb fo rfl (cells6 y) _ (HRY.out _ HWN.out) Tryd.underlying57 rfl (by rw [cells6_len]; exact infoI) ?_)
              | (go_at_call 12; refine (refMoves_any y.op y.d y.a y.b y.n y.t _).mono ?_; rw [HMY.out]; rintro e wm ⟨rfl, hn⟩; replace HT := Lib.hid (HT.out.go hn); replace HRG := Lib.hid (fun w' h => HRG.out w' (hn.trans h)); clear hn cn y0))
            go_loopw [9] (fun jv wr => ∃ j : Nat, jv = .int .i64 (j : Int) ∧ j ≤ k ∧ Hid (New wm wr)) (fun jv _ => k - (intOf jv).toNat)
            case atStart => exact ⟨0, rfl, by omega, Lib.hid (New.refl _)⟩
            case round =>
              obtain ⟨j, rfl, hj, HNJ⟩ := hrel
              have HU := Lib.hid (HT.out.go HNJ.out)
              have cn := HU.out.cell 0 rfl (skC_nd _ _)
              by_cases hjk : j < k
              · obtain ⟨x, hx⟩ : ∃ x, S.nodes[j]? = some x := ⟨_, List.getElem?_eq_getElem (by rw [HNN.out]; omega)⟩
                have hne : x.1 ≠ (q : Int) := by
                  intro e
                  have h := hx
                  rw [← HSK.out, skl_nodes, List.getElem?_map] at h
                  obtain ⟨pj, h1, h2⟩ := Option.map_eq_some_iff.mp h
                  obtain ⟨hj1, h3⟩ := List.getElem?_eq_some_iff.mp h1
                  obtain ⟨hk1, h4⟩ := List.getElem?_eq_some_iff.mp HPZ.out
                  have := List.pairwise_iff_getElem.mp (nodes_nds HR.out cut).nd j k hj1 hk1 hjk
                  rw [h3, h4] at this
                  exact this (by rw [← e, ← h2])
                have hb : (x.1 == (q : Int)) = false := by simpa using hne
                obtain ⟨b1, o1, c1, _, hix1, hrg1, hE1⟩ := rowA_ix (P := Tryd.prog) (HU.out.rd 1 rfl) 32 Tryd.underlying32 sizeNd hx
                obtain ⟨vo1, hc1, _⟩ := node_rd hE1
                subst hc1
                have z0 := hrg1 _ (New.refl _) 0 _ rfl
                rw [Nat.add_zero] at z0
                clear hx hne hrg1 hE1
                go_wp2
                go_roundw
                case rel => exact ⟨j + 1, by go_num, by omega, HNJ⟩
                case measure => simp [intOf]; omega
              · have y1 := HRG.out _ HNJ.out 1 _ rfl
                have r0 := HRY.out _ HU.out.nw 0 _ rfl
                rw [Nat.add_zero] at r0
                have HW := want_is f cut (q : Int)
                rw [HK.out, HY.out] at HW
                replace HW := Lib.hid HW
                by_cases h18 : y.op = 18
                · have q18 : (y.op == 18) = true := beq_of h18
                  have q17 : (y.op == 17) = false := bneq_of (by omega)
                  have hK : K = 0 := by rw [HW.out, if_pos (.inl h18)]
                  subst hK
                  clear h18
                  go_wp2
                  go_roundw
                  case rel => exact ⟨k + 1, by go_num, by omega, HU⟩
                  case measure => simp [intOf]; omega
                · have q18 : (y.op == 18) = false := bneq_of h18
                  by_cases hct : ctA cut (q : Int) = true
                  · have hK : K = 0 := by rw [HW.out, if_pos (.inr hct)]
                    subst hK
                    have hqm : q < m := by
                      rw [HM.out]
                      exact Classical.byContradiction fun h => by rw [ct_no h] at hct; cases hct
                    obtain ⟨a, u, hu0, hia, hca⟩ := HC.out.ix 23 Tryd.underlying23 Tryd.sizeOf4 hqm
                    rw [List.getElem?_map] at hu0
                    obtain ⟨u, hu, rfl⟩ := Option.map_eq_some_iff.mp hu0
                    have : u = true := by rw [← ct_at (by rw [← HM.out]; exact hqm) hu]; exact hct
                    subst this
                    have cu := hca _ HU.out.nw
                    have dqm : decide ((q : Int) < (m : Int)) = true := decide_eq_true (by omega)
                    clear h18 hct hu hu0 hca
                    by_cases h17 : y.op = 17
                    · have q17 : (y.op == 17) = true := beq_of h17
                      clear h17
                      go_wp2
                      go_roundw
                      case rel => exact ⟨k + 1, by go_num, by omega, HU⟩
                      case measure => simp [intOf]; omega
                    · have q17 : (y.op == 17) = false := bneq_of h17
                      clear h17
                      go_wp2
                      go_roundw
                      case rel => exact ⟨k + 1, by go_num, by omega, HU⟩
                      case measure => simp [intOf]; omega
                  · have hW2 : K = if y.op = 17 then 2 else 1 := by rw [HW.out, if_neg (fun h => h.elim h18 hct)]
                    by_cases hqm : q < m
                    · obtain ⟨a, u, hu0, hia, hca⟩ := HC.out.ix 23 Tryd.underlying23 Tryd.sizeOf4 hqm
                      rw [List.getElem?_map] at hu0
                      obtain ⟨u, hu, rfl⟩ := Option.map_eq_some_iff.mp hu0
                      have : u = false := by
                        rw [← ct_at (by rw [← HM.out]; exact hqm) hu]
                        simpa using hct
                      subst this
                      have cu := hca _ HU.out.nw
                      have dqm : decide ((q : Int) < (m : Int)) = true := decide_eq_true (by omega)
                      clear h18 hct hu hu0 hca
                      by_cases h17 : y.op = 17
                      · have q17 : (y.op == 17) = true := beq_of h17
                        rw [if_pos h17] at hW2
                        subst hW2
                        clear h17
                        go_wp2
                        go_roundw
                        case rel => exact ⟨k + 1, by go_num, by omega, HU⟩
                        case measure => simp [intOf]; omega
                      · have q17 : (y.op == 17) = false := bneq_of h17
                        rw [if_neg h17] at hW2
                        subst hW2
                        clear h17
                        go_wp2
                        go_roundw
                        case rel => exact ⟨k + 1, by go_num, by omega, HU⟩
                        case measure => simp [intOf]; omega
                    · have dqm : decide ((q : Int) < (m : Int)) = false := decide_eq_false (by omega)
                      clear h18 hct
                      by_cases h17 : y.op = 17
                      · have q17 : (y.op == 17) = true := beq_of h17
                        rw [if_pos h17] at hW2
                        subst hW2
                        clear h17
                        go_wp2
                        go_roundw
                        case rel => exact ⟨k + 1, by go_num, by omega, HU⟩
                        case measure => simp [intOf]; omega
                      · have q17 : (y.op == 17) = false := bneq_of h17
                        rw [if_neg h17] at hW2
                        subst hW2
                        clear h17
                        go_wp2
                        go_roundw
                        case rel => exact ⟨k + 1, by go_num, by omega, HU⟩
                        case measure => simp [intOf]; omega
          · go_wp2_with (go_at_call 7; refine (knows_from _ HL.out HT.out.nw).mono ?_; rintro e wk ⟨rfl, hnk⟩)
            go_ret
            exact ⟨rfl, hnk⟩
theorem skelPlaces_law (fv : Value) (f : List I) (cv : Value) (cut : List Bool) (w : World) (hf : FunAt w fv f) (_hi : ∀ x ∈ f, In64I x) (_hn : f.length ≤ maxLen) (hc : RowAt w cv (cut.map .bool)) (_hm : cut.length ≤ maxLen) (hl : Laid w) :
    Calls Tryd.prog 4 #[fv, cv] w fun e w' => e = .returned (.bool true) ∧ New w w' := skelPlaces_walk fv cv f cut w hf hc hl
end Go.Proofs.YtlmnodbhfpgplaaDoor
