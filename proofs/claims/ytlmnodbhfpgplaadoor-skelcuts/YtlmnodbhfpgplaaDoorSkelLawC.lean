/-
  'SkelCuts': with more places cut there are no more nodes; and each of them was one: true, for every input.
-/
import Derived.Test.YtlmnodbhfpgplaaDoorSkelK
import Derived.Test.YtlmnodbhfpgplaaDoorSepMore
import Derived.Test.YtlmnodbhfpgplaaDoorRefAsmA
namespace Go.Proofs.YtlmnodbhfpgplaaDoor
open Go.RowKit

theorem infoBo3 : (Tryd.prog.info? 4).map (fun i => (i.zero, i.size, i.bytes)) = some (some (.bool false), 1, 1) := by kernel_rfl
theorem nodes_cut {f : List I} (h : (chkF f).2 = 0) (cut : List Bool) (q : Nat) : (nodesA f (cut.set q true)).length ≤ (nodesA f cut).length ∧ ∀ p ∈ nodesA f (cut.set q true), p ∈ nodesA f cut := by
  have hc : ∀ p, ctA cut p = true → ctA (cut.set q true) p = true := by
    intro p hp
    unfold ctA at hp ⊢
    rw [Bool.and_eq_true, decide_eq_true_iff] at hp ⊢
    rw [List.length_set]
    refine ⟨hp.1, ?_⟩
    rw [List.getD_eq_getElem?_getD, List.getElem?_set]
    split
    · split
      · rfl
      · have := hp.2
        rw [List.getD_eq_getElem?_getD, List.getElem?_eq_none (by omega)] at this
        cases this
    · rw [← List.getD_eq_getElem?_getD]
      exact hp.2
  have hs := nodes_less h hc
  exact ⟨nodup_sub (nodes_nds h _).nd hs, hs⟩
def fndA (l : List Int) (p : Int) (m : Nat) : Bool := (l.take m).any fun q => q == p
theorem fnd_step {l : List Int} {p q : Int} {m : Nat} (h : l[m]? = some q) : fndA l p (m + 1) = (fndA l p m || (q == p)) := by
  unfold fndA
  rw [List.take_add_one, h, Option.toList_some, List.any_append]
  simp
theorem fnd_all {l : List Int} {p : Int} {m : Nat} (h : p ∈ l) (hm : l.length ≤ m) : fndA l p m = true := by
  unfold fndA
  rw [List.take_of_length_le hm, List.any_eq_true]
  exact ⟨p, h, by simp⟩
set_option maxHeartbeats 16000000 in
set_option maxRecDepth 100000 in
theorem skelCuts_walk (fv cv : Value) (f : List I) (cut : List Bool) (u : Int) (w : World) (hf : FunAt w fv f) (hc : RowAt w cv (cut.map .bool)) (hu : 0 ≤ u ∧ u ≤ 255) (hl : Laid w) :
    Calls Tryd.prog 5 #[fv, cv, .int .u8 u] w fun e w' => e = .returned (.bool true) ∧ New w w' := by
  obtain ⟨fa, fc, rfl⟩ := hf.form
  obtain ⟨ca, m, cc, rfl⟩ := hc.form
  have HL := Lib.hid hl
  have HF := Lib.hid hf
  have HC := Lib.hid hc
  have HM : Hid (m = cut.length) := Lib.hid (by rw [hc.len, List.length_map])
  clear hl hf hc
  obtain ⟨n, HN⟩ : ∃ n, Hid (f.length = n) := ⟨_, Lib.hid rfl⟩
  rw [HN.out] at HF ⊢
  cases d3 : decide ((300 : Int) < (n : Int)) with
  | true =>
    go_enter Tryd.func5, Tryd.ntmps5
    go_wp2_with (go_at_call 7; refine (knows_from _ HL.out (New.refl w)).mono ?_; rintro e wk ⟨rfl, hnk⟩)
    go_ret
    exact ⟨rfl, hnk⟩
  | false =>
    cases d4 : decide ((300 : Int) < (m : Int)) with
    | true =>
      go_enter Tryd.func5, Tryd.ntmps5
      go_wp2_with (go_at_call 7; refine (knows_from _ HL.out (New.refl w)).mono ?_; rintro e wk ⟨rfl, hnk⟩)
      go_ret
      exact ⟨rfl, hnk⟩
    | false =>
      by_cases hr : (chkF f).2 = 0
      case neg =>
        have q1 : ((chkF f).2 == 0) = false := bneq_of hr
        have T1 : Hid True := Lib.hid trivial
        clear hr
        go_enter Tryd.func5, Tryd.ntmps5
        go_wp2_with (first
          | (clear T1; go_at_call 6; refine (rasmRight_any _ f _ HF.out).mono ?_; rw [q1]; rintro e w1 ⟨rfl, hn1⟩)
          | (go_at_call 7; refine (knows_from _ HL.out hn1).mono ?_; rintro e wk ⟨rfl, hnk⟩))
        go_ret
        exact ⟨rfl, hnk⟩
      case pos =>
        have q1 : ((chkF f).2 == 0) = true := beq_of hr
        have HR := Lib.hid hr
        have HS := Lib.hid (Sep.start w)
        have hm3 : m ≤ 300 := by have := of_decide_eq_false d4; omega
        have hn1 : 1 ≤ n := by have := (right_iff.mp hr).2.1; have := HN.out; omega
        have hn3 : n ≤ 200 := by have := chk_len hr; have := HN.out; omega
        obtain ⟨uq, rfl⟩ : ∃ uq : Nat, u = (uq : Int) := ⟨u.toNat, by omega⟩
        obtain ⟨C, HC1⟩ : ∃ C, Hid (cut ++ List.replicate 300 false = C) := ⟨_, Lib.hid rfl⟩
        have HCL : Hid (C.length = m + 300) := Lib.hid (by rw [← HC1.out, List.length_append, List.length_replicate, HM.out])
        obtain ⟨q, hq⟩ : ∃ q : Nat, uq % n = q := ⟨_, rfl⟩
        have hqn : q < n := by rw [← hq]; exact Nat.mod_lt _ (by omega)
        have hq1 : (uq : Int) % (n : Int) = (q : Int) := by rw [← Int.natCast_emod, hq]
        have hq2 : (uq : Int).tmod (n : Int) = (q : Int) := by rw [← Int.ofNat_tmod, hq]
        have HNC : Hid ((nodesA f (C.set q true)).length ≤ (nodesA f C).length ∧ ∀ p ∈ nodesA f (C.set q true), p ∈ nodesA f C) := Lib.hid (nodes_cut hr C q)
        obtain ⟨S, HSK⟩ : ∃ S, Hid (sklA f C = S) := ⟨_, Lib.hid rfl⟩
        obtain ⟨S2, HSK2⟩ : ∃ S2, Hid (sklA f (C.set q true) = S2) := ⟨_, Lib.hid rfl⟩
        obtain ⟨N, HNN⟩ : ∃ N, Hid (S.nodes.length = N) := ⟨_, Lib.hid rfl⟩
        obtain ⟨N2, HNN2⟩ : ∃ N2, Hid (S2.nodes.length = N2) := ⟨_, Lib.hid rfl⟩
        have HA1 : Hid ((nodesA f C).length = N) := Lib.hid (by rw [← HNN.out, ← HSK.out, skl_nodes, List.length_map])
        have HA2 : Hid ((nodesA f (C.set q true)).length = N2) := Lib.hid (by rw [← HNN2.out, ← HSK2.out, skl_nodes, List.length_map])
        have hNN : N2 ≤ N := by rw [← HA1.out, ← HA2.out]; exact HNC.out.1
        have hN200 : N ≤ 200 := by
          rw [← HA1.out]
          exact Nat.le_trans (nds_len (nodes_nds hr C)) (chk_len hr)
        have hNgt : ¬ N < N2 := by omega
        have T1 : Hid True := Lib.hid trivial
        have T2 : Hid True := Lib.hid trivial
        have T3 : Hid True := Lib.hid trivial
        have T4 : Hid True := Lib.hid trivial
        have T5 : Hid True := Lib.hid trivial
        have T6 : Hid True := Lib.hid trivial
        have T7 : Hid True := Lib.hid trivial
        have T8 : Hid True := Lib.hid trivial
        have T9 : Hid True := Lib.hid trivial
        have T10 : Hid True := Lib.hid trivial
        have T11 : Hid True := Lib.hid trivial
        have T12 : Hid True := Lib.hid trivial
        clear hr hq
        go_enter Tryd.func5, Tryd.ntmps5
        go_wp2_with (first
          | (clear T1; go_at_call 6; refine (rasmRight_any _ f _ HF.out).mono ?_; rw [q1]; rintro e w1 ⟨rfl, hn1⟩; replace HS := Lib.hid (HS.out.go hn1); clear hn1)
          | (clear T2; refine wpList_bs0 rfl 23 4 rfl Tryd.underlying23 infoBo3 HS.out Value.bool ?_; intro w2 b0 hs; replace HS := Lib.hid hs; clear hs)
          | (at_builtin; clear T3; refine wpList_appR 0 rfl (.tmp 29) (.tmp 30) 23 4 rfl Tryd.underlying23 infoBo3 rfl (by decide) HS.out rfl rfl rfl (HC.out.new HS.out.nw) (by rw [← HM.out]; simp; omega) (fun _ => rfl) ?_; intro v3 w3 hs hne; rw [List.nil_append] at hs; replace hne := hne (by simp); obtain ⟨va, vc, hv⟩ := rowA_form hs.hd; rw [← HM.out] at hv; subst hv; replace HS := Lib.hid hs; have HNE := Lib.hid hne; clear hs hne)
          | (at_builtin; clear T4; refine wpList_appZ 0 rfl (.tmp 31) (.const (.int .i64 300)) 23 3 4 rfl Tryd.underlying23 Tryd.underlying3 infoBo3 rfl (by decide) HS.out rfl rfl HNE.out (m := 300) rfl (by decide) (by decide) (by rw [← HM.out]; omega) (a0 := false) rfl rfl ?_; intro v4 w4 hs; rw [HC1.out] at hs; obtain ⟨b4, c4, cz, hv, _⟩ := rowA_at hs.hd (i := 0) (List.getElem?_eq_getElem (by rw [HCL.out]; omega)); rw [HCL.out] at hv; subst hv; replace HS := Lib.hid hs; clear hs)
          | (clear T5; go_at_call 8; refine (build_in fa n fc f (some ⟨b4, 0, none⟩) (m + 300) c4 C _ (HL.out.new HS.out.nw) (HF.out.new HS.out.nw) (leaf_row (HS.out.rd 0 rfl)) HR.out).mono ?_; rw [HSK.out]; rintro e w5 ⟨vs, rfl, hs⟩; obtain ⟨na, nc, hv⟩ := rowA_form hs.hd; rw [HNN.out] at hv; subst hv; replace HS := Lib.hid (HS.out.call hs); clear hs)
          | (clear T6; refine wpList_alB rfl 34 rfl _ zeroSk_run _ rfl HS.out ?_; intro w6 g8 hs; replace HS := Lib.hid hs; clear hs)
          | (clear T7; refine wpList_stSW 0 rfl rfl 34 (.tmp 8) (.tmp 37) rfl g8 rfl _ rfl HS.out rfl (skC S.entry (.slice na N nc)) rfl (by rw [skC_len, skC_len]) (skC_one _ rfl) (by rw [skC_len]; exact infoSk) ?_; intro w7 hs; replace HS := Lib.hid hs; have hixq := ixRow (P := Tryd.prog) Tryd.underlying23 Tryd.sizeOf4 b4 q (m + 300) c4 (by omega); clear hs)
          | (clear T8; refine wpList_stL 2 rfl rfl 4 (.tmp 45) (.const (.bool true)) rfl b4 (m + 300) c4 q (by rw [HCL.out]; omega) rfl (y := true) rfl HS.out rfl rfl rfl infoBo ?_; intro w8 hs; replace HS := Lib.hid hs; clear hs hixq)
          | (clear T9; go_at_call 8; refine (build_in fa n fc f (some ⟨b4, 0, none⟩) (m + 300) c4 (C.set q true) _ (HL.out.new HS.out.nw) (HF.out.new HS.out.nw) (leaf_row (HS.out.rd 2 rfl)) HR.out).mono ?_; rw [HSK2.out]; rintro e w9 ⟨vt, rfl, hs⟩; obtain ⟨ta, tc, hv⟩ := rowA_form hs.hd; rw [HNN2.out] at hv; subst hv; replace HS := Lib.hid (HS.out.call hs); clear hs)
          | (clear T10; refine wpList_alB rfl 34 rfl _ zeroSk_run _ rfl HS.out ?_; intro w10 g10 hs; replace HS := Lib.hid hs; clear hs)
          | (clear T11; refine wpList_stSW 0 rfl rfl 34 (.tmp 10) (.tmp 50) rfl g10 rfl _ rfl HS.out rfl (skC S2.entry (.slice ta N2 tc)) rfl (by rw [skC_len, skC_len]) (skC_one _ rfl) (by rw [skC_len]; exact infoSk) ?_; intro w11 hs; replace HS := Lib.hid hs; have x10 := HS.out.cell 0 rfl (skC_nd _ _); have x8 := HS.out.cell 2 rfl (skC_nd _ _); clear hs))
        go_loopw [12] (fun iv wr => ∃ k : Nat, iv = .int .i64 (k : Int) ∧ k ≤ N2 ∧ Hid (New w11 wr)) (fun iv _ => N2 - (intOf iv).toNat)
        case atStart => exact ⟨0, rfl, by omega, Lib.hid (New.refl _)⟩
        case round =>
          obtain ⟨k, rfl, hk, HNR⟩ := hrel
          have HT := Lib.hid (HS.out.go HNR.out)
          clear x10 x8
          have x10 := HT.out.cell 0 rfl (skC_nd _ _)
          by_cases hkN : k < N2
          · obtain ⟨x, hx⟩ : ∃ x, S2.nodes[k]? = some x := ⟨_, List.getElem?_eq_getElem (by rw [HNN2.out]; exact hkN)⟩
            have HMP : Hid (x.1 ∈ nodesA f C) := Lib.hid (by
              have h := hx
              rw [← HSK2.out, skl_nodes, List.getElem?_map] at h
              obtain ⟨pz, h1, h2⟩ := Option.map_eq_some_iff.mp h
              rw [← h2]
              exact HNC.out.2 _ (List.mem_of_getElem? h1))
            obtain ⟨b0', o0, c, _, hix, hrg, hE⟩ := rowA_ix (P := Tryd.prog) (HT.out.rd 1 rfl) 32 Tryd.underlying32 sizeNd hx
            obtain ⟨vo, hc, _⟩ := node_rd hE
            subst hc
            have HRG := Lib.hid hrg
            obtain ⟨p2, HP2⟩ : ∃ p2, Hid (x.1 = p2) := ⟨_, Lib.hid rfl⟩
            clear hx hrg hE
            go_wp2_with fail
            go_loopw [13, 14] (fun fnd jv wj => ∃ j : Nat, fnd = .bool (fndA (nodesA f C) p2 j) ∧ jv = .int .i64 (j : Int) ∧ j ≤ N ∧ Hid (New wr wj)) (fun _ jv _ => N - (intOf jv).toNat)
            case atStart => exact ⟨0, rfl, rfl, by omega, Lib.hid (New.refl _)⟩
            case round =>
              obtain ⟨j, rfl, rfl, hj, HNJ⟩ := hrel
              have HU := Lib.hid (HT.out.go HNJ.out)
              have x8 := HU.out.cell 2 rfl (skC_nd _ _)
              have x10 := HU.out.cell 0 rfl (skC_nd _ _)
              by_cases hjN : j < N
              · obtain ⟨y, hy⟩ : ∃ y, S.nodes[j]? = some y := ⟨_, List.getElem?_eq_getElem (by rw [HNN.out]; exact hjN)⟩
                have hyn : (nodesA f C)[j]? = some y.1 := by
                  have h := hy
                  rw [← HSK.out, skl_nodes, List.getElem?_map] at h
                  obtain ⟨pz, h1, h2⟩ := Option.map_eq_some_iff.mp h
                  rw [← h2]
                  exact h1
                have hst := fnd_step (p := p2) hyn
                obtain ⟨b1, o1, c1, _, hix1, hrg1, hE1⟩ := rowA_ix (P := Tryd.prog) (HU.out.rd 3 rfl) 32 Tryd.underlying32 sizeNd hy
                obtain ⟨vo1, hc1, _⟩ := node_rd hE1
                subst hc1
                obtain ⟨p1, hp1⟩ : ∃ p1, y.1 = p1 := ⟨_, rfl⟩
                rw [hp1] at hst hrg1
                have Y8 : ∀ z : NewW wr, z.val.cell? ⟨g8, 25, none⟩ = some (.slice na N nc) := fun z => z.property.cell' x8
                have Y10 : ∀ z : NewW wr, z.val.cell? ⟨g10, 25, none⟩ = some (.slice ta N2 tc) := fun z => z.property.cell' x10
                have Z1 : ∀ z : NewW wr, z.val.cell? ⟨b1, o1, none⟩ = some (.int .i64 p1) := fun z => by have := hrg1 _ z.property 0 _ rfl; rw [Nat.add_zero] at this; exact this
                have Z2 : ∀ z : NewW wr, z.val.cell? ⟨b0', o0, none⟩ = some (.int .i64 p2) := fun z => by have := HRG.out _ (HNJ.out.trans z.property) 0 _ rfl; rw [Nat.add_zero, HP2.out] at this; exact this
                obtain ⟨fb, hfb⟩ : ∃ fb, fndA (nodesA f C) p2 j = fb := ⟨_, rfl⟩
                rw [hfb] at hst ⊢
                clear hy hyn hrg1 hE1 hp1 hfb
                cases fb with
                | true =>
                  have HF1 : Hid (Value.bool true = .bool (fndA (nodesA f C) p2 (j + 1))) := Lib.hid (by rw [hst]; rfl)
                  clear hst
                  go_wp2_with fail
                  have hne := newW_any wr
                  refine wp_region_new (New.refl wr) (by kernel_rfl) (by kernel_rfl) ?_
                  repeat (go_big_quiet_step (first | fail))
                  refine wpQuiet_nil ?_
                  intro w5 hn5
                  go_wp2_with fail
                  go_roundw
                  case rel => exact ⟨j + 1, HF1.out, by go_num, by omega, Lib.hid (HNJ.out.trans hn5)⟩
                  case measure => simp [intOf]; omega
                | false =>
                  by_cases hpp : p1 = p2
                  · have hb : (p1 == p2) = true := beq_of hpp
                    have HF1 : Hid (Value.bool true = .bool (fndA (nodesA f C) p2 (j + 1))) := Lib.hid (by rw [hst, hb]; rfl)
                    clear hst hpp
                    go_wp2_with fail
                    have hne := newW_any wr
                    refine wp_region_new (New.refl wr) (by kernel_rfl) (by kernel_rfl) ?_
                    repeat (go_big_quiet_step (first | fail))
                    refine wpQuiet_nil ?_
                    intro w5 hn5
                    go_wp2_with fail
                    go_roundw
                    case rel => exact ⟨j + 1, HF1.out, by go_num, by omega, Lib.hid (HNJ.out.trans hn5)⟩
                    case measure => simp [intOf]; omega
                  · have hb : (p1 == p2) = false := bneq_of hpp
                    have HF1 : Hid (Value.bool false = .bool (fndA (nodesA f C) p2 (j + 1))) := Lib.hid (by rw [hst, hb]; rfl)
                    clear hst hpp
                    go_wp2_with fail
                    have hne := newW_any wr
                    refine wp_region_new (New.refl wr) (by kernel_rfl) (by kernel_rfl) ?_
                    repeat (go_big_quiet_step (first | fail))
                    refine wpQuiet_nil ?_
                    intro w5 hn5
                    go_wp2_with fail
                    go_roundw
                    case rel => exact ⟨j + 1, HF1.out, by go_num, by omega, Lib.hid (HNJ.out.trans hn5)⟩
                    case measure => simp [intOf]; omega
              · have HF1 : Hid (fndA (nodesA f C) p2 j = true) := Lib.hid (fnd_all (by rw [← HP2.out]; exact HMP.out) (by rw [HA1.out]; omega))
                rw [HF1.out]
                go_wp2_with fail
                go_roundw
                case rel => exact ⟨k + 1, by go_num, by omega, Lib.hid (HNR.out.trans HNJ.out)⟩
                case measure => simp [intOf]; omega
          · go_wp2_with (go_at_call 7; refine (knows_from _ HL.out HT.out.nw).mono ?_; rintro e wk ⟨rfl, hnk⟩)
            go_ret
            exact ⟨rfl, hnk⟩
theorem skelCuts_law (fv : Value) (f : List I) (cv : Value) (cut : List Bool) (u : Int) (w : World) (hf : FunAt w fv f) (_hi : ∀ x ∈ f, In64I x) (_hn : f.length ≤ maxLen) (hc : RowAt w cv (cut.map .bool)) (_hm : cut.length ≤ maxLen) (hu : 0 ≤ u ∧ u ≤ 255) (hl : Laid w) :
    Calls Tryd.prog 5 #[fv, cv, .int .u8 u] w fun e w' => e = .returned (.bool true) ∧ New w w' := skelCuts_walk fv cv f cut u w hf hc hu hl
end Go.Proofs.YtlmnodbhfpgplaaDoor
