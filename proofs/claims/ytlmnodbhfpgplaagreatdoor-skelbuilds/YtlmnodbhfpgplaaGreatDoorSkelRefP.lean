/-
  Layer 10: the contract of the reference's Places.
-/
import Derived.Test.YtlmnodbhfpgplaaGreatDoorSkelRefW
import Derived.Deep.CutRange
namespace Go.Proofs.YtlmnodbhfpgplaaGreatDoor
open Go.RowKit

theorem infoIn3 : (Tryz.prog.info? 3).map (fun i => (i.zero, i.size, i.bytes)) = some (some (.int .i64 0), 1, 8) := by kernel_rfl
theorem idx_eq {ps : List Int} {q : Int} : (((ps.idxOf q : Nat) : Int) == ((ps.length : Nat) : Int)) = decide (q ∉ ps) := by
  rw [Bool.eq_iff_iff, beq_iff_eq, decide_eq_true_iff]
  constructor
  · intro h hm
    have := List.idxOf_lt_length_of_mem hm
    omega
  · intro h
    rw [idx_none fun j _ e => h (List.mem_of_getElem? e)]
set_option maxHeartbeats 8000000 in
set_option maxRecDepth 100000 in
theorem places_any (fa : Option Addr) (n fc : Nat) (f : List I) (ca : Option Addr) (m cc : Nat) (cut : List Bool) (w : World) (hf : FunAt w (.slice fa n fc) f) (hc : RowAt w (.slice ca m cc) (cut.map .bool)) (hr : (chkF f).2 = 0) :
    Calls Tryz.prog 39 #[.slice fa n fc, .slice ca m cc] w fun e w' => ∃ v, e = .returned v ∧ Sep w w' [intsA v (nodesA f cut)] := by
  have HF := Lib.hid hf
  have HC := Lib.hid hc
  have HR := Lib.hid hr
  have HI0 : Hid (InF f 0) := Lib.hid ⟨hr, Int.le_refl 0, by have := (right_iff.mp hr).2.1; omega⟩
  have HML : ∀ k, Hid ((metA f cut k).length ≤ 200) := fun k => Lib.hid (Nat.le_trans (nds_len (met_nds hr cut k)) (chk_len hr))
  have H200 : Hid (f.length ≤ 200) := Lib.hid (chk_len hr)
  have HS := Lib.hid (Sep.start w)
  obtain ⟨tq, hto⟩ : ∃ tq, toA f 0 = tq := ⟨_, rfl⟩
  have HTO := Lib.hid hto
  have HF0 : Hid (metA f cut 0 = if 0 ≤ tq then [tq] else []) := Lib.hid (by rw [← hto]; rfl)
  have T1 : Hid True := Lib.hid trivial
  have T2 : Hid True := Lib.hid trivial
  have T3 : Hid True := Lib.hid trivial
  have T4 : Hid True := Lib.hid trivial
  have T5 : Hid True := Lib.hid trivial
  have T6 : Hid True := Lib.hid trivial
  have T7 : Hid True := Lib.hid trivial
  have T8 : Hid True := Lib.hid trivial
  have T9 : Hid True := Lib.hid trivial
  clear hf hc hr hto
  go_enter Tryz.func39, Tryz.ntmps39
  rcases Int.lt_or_le tq 0 with ht | ht
  case' inl =>
    have d0 : decide (0 ≤ tq) = false := decide_eq_false (by omega)
    go_wp2_with (first
      | (clear T1; go_at_call 66; refine (refFromS fa n fc f 0 _ (HF.out.new HS.out.nw) HI0.out).mono ?_; rw [HTO.out]; rintro e wb ⟨kt, ct, rfl, hs⟩; replace HS := Lib.hid (HS.out.go hs.nw); clear hs)
                        | (clear T2; refine wpList_alB rfl 146 rfl _ zeroRp_run _ rfl HS.out ?_; intro wc gp hs; replace HS := Lib.hid hs; clear hs)
                        | (clear T3; refine wpList_stSW 0 rfl rfl 146 (.tmp 6) (.tmp 12) rfl gp rfl _ rfl HS.out rfl (rpC tq (.slice (some ⟨kt, 0, none⟩) 24 ct) _) rfl rfl (rpC_one rfl) infoRp ?_; intro wd hs; replace HS := Lib.hid hs; have c0 := HS.out.cell 0 rfl (k := 0) rfl; replace HS := Lib.hid (HS.out.row0 3 1 (leafE intC)); clear hs))
    replace HS : Hid (Sep w wd [intsA (.slice none 0 0) (metA f cut 0)]) := Lib.hid (by rw [HF0.out, if_neg (by omega)]; exact HS.out.dropAt 1 (by simp))
  case' inr =>
    have d0 : decide (0 ≤ tq) = true := decide_eq_true ht
    go_wp2_with (first
      | (clear T1; go_at_call 66; refine (refFromS fa n fc f 0 _ (HF.out.new HS.out.nw) HI0.out).mono ?_; rw [HTO.out]; rintro e wb ⟨kt, ct, rfl, hs⟩; replace HS := Lib.hid (HS.out.go hs.nw); clear hs)
                        | (clear T2; refine wpList_alB rfl 146 rfl _ zeroRp_run _ rfl HS.out ?_; intro wc gp hs; replace HS := Lib.hid hs; clear hs)
                        | (clear T3; refine wpList_stSW 0 rfl rfl 146 (.tmp 6) (.tmp 12) rfl gp rfl _ rfl HS.out rfl (rpC tq (.slice (some ⟨kt, 0, none⟩) 24 ct) _) rfl rfl (rpC_one rfl) infoRp ?_; intro wd hs; replace HS := Lib.hid hs; have c0 := HS.out.cell 0 rfl (k := 0) rfl; replace HS := Lib.hid (HS.out.row0 3 1 (leafE intC)); clear hs)
      | (clear T4; refine wpList_bsB rfl 107 3 (.tmp 18) rfl Tryz.underlying107 infoIn3 (by decide) (by decide) (intC tq) _ rfl rfl rfl HS.out ?_; intro wx b hs; replace HS := Lib.hid hs; clear hs)
                        | (at_builtin; clear T5; refine wpList_appL 1 rfl (.tmp 16) (.tmp 19) 107 3 rfl Tryz.underlying107 infoIn3 rfl (by decide) (by decide) (mk := intC) (y := tq) HS.out rfl (by simp) rfl rfl (HS.out.has 0 rfl) rfl (by simp [intC, Value.oneCell']) ?_; intro v2 wy hs; replace HS := Lib.hid hs; clear hs))
    replace HS : Hid (Sep w wy [intsA v2 (metA f cut 0)]) := Lib.hid (by rw [HF0.out, if_pos ht]; exact HS.out.drop.dropAt 1 (by simp))
  all_goals
    go_loopw [5, 7] (fun ov nv wr => ∃ (k : Nat) (v : Value), ov = v ∧ nv = .int .i64 (k : Int) ∧ k ≤ 200 ∧ Hid (Sep w wr [intsA v (metA f cut k)])) (fun _ nv _ => 201 - (intOf nv).toNat)
    case atStart => exact ⟨0, _, rfl, rfl, by omega, HS⟩
    case round =>
      obtain ⟨k, v, rfl, rfl, hk, HT⟩ := hrel
      clear HS HF0 HTO d0 ht
      obtain ⟨na, nc, hv⟩ := rowA_form (HT.out.rd 0 rfl)
      obtain ⟨L, HLn⟩ : ∃ L, Hid ((metA f cut k).length = L) := ⟨_, Lib.hid rfl⟩
      rw [HLn.out] at hv
      subst hv
      by_cases hkl : k < L
      · have HKL : Hid (k < (metA f cut k).length) := Lib.hid (by rw [HLn.out]; exact hkl)
        obtain ⟨pz, hpz⟩ : ∃ pz, (metA f cut k)[k]? = some pz := ⟨_, List.getElem?_eq_getElem HKL.out⟩
        have hpn : InF f pz ∧ mvA f pz = false := (met_nds HR.out cut k).inf pz (List.mem_of_getElem? hpz)
        obtain ⟨q, rfl⟩ : ∃ q : Nat, pz = (q : Int) := ⟨pz.toNat, by have := hpn.1.2.1; omega⟩
        have HPQ := Lib.hid hpn.1
        have HPM := Lib.hid hpn.2
        have hgd : (metA f cut k).getD k 0 = (q : Int) := by rw [List.getD_eq_getElem?_getD, hpz]; rfl
        have HGD := Lib.hid hgd
        obtain ⟨b0, o0, hix, hrg⟩ := leaf_ix (P := Tryz.prog) (HT.out.rd 0 rfl) 107 Tryz.underlying107 sizeInt hpz
        have c0 := hrg _ (New.refl _) 0 _ rfl
        rw [Nat.add_zero] at c0
        have U1 : Hid True := Lib.hid trivial
        clear hpz hpn hgd hrg
        go_wp2_with (first
          | (clear U1; go_at_call 41; refine (froms_any fa n fc f ca m cc cut q _ (HF.out.new HT.out.nw) (HC.out.new HT.out.nw) HPQ.out).mono ?_; rintro e w1 ⟨vi, rfl, hs⟩; obtain ⟨ia, ic, hvi⟩ := rowA_form (hs.rd 0 rfl); obtain ⟨J, HJ⟩ : ∃ J, Hid ((fromsA f cut (q : Int)).length = J) := ⟨_, Lib.hid rfl⟩; rw [HJ.out] at hvi; subst hvi; replace HT := Lib.hid ((HT.out.call hs).pull 1 rfl); clear hs c0 hix))
        have hJ2 : J ≤ 2 := by rw [← HJ.out]; unfold fromsA; split <;> (try split) <;> simp
        go_loopw [5, 9] (fun ov jv wr => ∃ (j : Nat) (vo : Value), ov = vo ∧ jv = .int .i64 (j : Int) ∧ j ≤ J ∧ Hid (Sep w wr [intsA vo (growsA f (metA f cut k) ((fromsA f cut (q : Int)).take j)), intsA (.slice ia J ic) (fromsA f cut (q : Int))])) (fun _ jv _ => J - (intOf jv).toNat)
        case atStart => exact ⟨0, _, rfl, rfl, by omega, HT⟩
        case round =>
          obtain ⟨j, vo, rfl, rfl, hj, HU⟩ := hrel
          clear HT
          by_cases hjJ : j < J
          · obtain ⟨r, hrj⟩ : ∃ r, (fromsA f cut (q : Int))[j]? = some r := ⟨_, List.getElem?_eq_getElem (by rw [HJ.out]; exact hjJ)⟩
            have HIR : Hid (InF f r) := Lib.hid (froms_in HPQ.out HPM.out r (List.mem_of_getElem? hrj))
            have htk : (fromsA f cut (q : Int)).take (j + 1) = (fromsA f cut (q : Int)).take j ++ [r] := by rw [List.take_add_one, hrj]; rfl
            obtain ⟨ps, hps⟩ : ∃ ps, growsA f (metA f cut k) ((fromsA f cut (q : Int)).take j) = ps := ⟨_, rfl⟩
            have HG : Hid (growsA f (metA f cut k) ((fromsA f cut (q : Int)).take (j + 1)) = growA f ps r) := Lib.hid (by rw [htk, grows_snoc, hps])
            have HLE : Hid (ps.length ≤ 200) := Lib.hid (by
              obtain ⟨l, hl⟩ := mid_pre HR.out HKL.out j
              rw [HGD.out, hps] at hl
              have h1 := nds_len (nodes_nds HR.out cut)
              rw [hl, List.length_append] at h1
              have := H200.out
              omega)
            rw [hps] at HU
            obtain ⟨ma, mcp, hvo⟩ := rowA_form (HU.out.rd 0 rfl)
            obtain ⟨M, HM⟩ : ∃ M, Hid (ps.length = M) := ⟨_, Lib.hid rfl⟩
            rw [HM.out] at hvo
            subst hvo
            obtain ⟨b1, o1, hix1, hrg1⟩ := leaf_ix (P := Tryz.prog) (HU.out.rd 1 rfl) 107 Tryz.underlying107 sizeInt hrj
            have c1 := hrg1 _ (New.refl _) 0 _ rfl
            rw [Nat.add_zero] at c1
            obtain ⟨tr, htr⟩ : ∃ tr, toA f r = tr := ⟨_, rfl⟩
            have HTR := Lib.hid htr
            have U1 : Hid True := Lib.hid trivial
            have U2 : Hid True := Lib.hid trivial
            have U3 : Hid True := Lib.hid trivial
            clear htk hrj hrg1 hps htr
            by_cases hc : 0 ≤ tr ∧ tr ∉ ps
            · have d0 : decide (0 ≤ tr) = true := decide_eq_true hc.1
              obtain ⟨ix, hx⟩ : ∃ ix : Int, ((ps.idxOf tr : Nat) : Int) = ix := ⟨_, rfl⟩
              have hbq : (ix == (M : Int)) = true := by rw [← hx, ← HM.out, idx_eq]; exact decide_eq_true hc.2
              have HX := Lib.hid hx
              have HGA : Hid (growA f ps r = ps ++ [tr]) := Lib.hid (by unfold growA; rw [HTR.out, if_pos hc])
              have U4 : Hid True := Lib.hid trivial
              have U5 : Hid True := Lib.hid trivial
              clear hc hx
              go_wp2_with (first
                | (clear U1; go_at_call 66; refine (refFromS fa n fc f r _ (HF.out.new HU.out.nw) HIR.out).mono ?_; rw [HTR.out]; rintro e wb ⟨kt, ct, rfl, hs⟩; replace HU := Lib.hid (HU.out.go hs.nw); clear hs c1 hix1)
                        | (clear U2; refine wpList_alB rfl 146 rfl _ zeroRp_run _ rfl HU.out ?_; intro wc gp hs; replace HU := Lib.hid hs; clear hs)
                        | (clear U3; refine wpList_stSW 0 rfl rfl 146 (.tmp 10) (.tmp 45) rfl gp rfl _ rfl HU.out rfl (rpC tr (.slice (some ⟨kt, 0, none⟩) 24 ct) _) rfl rfl (rpC_one rfl) infoRp ?_; intro wd hs; replace HU := Lib.hid hs; have c0 := HU.out.cell 0 rfl (k := 0) rfl; clear hs)
                | (go_at_call 67; refine (where_any (.slice ma M mcp) ps tr _ (HU.out.rd 1 rfl) (by have := HLE.out; omega)).mono ?_; rw [HX.out]; rintro e we ⟨rfl, hn⟩; replace HU := Lib.hid (HU.out.go hn); have c0 := HU.out.cell 0 rfl (k := 0) rfl; clear hn)
                | (clear U4; refine wpList_bsB rfl 107 3 (.tmp 60) rfl Tryz.underlying107 infoIn3 (by decide) (by decide) (intC tr) _ rfl rfl rfl HU.out ?_; intro wx b hs; replace HU := Lib.hid hs; clear hs)
                        | (at_builtin; clear U5; refine wpList_appL 2 rfl (.tmp 58) (.tmp 61) 107 3 rfl Tryz.underlying107 infoIn3 rfl (by decide) (by decide) (mk := intC) (y := tr) HU.out rfl (by have := HLE.out; omega) rfl rfl (HU.out.has 0 rfl) rfl (by simp [intC, Value.oneCell']) ?_; intro v2 wy hs; replace HU := Lib.hid hs; clear hs))
              go_roundw
              case rel => exact ⟨j + 1, _, rfl, by go_num, by omega, Lib.hid (by rw [HG.out, HGA.out]; exact HU.out.drop.drop)⟩
              case measure => simp [intOf]; omega
            · have HGA : Hid (growA f ps r = ps) := Lib.hid (by unfold growA; rw [HTR.out, if_neg hc])
              rcases Int.lt_or_le tr 0 with ht | ht
              · have d0 : decide (0 ≤ tr) = false := decide_eq_false (by omega)
                clear hc ht
                go_wp2_with (first
                  | (clear U1; go_at_call 66; refine (refFromS fa n fc f r _ (HF.out.new HU.out.nw) HIR.out).mono ?_; rw [HTR.out]; rintro e wb ⟨kt, ct, rfl, hs⟩; replace HU := Lib.hid (HU.out.go hs.nw); clear hs c1 hix1)
                        | (clear U2; refine wpList_alB rfl 146 rfl _ zeroRp_run _ rfl HU.out ?_; intro wc gp hs; replace HU := Lib.hid hs; clear hs)
                        | (clear U3; refine wpList_stSW 0 rfl rfl 146 (.tmp 10) (.tmp 45) rfl gp rfl _ rfl HU.out rfl (rpC tr (.slice (some ⟨kt, 0, none⟩) 24 ct) _) rfl rfl (rpC_one rfl) infoRp ?_; intro wd hs; replace HU := Lib.hid hs; have c0 := HU.out.cell 0 rfl (k := 0) rfl; clear hs))
                go_roundw
                case rel => exact ⟨j + 1, _, rfl, by go_num, by omega, Lib.hid (by rw [HG.out, HGA.out]; exact HU.out.drop)⟩
                case measure => simp [intOf]; omega
              · have d0 : decide (0 ≤ tr) = true := decide_eq_true ht
                obtain ⟨ix, hx⟩ : ∃ ix : Int, ((ps.idxOf tr : Nat) : Int) = ix := ⟨_, rfl⟩
                have hbq : (ix == (M : Int)) = false := by rw [← hx, ← HM.out, idx_eq]; exact decide_eq_false fun h => hc ⟨ht, h⟩
                have HX := Lib.hid hx
                clear hc ht hx
                go_wp2_with (first
                  | (clear U1; go_at_call 66; refine (refFromS fa n fc f r _ (HF.out.new HU.out.nw) HIR.out).mono ?_; rw [HTR.out]; rintro e wb ⟨kt, ct, rfl, hs⟩; replace HU := Lib.hid (HU.out.go hs.nw); clear hs c1 hix1)
                        | (clear U2; refine wpList_alB rfl 146 rfl _ zeroRp_run _ rfl HU.out ?_; intro wc gp hs; replace HU := Lib.hid hs; clear hs)
                        | (clear U3; refine wpList_stSW 0 rfl rfl 146 (.tmp 10) (.tmp 45) rfl gp rfl _ rfl HU.out rfl (rpC tr (.slice (some ⟨kt, 0, none⟩) 24 ct) _) rfl rfl (rpC_one rfl) infoRp ?_; intro wd hs; replace HU := Lib.hid hs; have c0 := HU.out.cell 0 rfl (k := 0) rfl; clear hs)
                  | (go_at_call 67; refine (where_any (.slice ma M mcp) ps tr _ (HU.out.rd 1 rfl) (by have := HLE.out; omega)).mono ?_; rw [HX.out]; rintro e we ⟨rfl, hn⟩; replace HU := Lib.hid (HU.out.go hn); have c0 := HU.out.cell 0 rfl (k := 0) rfl; clear hn))
                go_roundw
                case rel => exact ⟨j + 1, _, rfl, by go_num, by omega, Lib.hid (by rw [HG.out, HGA.out]; exact HU.out.drop)⟩
                case measure => simp [intOf]; omega
          · have HFR : Hid ((fromsA f cut (q : Int)).take j = fromsA f cut (q : Int)) := Lib.hid (List.take_of_length_le (by rw [HJ.out]; omega))
            have HG : Hid (growsA f (metA f cut k) (fromsA f cut (q : Int)) = metA f cut (k + 1)) := Lib.hid (by have := mid_end (f := f) (cut := cut) HKL.out; rw [HGD.out] at this; exact this)
            rw [HFR.out, HG.out] at HU
            obtain ⟨ma, mcp, hvo⟩ := rowA_form (HU.out.rd 0 rfl)
            subst hvo
            go_wp2_with fail
            go_roundw
            case rel => exact ⟨k + 1, _, rfl, by go_num, by have := (HML (k + 1)).out; have := (HML k).out; have := HLn.out; omega, Lib.hid (HU.out.dropAt 1 (by simp))⟩
            case measure => simp [intOf]; omega
      · have HK : Hid (metA f cut k = nodesA f cut) := Lib.hid (nodes_is HR.out cut (by rw [HLn.out]; omega))
        rw [HK.out] at HT
        go_wp2_with fail
        go_ret
        exact ⟨_, rfl, HT.out⟩
end Go.Proofs.YtlmnodbhfpgplaaGreatDoor
