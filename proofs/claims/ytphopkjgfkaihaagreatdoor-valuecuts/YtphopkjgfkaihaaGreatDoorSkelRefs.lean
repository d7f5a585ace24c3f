/-
  Layer 10: the contract of the reference's Places.
  Layer 10: what the reference's skeleton owns; the contract of the reference's Build.
  Layer 10: the contract of the reference's To.
-/
import Derived.Test.YtphopkjgfkaihaaGreatDoorSkelRefQ
import Derived.Deep.CutRange
import Derived.Test.YtphopkjgfkaihaaGreatDoorSkelAll
namespace Go.Proofs.YtphopkjgfkaihaaGreatDoor
open Go.RowKit

theorem infoIn3 : (Tryz.prog.info? 3).map (fun i => (i.zero, i.size, i.bytes)) = some (some (.int .i64 0), 1, 8) := by kernel_rfl
theorem idx_eq {ps : List Int} {q : Int} : (((ps.idxOf q : Nat) : Int) == ((ps.length : Nat) : Int)) = decide (q ∉ ps) := by
  rw [Bool.eq_iff_iff, beq_iff_eq, decide_eq_true_iff]
  constructor
  · intro h hm
    have := List.idxOf_lt_length_of_mem hm
    omega
  · intro h
    rw [idx_none fun j _ e => h (List.mem_of_getElem? e)]
set_option maxHeartbeats 8000000 in
set_option maxRecDepth 100000 in
theorem places_any (fa : Option Addr) (n fc : Nat) (f : List I) (ca : Option Addr) (m cc : Nat) (cut : List Bool) (w : World) (hf : FunAt w (.slice fa n fc) f) (hc : RowAt w (.slice ca m cc) (cut.map .bool)) (hr : (chkF f).2 = 0) :
    Calls Tryz.prog 39 #[.slice fa n fc, .slice ca m cc] w fun e w' => ∃ v, e = .returned v ∧ Sep w w' [intsA v (nodesA f cut)] := by
  have HF := Lib.hid hf
  have HC := Lib.hid hc
  have HR := Lib.hid hr
  have HI0 : Hid (InF f 0) := Lib.hid ⟨hr, Int.le_refl 0, by have := (right_iff.mp hr).2.1; omega⟩
  have HML : ∀ k, Hid ((metA f cut k).length ≤ 200) := fun k => Lib.hid (Nat.le_trans (nds_len (met_nds hr cut k)) (chk_len hr))
  have H200 : Hid (f.length ≤ 200) := Lib.hid (chk_len hr)
  have HS := Lib.hid (Sep.start w)
  obtain ⟨tq, hto⟩ : ∃ tq, toA f 0 = tq := ⟨_, rfl⟩
  have HTO := Lib.hid hto
  have HF0 : Hid (metA f cut 0 = if 0 ≤ tq then [tq] else []) := Lib.hid (by rw [← hto]; rfl)
  have T1 : Hid True := Lib.hid trivial
  have T2 : Hid True := Lib.hid trivial
  have T3 : Hid True := Lib.hid trivial
  have T4 : Hid True := Lib.hid trivial
  have T5 : Hid True := Lib.hid trivial
  have T6 : Hid True := Lib.hid trivial
  have T7 : Hid True := Lib.hid trivial
  have T8 : Hid True := Lib.hid trivial
  have T9 : Hid True := Lib.hid trivial
  clear hf hc hr hto
  go_enter Tryz.func39, Tryz.ntmps39
  rcases Int.lt_or_le tq 0 with ht | ht
  case' inl =>
    have d0 : decide (0 ≤ tq) = false := decide_eq_false (by omega)
    go_wp2_with (first
      | (clear T1; go_at_call 71; refine (refFromS fa n fc f 0 _ (HF.out.new HS.out.nw) HI0.out).mono ?_; rw [HTO.out]; rintro e wb ⟨kt, ct, rfl, hs⟩; replace HS := Lib.hid (HS.out.go hs.nw); clear hs)
                        | (clear T2; refine wpList_alB rfl 149 rfl _ zeroRp_run _ rfl HS.out ?_; intro wc gp hs; replace HS := Lib.hid hs; clear hs)
                        | (clear T3; refine wpList_stSW 0 rfl rfl 149 (.tmp 6) (.tmp 12) rfl gp rfl _ rfl HS.out rfl (rpC tq (.slice (some ⟨kt, 0, none⟩) 24 ct) _) rfl rfl (rpC_one rfl) infoRp ?_; intro wd hs; replace HS := Lib.hid hs; have c0 := HS.out.cell 0 rfl (k := 0) rfl; replace HS := Lib.hid (HS.out.row0 3 1 (leafE intC)); clear hs))
    replace HS : Hid (Sep w wd [intsA (.slice none 0 0) (metA f cut 0)]) := Lib.hid (by rw [HF0.out, if_neg (by omega)]; exact HS.out.dropAt 1 (by simp))
  case' inr =>
    have d0 : decide (0 ≤ tq) = true := decide_eq_true ht
    go_wp2_with (first
      | (clear T1; go_at_call 71; refine (refFromS fa n fc f 0 _ (HF.out.new HS.out.nw) HI0.out).mono ?_; rw [HTO.out]; rintro e wb ⟨kt, ct, rfl, hs⟩; replace HS := Lib.hid (HS.out.go hs.nw); clear hs)
                        | (clear T2; refine wpList_alB rfl 149 rfl _ zeroRp_run _ rfl HS.out ?_; intro wc gp hs; replace HS := Lib.hid hs; clear hs)
                        | (clear T3; refine wpList_stSW 0 rfl rfl 149 (.tmp 6) (.tmp 12) rfl gp rfl _ rfl HS.out rfl (rpC tq (.slice (some ⟨kt, 0, none⟩) 24 ct) _) rfl rfl (rpC_one rfl) infoRp ?_; intro wd hs; replace HS := Lib.hid hs; have c0 := HS.out.cell 0 rfl (k := 0) rfl; replace HS := Lib.hid (HS.out.row0 3 1 (leafE intC)); clear hs)
      | (clear T4; refine wpList_bsB rfl 101 3 (.tmp 18) rfl Tryz.underlying101 infoIn3 (by decide) (by decide) (intC tq) _ rfl rfl rfl HS.out ?_; intro wx b hs; replace HS := Lib.hid hs; clear hs)
                        | (at_builtin; clear T5; refine wpList_appL 1 rfl (.tmp 16) (.tmp 19) 101 3 rfl Tryz.underlying101 infoIn3 rfl (by decide) (by decide) (mk := intC) (y := tq) HS.out rfl (by simp) rfl rfl (HS.out.has 0 rfl) rfl (by simp [intC, Value.oneCell']) ?_; intro v2 wy hs; replace HS := Lib.hid hs; clear hs))
    replace HS : Hid (Sep w wy [intsA v2 (metA f cut 0)]) := Lib.hid (by rw [HF0.out, if_pos ht]; exact HS.out.drop.dropAt 1 (by simp))
  all_goals
    go_loopw [5, 7] (fun ov nv wr => ∃ (k : Nat) (v : Value), ov = v ∧ nv = .int .i64 (k : Int) ∧ k ≤ 200 ∧ Hid (Sep w wr [intsA v (metA f cut k)])) (fun _ nv _ => 201 - (intOf nv).toNat)
    case atStart => exact ⟨0, _, rfl, rfl, by omega, HS⟩
    case round =>
      obtain ⟨k, v, rfl, rfl, hk, HT⟩ := hrel
      clear HS HF0 HTO d0 ht
      obtain ⟨na, nc, hv⟩ := rowA_form (HT.out.rd 0 rfl)
      obtain ⟨L, HLn⟩ : ∃ L, Hid ((metA f cut k).length = L) := ⟨_, Lib.hid rfl⟩
      rw [HLn.out] at hv
      subst hv
      by_cases hkl : k < L
      · have HKL : Hid (k < (metA f cut k).length) := Lib.hid (by rw [HLn.out]; exact hkl)
        obtain ⟨pz, hpz⟩ : ∃ pz, (metA f cut k)[k]? = some pz := ⟨_, List.getElem?_eq_getElem HKL.out⟩
        have hpn : InF f pz ∧ mvA f pz = false := (met_nds HR.out cut k).inf pz (List.mem_of_getElem? hpz)
        obtain ⟨q, rfl⟩ : ∃ q : Nat, pz = (q : Int) := ⟨pz.toNat, by have := hpn.1.2.1; omega⟩
        have HPQ := Lib.hid hpn.1
        have HPM := Lib.hid hpn.2
        have hgd : (metA f cut k).getD k 0 = (q : Int) := by rw [List.getD_eq_getElem?_getD, hpz]; rfl
        have HGD := Lib.hid hgd
        obtain ⟨b0, o0, hix, hrg⟩ := leaf_ix (P := Tryz.prog) (HT.out.rd 0 rfl) 101 Tryz.underlying101 sizeInt hpz
        have c0 := hrg _ (New.refl _) 0 _ rfl
        rw [Nat.add_zero] at c0
        have U1 : Hid True := Lib.hid trivial
        clear hpz hpn hgd hrg
        go_wp2_with (first
          | (clear U1; go_at_call 41; refine (froms_any fa n fc f ca m cc cut q _ (HF.out.new HT.out.nw) (HC.out.new HT.out.nw) HPQ.out).mono ?_; rintro e w1 ⟨vi, rfl, hs⟩; obtain ⟨ia, ic, hvi⟩ := rowA_form (hs.rd 0 rfl); obtain ⟨J, HJ⟩ : ∃ J, Hid ((fromsA f cut (q : Int)).length = J) := ⟨_, Lib.hid rfl⟩; rw [HJ.out] at hvi; subst hvi; replace HT := Lib.hid ((HT.out.call hs).pull 1 rfl); clear hs c0 hix))
        have hJ2 : J ≤ 2 := by rw [← HJ.out]; unfold fromsA; split <;> (try split) <;> simp
        go_loopw [5, 9] (fun ov jv wr => ∃ (j : Nat) (vo : Value), ov = vo ∧ jv = .int .i64 (j : Int) ∧ j ≤ J ∧ Hid (Sep w wr [intsA vo (growsA f (metA f cut k) ((fromsA f cut (q : Int)).take j)), intsA (.slice ia J ic) (fromsA f cut (q : Int))])) (fun _ jv _ => J - (intOf jv).toNat)
        case atStart => exact ⟨0, _, rfl, rfl, by omega, HT⟩
        case round =>
          obtain ⟨j, vo, rfl, rfl, hj, HU⟩ := hrel
          clear HT
          by_cases hjJ : j < J
          · obtain ⟨r, hrj⟩ : ∃ r, (fromsA f cut (q : Int))[j]? = some r := ⟨_, List.getElem?_eq_getElem (by rw [HJ.out]; exact hjJ)⟩
            have HIR : Hid (InF f r) := Lib.hid (froms_in HPQ.out HPM.out r (List.mem_of_getElem? hrj))
            have htk : (fromsA f cut (q : Int)).take (j + 1) = (fromsA f cut (q : Int)).take j ++ [r] := by rw [List.take_add_one, hrj]; rfl
            obtain ⟨ps, hps⟩ : ∃ ps, growsA f (metA f cut k) ((fromsA f cut (q : Int)).take j) = ps := ⟨_, rfl⟩
            have HG : Hid (growsA f (metA f cut k) ((fromsA f cut (q : Int)).take (j + 1)) = growA f ps r) := Lib.hid (by rw [htk, grows_snoc, hps])
            have HLE : Hid (ps.length ≤ 200) := Lib.hid (by
              obtain ⟨l, hl⟩ := mid_pre HR.out HKL.out j
              rw [HGD.out, hps] at hl
              have h1 := nds_len (nodes_nds HR.out cut)
              rw [hl, List.length_append] at h1
              have := H200.out
              omega)
            rw [hps] at HU
            obtain ⟨ma, mcp, hvo⟩ := rowA_form (HU.out.rd 0 rfl)
            obtain ⟨M, HM⟩ : ∃ M, Hid (ps.length = M) := ⟨_, Lib.hid rfl⟩
            rw [HM.out] at hvo
            subst hvo
            obtain ⟨b1, o1, hix1, hrg1⟩ := leaf_ix (P := Tryz.prog) (HU.out.rd 1 rfl) 101 Tryz.underlying101 sizeInt hrj
            have c1 := hrg1 _ (New.refl _) 0 _ rfl
            rw [Nat.add_zero] at c1
            obtain ⟨tr, htr⟩ : ∃ tr, toA f r = tr := ⟨_, rfl⟩
            have HTR := Lib.hid htr
            have U1 : Hid True := Lib.hid trivial
            have U2 : Hid True := Lib.hid trivial
            have U3 : Hid True := Lib.hid trivial
            clear htk hrj hrg1 hps htr
            by_cases hc : 0 ≤ tr ∧ tr ∉ ps
            · have d0 : decide (0 ≤ tr) = true := decide_eq_true hc.1
              obtain ⟨ix, hx⟩ : ∃ ix : Int, ((ps.idxOf tr : Nat) : Int) = ix := ⟨_, rfl⟩
              have hbq : (ix == (M : Int)) = true := by rw [← hx, ← HM.out, idx_eq]; exact decide_eq_true hc.2
              have HX := Lib.hid hx
              have HGA : Hid (growA f ps r = ps ++ [tr]) := Lib.hid (by unfold growA; rw [HTR.out, if_pos hc])
              have U4 : Hid True := Lib.hid trivial
              have U5 : Hid True := Lib.hid trivial
              clear hc hx
              go_wp2_with (first
                | (clear U1; go_at_call 71; refine (refFromS fa n fc f r _ (HF.out.new HU.out.nw) HIR.out).mono ?_; rw [HTR.out]; rintro e wb ⟨kt, ct, rfl, hs⟩; replace HU := Lib.hid (HU.out.go hs.nw); clear hs c1 hix1)
                        | (clear U2; refine wpList_alB rfl 149 rfl _ zeroRp_run _ rfl HU.out ?_; intro wc gp hs; replace HU := Lib.hid hs; clear hs)
                        | (clear U3; refine wpList_stSW 0 rfl rfl 149 (.tmp 10) (.tmp 45) rfl gp rfl _ rfl HU.out rfl (rpC tr (.slice (some ⟨kt, 0, none⟩) 24 ct) _) rfl rfl (rpC_one rfl) infoRp ?_; intro wd hs; replace HU := Lib.hid hs; have c0 := HU.out.cell 0 rfl (k := 0) rfl; clear hs)
                | (go_at_call 72; refine (where_any (.slice ma M mcp) ps tr _ (HU.out.rd 1 rfl) (by have := HLE.out; omega)).mono ?_; rw [HX.out]; rintro e we ⟨rfl, hn⟩; replace HU := Lib.hid (HU.out.go hn); have c0 := HU.out.cell 0 rfl (k := 0) rfl; clear hn)
                | (clear U4; refine wpList_bsB rfl 101 3 (.tmp 60) rfl Tryz.underlying101 infoIn3 (by decide) (by decide) (intC tr) _ rfl rfl rfl HU.out ?_; intro wx b hs; replace HU := Lib.hid hs; clear hs)
                        | (at_builtin; clear U5; refine wpList_appL 2 rfl (.tmp 58) (.tmp 61) 101 3 rfl Tryz.underlying101 infoIn3 rfl (by decide) (by decide) (mk := intC) (y := tr) HU.out rfl (by have := HLE.out; omega) rfl rfl (HU.out.has 0 rfl) rfl (by simp [intC, Value.oneCell']) ?_; intro v2 wy hs; replace HU := Lib.hid hs; clear hs))
              go_roundw
              case rel => exact ⟨j + 1, _, rfl, by go_num, by omega, Lib.hid (by rw [HG.out, HGA.out]; exact HU.out.drop.drop)⟩
              case measure => simp [intOf]; omega
            · have HGA : Hid (growA f ps r = ps) := Lib.hid (by unfold growA; rw [HTR.out, if_neg hc])
              rcases Int.lt_or_le tr 0 with ht | ht
              · have d0 : decide (0 ≤ tr) = false := decide_eq_false (by omega)
                clear hc ht
                go_wp2_with (first
                  | (clear U1; go_at_call 71; refine (refFromS fa n fc f r _ (HF.out.new HU.out.nw) HIR.out).mono ?_; rw [HTR.out]; rintro e wb ⟨kt, ct, rfl, hs⟩; replace HU := Lib.hid (HU.out.go hs.nw); clear hs c1 hix1)
                        | (clear U2; refine wpList_alB rfl 149 rfl _ zeroRp_run _ rfl HU.out ?_; intro wc gp hs; replace HU := Lib.hid hs; clear hs)
                        | (clear U3; refine wpList_stSW 0 rfl rfl 149 (.tmp 10) (.tmp 45) rfl gp rfl _ rfl HU.out rfl (rpC tr (.slice (some ⟨kt, 0, none⟩) 24 ct) _) rfl rfl (rpC_one rfl) infoRp ?_; intro wd hs; replace HU := Lib.hid hs; have c0 := HU.out.cell 0 rfl (k := 0) rfl; clear hs))
                go_roundw
                case rel => exact ⟨j + 1, _, rfl, by go_num, by omega, Lib.hid (by rw [HG.out, HGA.out]; exact HU.out.drop)⟩
                case measure => simp [intOf]; omega
              · have d0 : decide (0 ≤ tr) = true := decide_eq_true ht
                obtain ⟨ix, hx⟩ : ∃ ix : Int, ((ps.idxOf tr : Nat) : Int) = ix := ⟨_, rfl⟩
                have hbq : (ix == (M : Int)) = false := by rw [← hx, ← HM.out, idx_eq]; exact decide_eq_false fun h => hc ⟨ht, h⟩
                have HX := Lib.hid hx
                clear hc ht hx
                go_wp2_with (first
                  | (clear U1; go_at_call 71; refine (refFromS fa n fc f r _ (HF.out.new HU.out.nw) HIR.out).mono ?_; rw [HTR.out]; rintro e wb ⟨kt, ct, rfl, hs⟩; replace HU := Lib.hid (HU.out.go hs.nw); clear hs c1 hix1)
                        | (clear U2; refine wpList_alB rfl 149 rfl _ zeroRp_run _ rfl HU.out ?_; intro wc gp hs; replace HU := Lib.hid hs; clear hs)
                        | (clear U3; refine wpList_stSW 0 rfl rfl 149 (.tmp 10) (.tmp 45) rfl gp rfl _ rfl HU.out rfl (rpC tr (.slice (some ⟨kt, 0, none⟩) 24 ct) _) rfl rfl (rpC_one rfl) infoRp ?_; intro wd hs; replace HU := Lib.hid hs; have c0 := HU.out.cell 0 rfl (k := 0) rfl; clear hs)
                  | (go_at_call 72; refine (where_any (.slice ma M mcp) ps tr _ (HU.out.rd 1 rfl) (by have := HLE.out; omega)).mono ?_; rw [HX.out]; rintro e we ⟨rfl, hn⟩; replace HU := Lib.hid (HU.out.go hn); have c0 := HU.out.cell 0 rfl (k := 0) rfl; clear hn))
                go_roundw
                case rel => exact ⟨j + 1, _, rfl, by go_num, by omega, Lib.hid (by rw [HG.out, HGA.out]; exact HU.out.drop)⟩
                case measure => simp [intOf]; omega
          · have HFR : Hid ((fromsA f cut (q : Int)).take j = fromsA f cut (q : Int)) := Lib.hid (List.take_of_length_le (by rw [HJ.out]; omega))
            have HG : Hid (growsA f (metA f cut k) (fromsA f cut (q : Int)) = metA f cut (k + 1)) := Lib.hid (by have := mid_end (f := f) (cut := cut) HKL.out; rw [HGD.out] at this; exact this)
            rw [HFR.out, HG.out] at HU
            obtain ⟨ma, mcp, hvo⟩ := rowA_form (HU.out.rd 0 rfl)
            subst hvo
            go_wp2_with fail
            go_roundw
            case rel => exact ⟨k + 1, _, rfl, by go_num, by have := (HML (k + 1)).out; have := (HML k).out; have := HLn.out; omega, Lib.hid (HU.out.dropAt 1 (by simp))⟩
            case measure => simp [intOf]; omega
      · have HK : Hid (metA f cut k = nodesA f cut) := Lib.hid (nodes_is HR.out cut (by rw [HLn.out]; omega))
        rw [HK.out] at HT
        go_wp2_with fail
        go_ret
        exact ⟨_, rfl, HT.out⟩
end Go.Proofs.YtphopkjgfkaihaaGreatDoor
namespace Go.Proofs.YtphopkjgfkaihaaGreatDoor
open Go.RowKit

def routE (o : Wyo) (c : List Value) : Asn := Asn.ex fun kc : Nat × Nat => (Asn.say (c = roC o.1 (.slice (some ⟨kc.1, 0, none⟩) 24 kc.2))).star (tabA kc.1 o.2)
abbrev routsO (v : Value) (os : List Wyo) : Asn := rowA 45 2 routE v os
def rnodeE (x : Int × List Wyo) (c : List Value) : Asn := Asn.ex fun v => (Asn.say (c = roC x.1 v)).star (routsO v x.2)
abbrev rnodesO (v : Value) (xs : List (Int × List Wyo)) : Asn := rowA 112 2 rnodeE v xs
def rsC (tq : Int) (vt vn : Value) : List Value := [.int .i64 tq, vt, vn]
theorem Sep.rout {w0 w : World} {l : List Asn} {k : Nat} {t : Tb} (h : Sep w0 w (tabA k t :: l)) (tq : Int) (c : Nat) : Sep w0 w (routE (tq, t) (roC tq (.slice (some ⟨k, 0, none⟩) 24 c)) :: l) :=
  h.as fun F hF => ⟨(k, c), fun _ => False, F, rfl, hF, fun _ h _ => h, fun _ h => h.elim, fun _ h => h⟩
theorem Sep.rnode {w0 w : World} {l : List Asn} {v : Value} {os : List Wyo} (h : Sep w0 w (routsO v os :: l)) (q : Int) : Sep w0 w (rnodeE (q, os) (roC q v) :: l) :=
  h.as fun F hF => ⟨v, fun _ => False, F, rfl, hF, fun _ h _ => h, fun _ h => h.elim, fun _ h => h⟩
theorem infoRs : (Tryz.prog.info? 48).map (·.size) = some 3 := by kernel_rfl
theorem infoRnd : (Tryz.prog.info? 112).map (·.size) = some 2 := by kernel_rfl
theorem infoRnd3 : (Tryz.prog.info? 112).map (fun i => (i.zero, i.size, i.bytes)) = some (some (.agg #[.int .i64 0, .slice none 0 0]), 2, 32) := by kernel_rfl
theorem infoRo3 : (Tryz.prog.info? 45).map (fun i => (i.zero, i.size, i.bytes)) = some (some (.agg #[.int .i64 0, .slice none 0 0]), 2, 32) := by kernel_rfl
theorem infoRos1 : (Tryz.prog.info? 110).map (·.size) = some 1 := by kernel_rfl
theorem infoRns1 : (Tryz.prog.info? 46).map (·.size) = some 1 := by kernel_rfl
theorem zeroRs_run10 (w : World) : (zeroValue 48).run Tryz.prog w = .ok (.agg (rsC 0 (.slice none 0 0) (.slice none 0 0)).toArray) w := Tryz.zeroValue48 w
theorem zeroRnd_run (w : World) : (zeroValue 112).run Tryz.prog w = .ok (.agg (roC 0 (.slice none 0 0)).toArray) w := Tryz.zeroValue112 w
theorem build_Rs (tq : Int) (ao : Option Addr) (m cap : Nat) (w : World) : (Instr.build 48 #[(0, .agg #[.int .i64 tq, .slice ao m cap])]).run Tryz.prog w = .ok (.agg (rsC tq (.slice ao m cap) (.slice none 0 0)).toArray) w := run_build w _ _ _ (by kernel_rfl)
theorem build_Rnd (q : Int) (w : World) : (Instr.build 112 #[(0, .int .i64 q)]).run Tryz.prog w = .ok (.agg (roC q (.slice none 0 0)).toArray) w := run_build w _ _ _ (by kernel_rfl)
theorem resRs (fn : Func) {p : Tmp} (h : fn.results = #[.cell p 48]) (tmps : Array Value) (w : World) (g : Nat) (tq : Int) (vt vn : Value) (hp : tmps.getD p undef = .pointer (some ⟨g, 0, none⟩)) (hg : HasC w g 48 (rsC tq vt vn)) :
    (results fn tmps).run Tryz.prog w = .ok (.agg #[.int .i64 tq, vt, vn]) w :=
  results_cell_row h tmps w g _ _ _ _ hp hg Tryz.underlying48 rfl infoRs
theorem ixRowB {P : Program} {T e : TypeId} {k : Nat} (hu : P.underlying T = some (.slice e)) (he : ∀ w, (sizeOf e).run P w = .ok k w) (b i n cap : Nat) (hi : i < n) (w : World) : (Instr.indexAt T (.slice (some ⟨b, 0, none⟩) n cap) (.int .i64 (i : Int))).run P w = .ok (.pointer (some ⟨b, i * k, none⟩)) w := by
  have ea : (⟨b, 0, none⟩ : Addr).add (i * k) = ⟨b, i * k, none⟩ := by rw [Addr.add_mid, Nat.zero_add]
  simp [Instr.indexAt, run_underlying hu, asIntOf, he, ea]
  intro
  omega
def xsDone (f : List I) (cut : List Bool) (k : Nat) : List (Int × List Wyo) := ((nodesA f cut).take k).map fun p => (p, outsOf f cut p)
/-- An element's cells, where the row lies in a known block. -/
theorem leaf_rg {α : Type} {mk : α → List Value} {e : TypeId} {k b n cap : Nat} {xs : List α} {w : World} (h : (rowA e k (leafE mk) (.slice (some ⟨b, 0, none⟩) n cap) xs).rd w) {i : Nat} {x : α} (hi : xs[i]? = some x) : w.rangeAt b (i * k) (mk x) := by
  obtain ⟨b', cap', c, e1, _, h2, _, h3, _⟩ := rowA_at h hi
  simp only [Value.slice.injEq, Option.some.injEq, Addr.mk.injEq] at e1
  obtain ⟨⟨rfl, _⟩, _⟩ := e1
  obtain rfl : c = mk x := h3
  exact h2
set_option maxHeartbeats 16000000 in
set_option maxRecDepth 100000 in
theorem refBuild_any (fa : Option Addr) (n fc : Nat) (f : List I) (ca : Option Addr) (m cc : Nat) (cut : List Bool) (w : World) (hf : FunAt w (.slice fa n fc) f) (hc : RowAt w (.slice ca m cc) (cut.map .bool)) (hr : (chkF f).2 = 0) :
    Calls Tryz.prog 14 #[.slice fa n fc, .slice ca m cc] w fun e w' => ∃ kt ct vn, e = .returned (.agg #[.int .i64 (sklA f cut).entry.1, .slice (some ⟨kt, 0, none⟩) 24 ct, vn]) ∧ Sep w w' [tabA kt (sklA f cut).entry.2, rnodesO vn (sklA f cut).nodes] := by
  have HF := Lib.hid hf
  have HC := Lib.hid hc
  have HR := Lib.hid hr
  have HI0 : Hid (InF f 0) := Lib.hid ⟨hr, Int.le_refl 0, by have := (right_iff.mp hr).2.1; omega⟩
  have HN2 : Hid ((nodesA f cut).length ≤ 200) := Lib.hid (Nat.le_trans (nds_len (nodes_nds hr cut)) (chk_len hr))
  obtain ⟨E, HE⟩ : ∃ E, Hid ((sklA f cut).entry = E) := ⟨_, Lib.hid rfl⟩
  have HE0 : Hid (wyA f (nodesA f cut) 0 = E) := Lib.hid (by rw [← HE.out]; rfl)
  have HE1 : Hid ((wyA f (nodesA f cut) 0).1 = E.1) := Lib.hid (by rw [HE0.out])
  have HE2 : Hid (tblA f 0 = E.2) := Lib.hid (by rw [← HE0.out]; rfl)
  have HS := Lib.hid (Sep.start w)
  obtain ⟨N, HN⟩ : ∃ N, Hid ((nodesA f cut).length = N) := ⟨_, Lib.hid rfl⟩
  rw [HN.out] at HN2
  have hN2 := HN2.out
  rw [HE.out]
  have T1 : Hid True := Lib.hid trivial
  have T2 : Hid True := Lib.hid trivial
  have T3 : Hid True := Lib.hid trivial
  have T4 : Hid True := Lib.hid trivial
  have T5 : Hid True := Lib.hid trivial
  have T6 : Hid True := Lib.hid trivial
  clear hf hc hr
  go_enter Tryz.func14, Tryz.ntmps14
  go_wp2_with (first
    | (clear T1; refine wpList_alB rfl 48 rfl _ zeroRs_run10 _ rfl HS.out ?_; intro wa g4 hs; replace HS := Lib.hid hs; clear hs)
                        | (clear T2; go_at_call 39; refine (places_any fa n fc f ca m cc cut _ (HF.out.new HS.out.nw) (HC.out.new HS.out.nw) HR.out).mono ?_; rintro e wb ⟨pv, rfl, hs⟩; obtain ⟨pa, pc, hv⟩ := rowA_form hs.hd; rw [HN.out] at hv; subst hv; replace HS := Lib.hid (HS.out.call hs); clear hs)
                        | (clear T3; go_at_call 40; refine (way_any (.slice fa n fc) f (.slice pa N pc) (nodesA f cut) 0 _ (HF.out.new HS.out.nw) (HS.out.rd 0 rfl) HI0.out (by rw [HN.out]; omega)).mono ?_; rw [HE1.out, HE2.out]; rintro e wc ⟨kt, ct, rfl, hs⟩; replace HS := Lib.hid ((HS.out.call hs).row0 112 2 rnodeE); clear hs)
                        | (clear T4; refine wpList_bd1 (a := .agg #[.int .i64 E.1, .slice (some ⟨kt, 0, none⟩) 24 ct]) rfl 48 0 (.tmp 16) rfl rfl (build_Rs _ _ _ _) ?_)
                        | (clear T5; refine wpList_alB rfl 48 rfl _ zeroRs_run10 _ rfl HS.out ?_; intro wd g6 hs; replace HS := Lib.hid hs; clear hs)
                        | (clear T6; refine wpList_stSW 0 rfl rfl 48 (.tmp 6) (.tmp 17) rfl g6 rfl _ rfl HS.out rfl (rsC E.1 (.slice (some ⟨kt, 0, none⟩) 24 ct) (.slice none 0 0)) rfl rfl (by simp [rsC, Value.oneCell']) infoRs ?_; intro we hs; replace HS := Lib.hid hs; clear hs))
  go_loopw [7] (fun iv wr => ∃ (k : Nat) (vn : Value), iv = .int .i64 (k : Int) ∧ k ≤ N ∧ Hid (Sep w wr [blk g6 48 (rsC E.1 (.slice (some ⟨kt, 0, none⟩) 24 ct) vn), rnodesO vn (xsDone f cut k), tabA kt E.2, intsA (.slice pa N pc) (nodesA f cut), blk g4 48 (rsC 0 (.slice none 0 0) (.slice none 0 0))])) (fun iv _ => N - (intOf iv).toNat)
  case atStart => exact ⟨0, .slice none 0 0, rfl, by omega, HS⟩
  case round =>
    obtain ⟨k, vn, rfl, hk, HT⟩ := hrel
    clear HS
    by_cases hkN : k < N
    · obtain ⟨pz, hpz⟩ : ∃ pz, (nodesA f cut)[k]? = some pz := ⟨_, List.getElem?_eq_getElem (by rw [HN.out]; exact hkN)⟩
      have hpn : InF f pz ∧ mvA f pz = false := (nodes_nds HR.out cut).inf pz (List.mem_of_getElem? hpz)
      obtain ⟨q, rfl⟩ : ∃ q : Nat, pz = (q : Int) := ⟨pz.toNat, by have := hpn.1.2.1; omega⟩
      have HPQ := Lib.hid hpn.1
      have HPM := Lib.hid hpn.2
      have HXS : Hid ((xsDone f cut k) ++ [((q : Int), outsOf f cut (q : Int))] = xsDone f cut (k + 1)) := Lib.hid (by unfold xsDone; rw [List.take_add_one, hpz, Option.toList_some, List.map_append]; rfl)
      obtain ⟨b0, o0, hix, hrg⟩ := leaf_ix (P := Tryz.prog) (HT.out.rd 3 rfl) 101 Tryz.underlying101 sizeInt hpz
      have c0 := hrg _ (New.refl _) 0 _ rfl
      rw [Nat.add_zero] at c0
      have HPZ := Lib.hid hpz
      have HLK : Hid ((xsDone f cut k).length ≤ 100000) := Lib.hid (by unfold xsDone; rw [List.length_map, List.length_take]; omega)
      have U1 : Hid True := Lib.hid trivial
      have U2 : Hid True := Lib.hid trivial
      have U3 : Hid True := Lib.hid trivial
      have U4 : Hid True := Lib.hid trivial
      clear hpz hpn hrg
      go_wp2_with (first
        | (clear U1; refine wpList_bd1 (a := .int .i64 (q : Int)) rfl 112 0 (.tmp 27) rfl rfl (build_Rnd _) ?_)
                        | (clear U2; refine wpList_alB rfl 112 rfl _ zeroRnd_run _ rfl HT.out ?_; intro w1 g8 hs; replace HT := Lib.hid hs; clear hs)
                        | (clear U3; refine wpList_stSW 0 rfl rfl 112 (.tmp 8) (.tmp 28) rfl g8 rfl _ rfl HT.out rfl (roC (q : Int) (.slice none 0 0)) rfl rfl (by simp [roC, Value.oneCell']) infoRnd ?_; intro w2 hs; replace HT := Lib.hid hs; obtain ⟨b9, o9, hix9, hrg9⟩ := leaf_ix (P := Tryz.prog) (HT.out.rd 4 rfl) 101 Tryz.underlying101 sizeInt HPZ.out; have c9 := hrg9 _ (New.refl _) 0 _ rfl; rw [Nat.add_zero] at c9; clear hs c0 hix hrg9)
                        | (clear U4; go_at_call 41; refine (froms_any fa n fc f ca m cc cut q _ (HF.out.new HT.out.nw) (HC.out.new HT.out.nw) HPQ.out).mono ?_; rintro e w3 ⟨vi, rfl, hs⟩; obtain ⟨ia, ic, hvi⟩ := rowA_form (hs.rd 0 rfl); obtain ⟨JJ, HJ⟩ : ∃ JJ, Hid ((fromsA f cut (q : Int)).length = JJ) := ⟨_, Lib.hid rfl⟩; rw [HJ.out] at hvi; subst hvi; replace HT := Lib.hid ((HT.out.call hs).pull 1 rfl); clear hs c9 hix9))
      have hJ2 : JJ ≤ 2 := by rw [← HJ.out]; unfold fromsA; split <;> (try split) <;> simp
      go_loopw [10] (fun jv wr => ∃ (j : Nat) (vo : Value), jv = .int .i64 (j : Int) ∧ j ≤ JJ ∧ Hid (Sep w wr [blk g8 112 (roC (q : Int) vo), routsO vo (((fromsA f cut (q : Int)).take j).map (wyA f (nodesA f cut))), intsA (.slice ia JJ ic) (fromsA f cut (q : Int)), blk g6 48 (rsC E.1 (.slice (some ⟨kt, 0, none⟩) 24 ct) vn), rnodesO vn (xsDone f cut k), tabA kt E.2, intsA (.slice pa N pc) (nodesA f cut), blk g4 48 (rsC 0 (.slice none 0 0) (.slice none 0 0))])) (fun jv _ => JJ - (intOf jv).toNat)
      case atStart => exact ⟨0, .slice none 0 0, rfl, by omega, Lib.hid (((HT.out.row0 45 2 routE).pull 1 rfl))⟩
      case round =>
        obtain ⟨j, vo, rfl, hj, HU⟩ := hrel
        clear HT
        by_cases hjJ : j < JJ
        · obtain ⟨r, hrj⟩ : ∃ r, (fromsA f cut (q : Int))[j]? = some r := ⟨_, List.getElem?_eq_getElem (by rw [HJ.out]; exact hjJ)⟩
          have HIR : Hid (InF f r) := Lib.hid (froms_in HPQ.out HPM.out r (List.mem_of_getElem? hrj))
          have htk : (fromsA f cut (q : Int)).take (j + 1) = (fromsA f cut (q : Int)).take j ++ [r] := by rw [List.take_add_one, hrj]; rfl
          have HO : Hid (((fromsA f cut (q : Int)).take j).map (wyA f (nodesA f cut)) ++ [((wyA f (nodesA f cut) r).1, tblA f r)] = ((fromsA f cut (q : Int)).take (j + 1)).map (wyA f (nodesA f cut))) := Lib.hid (by rw [htk, List.map_append]; rfl)
          have HLO : Hid ((((fromsA f cut (q : Int)).take j).map (wyA f (nodesA f cut))).length ≤ 100000) := Lib.hid (by
            rw [List.length_map, List.length_take]
            omega)
          obtain ⟨lb, lc, cz, hvi, _⟩ := rowA_at (HU.out.rd 2 rfl) hrj
          rw [HJ.out] at hvi
          simp only [Value.slice.injEq, true_and] at hvi
          obtain ⟨rfl, rfl⟩ := hvi
          have hx1 := leaf_rg (HU.out.rd 2 rfl) hrj 0 _ rfl
          rw [Nat.add_zero] at hx1
          obtain ⟨oa, oc, hvo⟩ := rowA_form (HU.out.rd 1 rfl)
          obtain ⟨M, HM⟩ : ∃ M, Hid ((((fromsA f cut (q : Int)).take j).map (wyA f (nodesA f cut))).length = M) := ⟨_, Lib.hid rfl⟩
          rw [HM.out] at hvo
          subst hvo
          obtain ⟨ix, HX⟩ : ∃ ix : Int, Hid ((wyA f (nodesA f cut) r).1 = ix) := ⟨_, Lib.hid rfl⟩
          obtain ⟨tb, HTB⟩ : ∃ tb, Hid (tblA f r = tb) := ⟨_, Lib.hid rfl⟩
          rw [HX.out, HTB.out] at HO
          have HRJ := Lib.hid hrj
          clear htk hrj
          go_wp2_with fail
          have hS := HU.out.go ((New.refl wr).drew)
          have S0 : wr.drew.cell? ⟨g8, 1, none⟩ = some (.slice oa M oc) ∧ wr.drew.cell? ⟨lb, j * 1, none⟩ = some (.int .i64 r) := ⟨HU.out.cell 0 rfl (k := 1) rfl, hx1⟩
          have hix1 := fun w => ixRowB (P := Tryz.prog) Tryz.underlying101 sizeInt lb j JJ ic hjJ w
          refine wp_region_noPanic ?_
          refine region_late (k := 12) (S := fun w' => w'.cell? ⟨g8, 1, none⟩ = some (.slice oa M oc) ∧ w'.cell? ⟨lb, j * 1, none⟩ = some (.int .i64 r)) (by kernel_rfl) S0 (fun _ => ?_)
          refine late_take (i := 0) (v := .pointer (some ⟨g8, 1, none⟩)) rfl (by kernel_rfl) (by kernel_rfl) (by kernel_rfl) (by kernel_rfl) (fun _ _ _ h => h) (Or.inl ⟨rfl, fun _ _ => by go_simp⟩) S0 ?_
          simp only [List.getElem_toArray, List.getElem_cons_zero, Act.put, List.setIfInBounds_toArray, List.set_cons_zero, List.set_cons_succ]
          refine late_take (i := 1) (v := .slice oa M oc) rfl (by kernel_rfl) (by kernel_rfl) (by kernel_rfl) (by kernel_rfl) (fun _ _ _ h => h) (ldV_if rfl 110 Tryz.isAgg110 (.tmp 42) rfl ⟨g8, 1, none⟩ rfl (fun w' h => h.1)) S0 ?_
          simp only [List.getElem_toArray, List.getElem_cons_zero, List.getElem_cons_succ, Act.put, List.setIfInBounds_toArray, List.set_cons_zero, List.set_cons_succ]
          refine late_take (i := 2) (v := .slice fa n fc) rfl (by kernel_rfl) (by kernel_rfl) (by kernel_rfl) (by kernel_rfl) (fun _ _ _ h => h) (Or.inl ⟨rfl, fun _ _ => by go_simp⟩) S0 ?_
          simp only [List.getElem_toArray, List.getElem_cons_zero, List.getElem_cons_succ, Act.put, List.setIfInBounds_toArray, List.set_cons_zero, List.set_cons_succ]
          refine late_take (i := 3) (v := (.slice pa N pc)) rfl (by kernel_rfl) (by kernel_rfl) (by kernel_rfl) (by kernel_rfl) (fun _ _ _ h => h) (Or.inl ⟨rfl, fun _ _ => by go_simp⟩) S0 ?_
          simp only [List.getElem_toArray, List.getElem_cons_zero, List.getElem_cons_succ, Act.put, List.setIfInBounds_toArray, List.set_cons_zero, List.set_cons_succ]
          refine late_take (i := 4) (v := .slice (some ⟨lb, 0, none⟩) JJ ic) rfl (by kernel_rfl) (by kernel_rfl) (by kernel_rfl) (by kernel_rfl) (fun _ _ _ h => h) (Or.inl ⟨rfl, fun _ _ => by go_simp⟩) S0 ?_
          simp only [List.getElem_toArray, List.getElem_cons_zero, List.getElem_cons_succ, Act.put, List.setIfInBounds_toArray, List.set_cons_zero, List.set_cons_succ]
          refine late_take (i := 5) (v := .int .i64 (j : Int)) rfl (by kernel_rfl) (by kernel_rfl) (by kernel_rfl) (by kernel_rfl) (fun _ _ _ h => h) (Or.inl ⟨rfl, fun _ _ => by go_simp⟩) S0 ?_
          simp only [List.getElem_toArray, List.getElem_cons_zero, List.getElem_cons_succ, Act.put, List.setIfInBounds_toArray, List.set_cons_zero, List.set_cons_succ]
          refine late_take (i := 6) (v := .pointer (some ⟨lb, j * 1, none⟩)) rfl (by kernel_rfl) (by kernel_rfl) (by kernel_rfl) (by kernel_rfl) (fun _ _ _ h => h) (ixV_if rfl 101 (.tmp 46) (.tmp 47) rfl _ _ _ rfl rfl hix1) S0 ?_
          simp only [List.getElem_toArray, List.getElem_cons_zero, List.getElem_cons_succ, Act.put, List.setIfInBounds_toArray, List.set_cons_zero, List.set_cons_succ]
          refine late_take (i := 7) (v := .int .i64 r) rfl (by kernel_rfl) (by kernel_rfl) (by kernel_rfl) (by kernel_rfl) (fun _ _ _ h => h) (ldV_if rfl 3 Tryz.isAgg3 (.tmp 48) rfl ⟨lb, j * 1, none⟩ rfl (fun w' h => h.2)) S0 ?_
          simp only [List.getElem_toArray, List.getElem_cons_zero, List.getElem_cons_succ, Act.put, List.setIfInBounds_toArray, List.set_cons_zero, List.set_cons_succ]
          refine late_forced [8, 9, 10, 11, 12] _ _ _ (by kernel_rfl) ?_
          refine LL_call rfl rfl 40 #[.slice fa n fc, (.slice pa N pc), .int .i64 r] (by go_simp) ?_
          refine (way_any (.slice fa n fc) f (.slice pa N pc) (nodesA f cut) r _ (HF.out.new hS.nw) (hS.rd 6 rfl) HIR.out (by rw [HN.out]; omega)).mono ?_
          rw [HX.out, HTB.out]
          rintro e w2 ⟨kt2, ct2, rfl, hs⟩
          have N2 := hs.nw
          replace hS := hS.call hs
          have S1 : w2.cell? ⟨g8, 1, none⟩ = some (.slice oa M oc) ∧ w2.cell? ⟨lb, j * 1, none⟩ = some (.int .i64 r) := ⟨N2.cell' S0.1, N2.cell' S0.2⟩
          refine ⟨_, rfl, S1, ?_⟩
          simp only [List.getElem_toArray, List.getElem_cons_zero, List.getElem_cons_succ, Act.put, List.setIfInBounds_toArray, List.set_cons_zero, List.set_cons_succ]
          have hb := hS.new (g := w2.heap.size) (cs := roC ix (.slice (some ⟨kt2, 0, none⟩) 24 ct2)) (ty := 45) (alloc_new _ _) (Nat.le_refl _) (HasC.box w2 _ _)
          have hbl := hb.has 0 rfl
          refine LL_val rfl rfl (run_bsB 110 45 (.tmp 50) rfl Tryz.underlying110 infoRo3 (by decide) (by decide) (roC ix (.slice (some ⟨kt2, 0, none⟩) 24 ct2)) (.agg #[.int .i64 ix, .slice (some ⟨kt2, 0, none⟩) 24 ct2]) rfl rfl rfl) ⟨(alloc_new _ _).cell' S1.1, (alloc_new _ _).cell' S1.2⟩ ?_
          simp only [List.getElem_toArray, List.getElem_cons_zero, List.getElem_cons_succ, Act.put, List.setIfInBounds_toArray, List.set_cons_zero, List.set_cons_succ]
          generalize w2.alloc (.cells (roC ix (.slice (some ⟨kt2, 0, none⟩) 24 ct2)).toArray 45) = w3 at hb hbl ⊢
          obtain ⟨v', w4, hr, hd⟩ := run_appA (ty := 110) (P := Tryz.prog) (T := 110) (e := 45) Tryz.underlying110 infoRo3 rfl (by decide) (by decide) (E := routE) (y := (ix, tb)) (cs := roC ix (.slice (some ⟨kt2, 0, none⟩) 24 ct2)) (((hb.pull 3 rfl).pull 2 rfl).rout ix ct2) HLO.out hbl rfl (by simp [roC, Value.oneCell'])
          rw [HO.out] at hd
          obtain ⟨oa', oc', hv'⟩ := rowA_form (hd.rd 0 rfl)
          obtain ⟨M2, HM2⟩ : ∃ M2, Hid ((((fromsA f cut (q : Int)).take (j + 1)).map (wyA f (nodesA f cut))).length = M2) := ⟨_, Lib.hid rfl⟩
          rw [HM2.out] at hv'
          have S2 : w4.cell? ⟨g8, 1, none⟩ = some (.slice oa M oc) ∧ w4.cell? ⟨lb, j * 1, none⟩ = some (.int .i64 r) := ⟨hd.cell 2 rfl (k := 1) rfl, by have := leaf_rg (hd.rd 3 rfl) HRJ.out 0 _ rfl; rw [Nat.add_zero] at this; exact this⟩
          refine LL_val rfl rfl (run_appO (.tmp 43) (.tmp 51) 110 rfl rfl rfl hr) S2 ?_
          simp only [List.getElem_toArray, List.getElem_cons_zero, List.getElem_cons_succ, Act.put, List.setIfInBounds_toArray, List.set_cons_zero, List.set_cons_succ]
          refine LL_val (v := .pointer (some ⟨g8, 1, none⟩)) rfl rfl (by unfold execOp; simp only [Act.eval]; go_simp) S2 ?_
          simp only [List.getElem_toArray, List.getElem_cons_zero, List.getElem_cons_succ, Act.put, List.setIfInBounds_toArray, List.set_cons_zero, List.set_cons_succ]
          subst hv'
          have hst : (Instr.storeAt 110 (.pointer (some ⟨g8, 1, none⟩)) (.slice oa' M2 oc')).run Tryz.prog w4 = .ok () (putO w4 g8 (.cells (roC (q : Int) (.slice oa' M2 oc')).toArray 112 (0, 0))) := HasC.store (hd.has 2 rfl) 1 [.slice oa' M2 oc'] 110 (.slice oa' M2 oc') rfl (by simp [roC]) (by simp [Value.oneCell']) infoRos1
          refine LL_skip rfl rfl rfl (run_stO 110 (.tmp 53) (.tmp 52) rfl rfl rfl hst) (fun h => absurd rfl h) ?_
          have hfin := hd.setAt 2 rfl (Kept.put w4 g8 (.cells (roC (q : Int) (.slice oa' M2 oc')).toArray 112 (0, 0))) (HasC.put (hd.has 2 rfl) _)
          clear hst
          generalize putO w4 g8 (.cells (roC (q : Int) (.slice oa' M2 oc')).toArray 112 (0, 0)) = w5 at hfin ⊢
          have HV := Lib.hid ((hfin.dropAt 1 (by simp)).pull 1 rfl)
          refine NoPanic.normal ?_
          clear hfin hd hr hb hbl hS hx1 HU hix1 S0 S1 S2 hs N2
          go_wp2
          go_roundw
          case rel => exact ⟨j + 1, _, by go_num, by omega, HV⟩
          case measure => simp [intOf]; omega
        · have hjJ' : j = JJ := by omega
          have HFR : Hid ((fromsA f cut (q : Int)).take j = fromsA f cut (q : Int)) := Lib.hid (List.take_of_length_le (by rw [HJ.out]; omega))
          rw [HFR.out] at HU
          have HV : Hid (Sep w wr [blk g8 112 (roC (q : Int) vo), routsO vo (outsOf f cut (q : Int)), intsA (.slice ia JJ ic) (fromsA f cut (q : Int)), blk g6 48 (rsC E.1 (.slice (some ⟨kt, 0, none⟩) 24 ct) vn), rnodesO vn (xsDone f cut k), tabA kt E.2, intsA (.slice pa N pc) (nodesA f cut), blk g4 48 (rsC 0 (.slice none 0 0) (.slice none 0 0))]) := HU
          obtain ⟨oa, oc, hvo⟩ := rowA_form (HV.out.rd 1 rfl)
          rw [show (outsOf f cut (q : Int)).length = JJ by unfold outsOf; rw [List.length_map, HJ.out]] at hvo
          subst hvo
          obtain ⟨va, vc, hvn⟩ := rowA_form (HV.out.rd 4 rfl)
          obtain ⟨M, HM⟩ : ∃ M, Hid ((xsDone f cut k).length = M) := ⟨_, Lib.hid rfl⟩
          rw [HM.out] at hvn
          subst hvn
          have cn := HV.out.cell 3 rfl (k := 2) rfl
          have U1 : Hid True := Lib.hid trivial
          have U2 : Hid True := Lib.hid trivial
          have U3 : Hid True := Lib.hid trivial
          have U4 : Hid True := Lib.hid trivial
          clear HU
          go_wp2_with (first
            | (clear U1; refine wpList_load_mid rfl 112 (.tmp 8) rfl g8 0 rfl (roC (q : Int) (.slice oa JJ oc)) _ (HasC.all (HV.out.has 0 rfl)) Tryz.underlying112 rfl infoRnd ?_)
            | (clear U2; refine wpList_bsB rfl 46 112 (.tmp 56) rfl Tryz.underlying46 infoRnd3 (by decide) (by decide) (roC (q : Int) (.slice oa JJ oc)) _ rfl rfl rfl HV.out ?_; intro w5 b hs; have HB := Lib.hid (hs.has 0 rfl); replace HV := Lib.hid ((hs.pull 2 rfl).rnode (q : Int)); clear hs cn)
            | (at_builtin; clear U3; refine wpList_appI 4 rfl (.tmp 55) (.tmp 57) 46 112 rfl Tryz.underlying46 infoRnd3 rfl (by decide) (by decide) (E := rnodeE) (y := ((q : Int), outsOf f cut (q : Int))) (cs := roC (q : Int) (.slice oa JJ oc)) HV.out rfl HLK.out rfl rfl HB.out rfl (by simp [roC, Value.oneCell']) ?_; intro v2 w6 hs; rw [HXS.out] at hs; obtain ⟨va2, vc2, hv2⟩ := rowA_form (hs.rd 4 rfl); obtain ⟨M2, HM2⟩ : ∃ M2, Hid ((xsDone f cut (k + 1)).length = M2) := ⟨_, Lib.hid rfl⟩; rw [HM2.out] at hv2; subst hv2; replace HV := Lib.hid hs; clear hs)
            | (clear U4; refine wpList_stC1 3 rfl rfl 46 (.tmp 59) (.tmp 58) rfl g6 2 rfl (.slice va2 M2 vc2) rfl HV.out rfl rfl (by simp [rsC]) rfl infoRns1 ?_; intro w7 hs; replace HV := Lib.hid hs.drop.drop.drop; clear hs))
          go_roundw
          case rel => exact ⟨k + 1, _, by go_num, by omega, HV⟩
          case measure => simp [intOf]; omega
    · have HXD : Hid (xsDone f cut k = (sklA f cut).nodes) := Lib.hid (by unfold xsDone; rw [List.take_of_length_le (by rw [HN.out]; omega)]; rfl)
      rw [HXD.out] at HT
      have U1 : Hid True := Lib.hid trivial
      have U2 : Hid True := Lib.hid trivial
      obtain ⟨va, vc, hvn⟩ := rowA_form (HT.out.rd 1 rfl)
      subst hvn
      go_wp2_with (first
        | (clear U1; refine wpList_load_mid rfl 48 (.tmp 6) rfl g6 0 rfl (rsC E.1 (.slice (some ⟨kt, 0, none⟩) 24 ct) (.slice va (sklA f cut).nodes.length vc)) _ (HasC.all (HT.out.has 0 rfl)) Tryz.underlying48 rfl infoRs ?_)
        | (clear U2; refine wpList_stSW 4 rfl rfl 48 (.tmp 4) (.tmp 60) rfl g4 rfl _ rfl HT.out rfl (rsC E.1 (.slice (some ⟨kt, 0, none⟩) 24 ct) (.slice va (sklA f cut).nodes.length vc)) rfl rfl (by simp [rsC, Value.oneCell']) infoRs ?_; intro w5 hs; replace HT := Lib.hid hs; clear hs))
      exact bodyPost_ret (resRs _ rfl _ _ g4 _ _ _ rfl (HT.out.has 4 rfl)) rfl ⟨kt, ct, _, rfl, ((HT.out.drop.pull 1 rfl).dropAt 3 (by simp)).dropAt 2 (by simp)⟩
end Go.Proofs.YtphopkjgfkaihaaGreatDoor
namespace Go.Proofs.YtphopkjgfkaihaaGreatDoor
open Go.RowKit

theorem rnode_rd {x : Int × List Wyo} {c : List Value} {w : World} (h : (rnodeE x c).rd w) : ∃ v, c = roC x.1 v ∧ (routsO v x.2).rd w := by
  obtain ⟨F, ⟨v, F1, F2, h1, h2, _, _, h3⟩, h4⟩ := h
  exact ⟨v, h1, F2, h2, fun g hg => h4 g (h3 g hg)⟩
theorem rout_rd {o : Wyo} {c : List Value} {w : World} (h : (routE o c).rd w) : ∃ k ct, c = roC o.1 (.slice (some ⟨k, 0, none⟩) 24 ct) ∧ (tabA k o.2).rd w := by
  obtain ⟨F, ⟨kc, F1, F2, h1, h2, _, _, h3⟩, h4⟩ := h
  exact ⟨kc.1, kc.2, h1, F2, h2, fun g hg => h4 g (h3 g hg)⟩
theorem sizeRnd : ∀ w, (sizeOf 112).run Tryz.prog w = .ok 2 w := Tryz.sizeOf112
theorem sizeRo : ∀ w, (sizeOf 45).run Tryz.prog w = .ok 2 w := Tryz.sizeOf45
set_option maxHeartbeats 16000000 in
set_option maxRecDepth 100000 in
theorem refTo_any (s : Skl) (ta : Option Addr) (tm tc : Nat) (na : Option Addr) (nc N : Nat) (n : Int) (w : World) (hN : s.nodes.length = N) (hs : (rnodesO (.slice na N nc) s.nodes).rd w) (hN2 : N ≤ 1000) (hB : ∀ x ∈ s.nodes, x.2.length ≤ 10) :
    Calls Tryz.prog 18 #[.agg #[.int .i64 s.entry.1, .slice ta tm tc, .slice na N nc], .int .i64 n] w fun r w' => ∃ v, r = .returned v ∧ Sep w w' [edgesO v (edgesA s n)] := by
  have HR := Lib.hid hs
  have HB := Lib.hid hB
  have HN := Lib.hid hN
  have HLN : ∀ m k, Hid ((edAt s m k n).length ≤ 100000) := fun m k => Lib.hid (by
    have h1 := ed_len (m := m) (k := k) (n := n) hB
    rw [hN] at h1
    omega)
  have HS := Lib.hid ((Sep.start w).row0 42 2 (leafE edK))
  obtain ⟨e0, he0⟩ : ∃ e0, s.entry.1 = e0 := ⟨_, rfl⟩
  have HE0 := Lib.hid he0
  rw [he0]
  clear hs hB hN he0
  have T1 : Hid True := Lib.hid trivial
  have T2 : Hid True := Lib.hid trivial
  have T3 : Hid True := Lib.hid trivial
  have T4 : Hid True := Lib.hid trivial
  by_cases hq : e0 = n
  case' pos =>
    have q0 : (e0 == n) = true := beq_of hq
    go_enter Tryz.func18, Tryz.ntmps18
    go_wp2_with (first
      | (clear T1; refine wpList_boxB rfl 48 (.tmp 0) rfl (rsC e0 (.slice ta tm tc) (.slice na N nc)) rfl HS.out ?_; intro wa gb hs; replace HS := Lib.hid hs; have c0 := HS.out.cell 0 rfl (k := 0) rfl; clear hs)
      | (clear T2; refine wpList_bd1 (a := .int .i64 (-1)) rfl 42 0 (.const (.int .i64 (-1))) rfl rfl (build_Ed1 (-1)) ?_)
      | (clear T3; refine wpList_bsB rfl 55 42 (.tmp 14) rfl Tryz.underlying55 infoEd3 (by decide) (by decide) (edK (-1, 0)) _ rfl rfl rfl HS.out ?_; intro wx b hs; replace HS := Lib.hid hs; clear hs)
                        | (at_builtin; clear T4; refine wpList_appL 2 rfl (.tmp 13) (.tmp 15) 55 42 rfl Tryz.underlying55 infoEd3 rfl (by decide) (by decide) (mk := edK) (y := (-1, 0)) HS.out rfl (by simp) rfl rfl (HS.out.has 0 rfl) rfl (by simp [edK, Value.oneCell']) ?_; intro v2 wy hs; replace HS := Lib.hid hs.drop; clear hs))
    replace HS : Hid (Sep w wy [blk gb 48 (rsC e0 (.slice ta tm tc) (.slice na N nc)), edgesO v2 (edAt s 0 0 n)]) := Lib.hid (by rw [ed_zero, HE0.out, if_pos hq]; exact HS.out)
  case' neg =>
    have q0 : (e0 == n) = false := bneq_of hq
    go_enter Tryz.func18, Tryz.ntmps18
    go_wp2_with (first
      | (clear T1; refine wpList_boxB rfl 48 (.tmp 0) rfl (rsC e0 (.slice ta tm tc) (.slice na N nc)) rfl HS.out ?_; intro wa gb hs; replace HS := Lib.hid hs; have c0 := HS.out.cell 0 rfl (k := 0) rfl; clear hs))
    replace HS : Hid (Sep w wa [blk gb 48 (rsC e0 (.slice ta tm tc) (.slice na N nc)), edgesO (.slice none 0 0) (edAt s 0 0 n)]) := Lib.hid (by rw [ed_zero, HE0.out, if_neg hq]; exact HS.out)
  all_goals
    clear HE0
    go_loopw [5, 6] (fun ov mv wr => ∃ (m : Nat) (v : Value), ov = v ∧ mv = .int .i64 (m : Int) ∧ m ≤ N ∧ Hid (Sep w wr [blk gb 48 (rsC e0 (.slice ta tm tc) (.slice na N nc)), edgesO v (edAt s m 0 n)])) (fun _ mv _ => N - (intOf mv).toNat)
    case atStart => exact ⟨0, _, rfl, rfl, by omega, HS⟩
    case round =>
      obtain ⟨m, v, rfl, rfl, hm, HT⟩ := hrel
      clear HS c0 q0 hq
      have cn := HT.out.cell 0 rfl (k := 2) rfl
      by_cases hmN : m < N
      · obtain ⟨x, hx⟩ : ∃ x, s.nodes[m]? = some x := ⟨_, List.getElem?_eq_getElem (by rw [HN.out]; exact hmN)⟩
        have HX := Lib.hid hx
        obtain ⟨b0, o0, c, _, hix, hrg, hE⟩ := rowA_ix (P := Tryz.prog) HR.out 46 Tryz.underlying46 sizeRnd hx
        obtain ⟨vo, hc, hro⟩ := rnode_rd hE
        subst hc
        obtain ⟨oa, oc, hv⟩ := rowA_form hro
        obtain ⟨K, HK⟩ : ∃ K, Hid (x.2.length = K) := ⟨_, Lib.hid rfl⟩
        have hK10 : K ≤ 10 := by rw [← HK.out]; exact HB.out x (List.mem_of_getElem? hx)
        rw [HK.out] at hv
        subst hv
        have HRO := Lib.hid hro
        have HRG := Lib.hid hrg
        clear hx hrg hE hro
        go_wp2_with fail
        go_loopw [5, 7] (fun ov kv wr => ∃ (k : Nat) (v : Value), ov = v ∧ kv = .int .i64 (k : Int) ∧ k ≤ K ∧ Hid (Sep w wr [blk gb 48 (rsC e0 (.slice ta tm tc) (.slice na N nc)), edgesO v (edAt s m k n)])) (fun _ kv _ => K - (intOf kv).toNat)
        case atStart => exact ⟨0, _, rfl, rfl, by omega, HT⟩
        case round =>
          obtain ⟨k, v, rfl, rfl, hk, HU⟩ := hrel
          clear HT cn
          have cn := HU.out.cell 0 rfl (k := 2) rfl
          have y1 := HRG.out _ HU.out.nw 1 _ rfl
          by_cases hkK : k < K
          · obtain ⟨o, ho⟩ : ∃ o, x.2[k]? = some o := ⟨_, List.getElem?_eq_getElem (by rw [HK.out]; exact hkK)⟩
            obtain ⟨b1, o1, c1, _, hix1, hrg1, hE1⟩ := rowA_ix (P := Tryz.prog) HRO.out 110 Tryz.underlying110 sizeRo ho
            obtain ⟨kt, ct, hc1, _⟩ := rout_rd hE1
            subst hc1
            have z0 := hrg1 _ HU.out.nw 0 _ rfl
            rw [Nat.add_zero] at z0
            have HLEN := (HLN m k).out
            by_cases hon : o.1 = n
            · have q1 : (o.1 == n) = true := beq_of hon
              have HG : Hid (edAt s m k n ++ [((m : Int), (k : Int))] = edAt s m (k + 1) n) := Lib.hid (by rw [ed_step HX.out ho, if_pos hon])
              have U1 : Hid True := Lib.hid trivial
              have U2 : Hid True := Lib.hid trivial
              have U3 : Hid True := Lib.hid trivial
              clear ho hrg1 hE1 hon
              go_wp2_with (first
                | (clear U1; refine wpList_bd2 (a := .int .i64 (m : Int)) (b := .int .i64 (k : Int)) rfl 42 0 1 (.tmp 48) (.tmp 49) rfl rfl rfl (build_Ed2 m k) ?_)
                | (clear U2; refine wpList_bsB rfl 55 42 (.tmp 50) rfl Tryz.underlying55 infoEd3 (by decide) (by decide) (edK ((m : Int), (k : Int))) _ rfl rfl rfl HU.out ?_; intro wx b hs; replace HU := Lib.hid hs; clear hs)
                        | (at_builtin; clear U3; refine wpList_appL 2 rfl (.tmp 47) (.tmp 51) 55 42 rfl Tryz.underlying55 infoEd3 rfl (by decide) (by decide) (mk := edK) (y := ((m : Int), (k : Int))) HU.out rfl HLEN rfl rfl (HU.out.has 0 rfl) rfl (by simp [edK, Value.oneCell']) ?_; intro v2 wy hs; rw [HG.out] at hs; replace HU := Lib.hid hs.drop; clear hs))
              go_roundw
              case rel => exact ⟨k + 1, _, rfl, by go_num, by omega, HU⟩
              case measure => simp [intOf]; omega
            · have q1 : (o.1 == n) = false := bneq_of hon
              have HG : Hid (edAt s m k n = edAt s m (k + 1) n) := Lib.hid (by rw [ed_step HX.out ho, if_neg hon, List.append_nil])
              rw [HG.out] at HU
              clear ho hrg1 hE1 hon
              go_wp2_with fail
              go_roundw
              case rel => exact ⟨k + 1, _, rfl, by go_num, by omega, HU⟩
              case measure => simp [intOf]; omega
          · have HG : Hid (edAt s m k n = edAt s (m + 1) 0 n) := Lib.hid (ed_next HX.out (by rw [HK.out]; omega))
            rw [HG.out] at HU
            go_wp2_with fail
            go_roundw
            case rel => exact ⟨m + 1, _, rfl, by go_num, by omega, HU⟩
            case measure => simp [intOf]; omega
      · have HG : Hid (edAt s m 0 n = edgesA s n) := Lib.hid (ed_done (by rw [HN.out]; omega))
        rw [HG.out] at HT
        go_wp2_with fail
        go_ret
        exact ⟨_, rfl, HT.out.drop⟩
end Go.Proofs.YtphopkjgfkaihaaGreatDoor
