/-
  Layer 10: what the reference's skeleton owns; the contract of the reference's Build.
-/
import Derived.Test.YtlmnodbhfpgplaaGreatDoorSkelRefP
namespace Go.Proofs.YtlmnodbhfpgplaaGreatDoor
open Go.RowKit

def routE (o : Wyo) (c : List Value) : Asn := Asn.ex fun kc : Nat × Nat => (Asn.say (c = roC o.1 (.slice (some ⟨kc.1, 0, none⟩) 24 kc.2))).star (tabA kc.1 o.2)
abbrev routsO (v : Value) (os : List Wyo) : Asn := rowA 67 2 routE v os
def rnodeE (x : Int × List Wyo) (c : List Value) : Asn := Asn.ex fun v => (Asn.say (c = roC x.1 v)).star (routsO v x.2)
abbrev rnodesO (v : Value) (xs : List (Int × List Wyo)) : Asn := rowA 112 2 rnodeE v xs
def rsC (tq : Int) (vt vn : Value) : List Value := [.int .i64 tq, vt, vn]
theorem Sep.rout {w0 w : World} {l : List Asn} {k : Nat} {t : Tb} (h : Sep w0 w (tabA k t :: l)) (tq : Int) (c : Nat) : Sep w0 w (routE (tq, t) (roC tq (.slice (some ⟨k, 0, none⟩) 24 c)) :: l) :=
  h.as fun F hF => ⟨(k, c), fun _ => False, F, rfl, hF, fun _ h _ => h, fun _ h => h.elim, fun _ h => h⟩
theorem Sep.rnode {w0 w : World} {l : List Asn} {v : Value} {os : List Wyo} (h : Sep w0 w (routsO v os :: l)) (q : Int) : Sep w0 w (rnodeE (q, os) (roC q v) :: l) :=
  h.as fun F hF => ⟨v, fun _ => False, F, rfl, hF, fun _ h _ => h, fun _ h => h.elim, fun _ h => h⟩
theorem infoRs : (Tryz.prog.info? 70).map (·.size) = some 3 := by kernel_rfl
theorem infoRnd : (Tryz.prog.info? 112).map (·.size) = some 2 := by kernel_rfl
theorem infoRnd3 : (Tryz.prog.info? 112).map (fun i => (i.zero, i.size, i.bytes)) = some (some (.agg #[.int .i64 0, .slice none 0 0]), 2, 32) := by kernel_rfl
theorem infoRo3 : (Tryz.prog.info? 67).map (fun i => (i.zero, i.size, i.bytes)) = some (some (.agg #[.int .i64 0, .slice none 0 0]), 2, 32) := by kernel_rfl
theorem infoRos1 : (Tryz.prog.info? 110).map (·.size) = some 1 := by kernel_rfl
theorem infoRns1 : (Tryz.prog.info? 68).map (·.size) = some 1 := by kernel_rfl
theorem zeroRs_run10 (w : World) : (zeroValue 70).run Tryz.prog w = .ok (.agg (rsC 0 (.slice none 0 0) (.slice none 0 0)).toArray) w := Tryz.zeroValue70 w
theorem zeroRnd_run (w : World) : (zeroValue 112).run Tryz.prog w = .ok (.agg (roC 0 (.slice none 0 0)).toArray) w := Tryz.zeroValue112 w
theorem build_Rs (tq : Int) (ao : Option Addr) (m cap : Nat) (w : World) : (Instr.build 70 #[(0, .agg #[.int .i64 tq, .slice ao m cap])]).run Tryz.prog w = .ok (.agg (rsC tq (.slice ao m cap) (.slice none 0 0)).toArray) w := run_build w _ _ _ (by kernel_rfl)
theorem build_Rnd (q : Int) (w : World) : (Instr.build 112 #[(0, .int .i64 q)]).run Tryz.prog w = .ok (.agg (roC q (.slice none 0 0)).toArray) w := run_build w _ _ _ (by kernel_rfl)
theorem resRs (fn : Func) {p : Tmp} (h : fn.results = #[.cell p 70]) (tmps : Array Value) (w : World) (g : Nat) (tq : Int) (vt vn : Value) (hp : tmps.getD p undef = .pointer (some ⟨g, 0, none⟩)) (hg : HasC w g 70 (rsC tq vt vn)) :
    (results fn tmps).run Tryz.prog w = .ok (.agg #[.int .i64 tq, vt, vn]) w :=
  results_cell_row h tmps w g _ _ _ _ hp hg Tryz.underlying70 rfl infoRs
theorem ixRowB {P : Program} {T e : TypeId} {k : Nat} (hu : P.underlying T = some (.slice e)) (he : ∀ w, (sizeOf e).run P w = .ok k w) (b i n cap : Nat) (hi : i < n) (w : World) : (Instr.indexAt T (.slice (some ⟨b, 0, none⟩) n cap) (.int .i64 (i : Int))).run P w = .ok (.pointer (some ⟨b, i * k, none⟩)) w := by
  have ea : (⟨b, 0, none⟩ : Addr).add (i * k) = ⟨b, i * k, none⟩ := by rw [Addr.add_mid, Nat.zero_add]
  simp [Instr.indexAt, run_underlying hu, asIntOf, he, ea]
  intro
  omega
def xsDone (f : List I) (cut : List Bool) (k : Nat) : List (Int × List Wyo) := ((nodesA f cut).take k).map fun p => (p, outsOf f cut p)
/-- An element's cells, where the row lies in a known block. -/
theorem leaf_rg {α : Type} {mk : α → List Value} {e : TypeId} {k b n cap : Nat} {xs : List α} {w : World} (h : (rowA e k (leafE mk) (.slice (some ⟨b, 0, none⟩) n cap) xs).rd w) {i : Nat} {x : α} (hi : xs[i]? = some x) : w.rangeAt b (i * k) (mk x) := by
  obtain ⟨b', cap', c, e1, _, h2, _, h3, _⟩ := rowA_at h hi
  simp only [Value.slice.injEq, Option.some.injEq, Addr.mk.injEq] at e1
  obtain ⟨⟨rfl, _⟩, _⟩ := e1
  obtain rfl : c = mk x := h3
  exact h2
set_option maxHeartbeats 16000000 in
set_option maxRecDepth 100000 in
theorem refBuild_any (fa : Option Addr) (n fc : Nat) (f : List I) (ca : Option Addr) (m cc : Nat) (cut : List Bool) (w : World) (hf : FunAt w (.slice fa n fc) f) (hc : RowAt w (.slice ca m cc) (cut.map .bool)) (hr : (chkF f).2 = 0) :
    Calls Tryz.prog 18 #[.slice fa n fc, .slice ca m cc] w fun e w' => ∃ kt ct vn, e = .returned (.agg #[.int .i64 (sklA f cut).entry.1, .slice (some ⟨kt, 0, none⟩) 24 ct, vn]) ∧ Sep w w' [tabA kt (sklA f cut).entry.2, rnodesO vn (sklA f cut).nodes] := by
  have HF := Lib.hid hf
  have HC := Lib.hid hc
  have HR := Lib.hid hr
  have HI0 : Hid (InF f 0) := Lib.hid ⟨hr, Int.le_refl 0, by have := (right_iff.mp hr).2.1; omega⟩
  have HN2 : Hid ((nodesA f cut).length ≤ 200) := Lib.hid (Nat.le_trans (nds_len (nodes_nds hr cut)) (chk_len hr))
  obtain ⟨E, HE⟩ : ∃ E, Hid ((sklA f cut).entry = E) := ⟨_, Lib.hid rfl⟩
  have HE0 : Hid (wyA f (nodesA f cut) 0 = E) := Lib.hid (by rw [← HE.out]; rfl)
  have HE1 : Hid ((wyA f (nodesA f cut) 0).1 = E.1) := Lib.hid (by rw [HE0.out])
  have HE2 : Hid (tblA f 0 = E.2) := Lib.hid (by rw [← HE0.out]; rfl)
  have HS := Lib.hid (Sep.start w)
  obtain ⟨N, HN⟩ : ∃ N, Hid ((nodesA f cut).length = N) := ⟨_, Lib.hid rfl⟩
  rw [HN.out] at HN2
  have hN2 := HN2.out
  rw [HE.out]
  have T1 : Hid True := Lib.hid trivial
  have T2 : Hid True := Lib.hid trivial
  have T3 : Hid True := Lib.hid trivial
  have T4 : Hid True := Lib.hid trivial
  have T5 : Hid True := Lib.hid trivial
  have T6 : Hid True := Lib.hid trivial
  clear hf hc hr
  go_enter Tryz.func18, Tryz.ntmps18
  go_wp2_with (first
    | (clear T1; refine wpList_alB rfl 70 rfl _ zeroRs_run10 _ rfl HS.out ?_; intro wa g4 hs; replace HS := Lib.hid hs; clear hs)
                        | (clear T2; go_at_call 39; refine (places_any fa n fc f ca m cc cut _ (HF.out.new HS.out.nw) (HC.out.new HS.out.nw) HR.out).mono ?_; rintro e wb ⟨pv, rfl, hs⟩; obtain ⟨pa, pc, hv⟩ := rowA_form hs.hd; rw [HN.out] at hv; subst hv; replace HS := Lib.hid (HS.out.call hs); clear hs)
                        | (clear T3; go_at_call 40; refine (way_any (.slice fa n fc) f (.slice pa N pc) (nodesA f cut) 0 _ (HF.out.new HS.out.nw) (HS.out.rd 0 rfl) HI0.out (by rw [HN.out]; omega)).mono ?_; rw [HE1.out, HE2.out]; rintro e wc ⟨kt, ct, rfl, hs⟩; replace HS := Lib.hid ((HS.out.call hs).row0 112 2 rnodeE); clear hs)
                        | (clear T4; refine wpList_bd1 (a := .agg #[.int .i64 E.1, .slice (some ⟨kt, 0, none⟩) 24 ct]) rfl 70 0 (.tmp 16) rfl rfl (build_Rs _ _ _ _) ?_)
                        | (clear T5; refine wpList_alB rfl 70 rfl _ zeroRs_run10 _ rfl HS.out ?_; intro wd g6 hs; replace HS := Lib.hid hs; clear hs)
                        | (clear T6; refine wpList_stSW 0 rfl rfl 70 (.tmp 6) (.tmp 17) rfl g6 rfl _ rfl HS.out rfl (rsC E.1 (.slice (some ⟨kt, 0, none⟩) 24 ct) (.slice none 0 0)) rfl rfl (by simp [rsC, Value.oneCell']) infoRs ?_; intro we hs; replace HS := Lib.hid hs; clear hs))
  go_loopw [7] (fun iv wr => ∃ (k : Nat) (vn : Value), iv = .int .i64 (k : Int) ∧ k ≤ N ∧ Hid (Sep w wr [blk g6 70 (rsC E.1 (.slice (some ⟨kt, 0, none⟩) 24 ct) vn), rnodesO vn (xsDone f cut k), tabA kt E.2, intsA (.slice pa N pc) (nodesA f cut), blk g4 70 (rsC 0 (.slice none 0 0) (.slice none 0 0))])) (fun iv _ => N - (intOf iv).toNat)
  case atStart => exact ⟨0, .slice none 0 0, rfl, by omega, HS⟩
  case round =>
    obtain ⟨k, vn, rfl, hk, HT⟩ := hrel
    clear HS
    by_cases hkN : k < N
    · obtain ⟨pz, hpz⟩ : ∃ pz, (nodesA f cut)[k]? = some pz := ⟨_, List.getElem?_eq_getElem (by rw [HN.out]; exact hkN)⟩
      have hpn : InF f pz ∧ mvA f pz = false := (nodes_nds HR.out cut).inf pz (List.mem_of_getElem? hpz)
      obtain ⟨q, rfl⟩ : ∃ q : Nat, pz = (q : Int) := ⟨pz.toNat, by have := hpn.1.2.1; omega⟩
      have HPQ := Lib.hid hpn.1
      have HPM := Lib.hid hpn.2
      have HXS : Hid ((xsDone f cut k) ++ [((q : Int), outsOf f cut (q : Int))] = xsDone f cut (k + 1)) := Lib.hid (by unfold xsDone; rw [List.take_add_one, hpz, Option.toList_some, List.map_append]; rfl)
      obtain ⟨b0, o0, hix, hrg⟩ := leaf_ix (P := Tryz.prog) (HT.out.rd 3 rfl) 107 Tryz.underlying107 sizeInt hpz
      have c0 := hrg _ (New.refl _) 0 _ rfl
      rw [Nat.add_zero] at c0
      have HPZ := Lib.hid hpz
      have HLK : Hid ((xsDone f cut k).length ≤ 100000) := Lib.hid (by unfold xsDone; rw [List.length_map, List.length_take]; omega)
      have U1 : Hid True := Lib.hid trivial
      have U2 : Hid True := Lib.hid trivial
      have U3 : Hid True := Lib.hid trivial
      have U4 : Hid True := Lib.hid trivial
      clear hpz hpn hrg
      go_wp2_with (first
        | (clear U1; refine wpList_bd1 (a := .int .i64 (q : Int)) rfl 112 0 (.tmp 27) rfl rfl (build_Rnd _) ?_)
                        | (clear U2; refine wpList_alB rfl 112 rfl _ zeroRnd_run _ rfl HT.out ?_; intro w1 g8 hs; replace HT := Lib.hid hs; clear hs)
                        | (clear U3; refine wpList_stSW 0 rfl rfl 112 (.tmp 8) (.tmp 28) rfl g8 rfl _ rfl HT.out rfl (roC (q : Int) (.slice none 0 0)) rfl rfl (by simp [roC, Value.oneCell']) infoRnd ?_; intro w2 hs; replace HT := Lib.hid hs; obtain ⟨b9, o9, hix9, hrg9⟩ := leaf_ix (P := Tryz.prog) (HT.out.rd 4 rfl) 107 Tryz.underlying107 sizeInt HPZ.out; have c9 := hrg9 _ (New.refl _) 0 _ rfl; rw [Nat.add_zero] at c9; clear hs c0 hix hrg9)
                        | (clear U4; go_at_call 41; refine (froms_any fa n fc f ca m cc cut q _ (HF.out.new HT.out.nw) (HC.out.new HT.out.nw) HPQ.out).mono ?_; rintro e w3 ⟨vi, rfl, hs⟩; obtain ⟨ia, ic, hvi⟩ := rowA_form (hs.rd 0 rfl); obtain ⟨JJ, HJ⟩ : ∃ JJ, Hid ((fromsA f cut (q : Int)).length = JJ) := ⟨_, Lib.hid rfl⟩; rw [HJ.out] at hvi; subst hvi; replace HT := Lib.hid ((HT.out.call hs).pull 1 rfl); clear hs c9 hix9))
      have hJ2 : JJ ≤ 2 := by rw [← HJ.out]; unfold fromsA; split <;> (try split) <;> simp
      go_loopw [10] (fun jv wr => ∃ (j : Nat) (vo : Value), jv = .int .i64 (j : Int) ∧ j ≤ JJ ∧ Hid (Sep w wr [blk g8 112 (roC (q : Int) vo), routsO vo (((fromsA f cut (q : Int)).take j).map (wyA f (nodesA f cut))), intsA (.slice ia JJ ic) (fromsA f cut (q : Int)), blk g6 70 (rsC E.1 (.slice (some ⟨kt, 0, none⟩) 24 ct) vn), rnodesO vn (xsDone f cut k), tabA kt E.2, intsA (.slice pa N pc) (nodesA f cut), blk g4 70 (rsC 0 (.slice none 0 0) (.slice none 0 0))])) (fun jv _ => JJ - (intOf jv).toNat)
      case atStart => exact ⟨0, .slice none 0 0, rfl, by omega, Lib.hid (((HT.out.row0 67 2 routE).pull 1 rfl))⟩
      case round =>
        obtain ⟨j, vo, rfl, hj, HU⟩ := hrel
        clear HT
        by_cases hjJ : j < JJ
        · obtain ⟨r, hrj⟩ : ∃ r, (fromsA f cut (q : Int))[j]? = some r := ⟨_, List.getElem?_eq_getElem (by rw [HJ.out]; exact hjJ)⟩
          have HIR : Hid (InF f r) := Lib.hid (froms_in HPQ.out HPM.out r (List.mem_of_getElem? hrj))
          have htk : (fromsA f cut (q : Int)).take (j + 1) = (fromsA f cut (q : Int)).take j ++ [r] := by rw [List.take_add_one, hrj]; rfl
          have HO : Hid (((fromsA f cut (q : Int)).take j).map (wyA f (nodesA f cut)) ++ [((wyA f (nodesA f cut) r).1, tblA f r)] = ((fromsA f cut (q : Int)).take (j + 1)).map (wyA f (nodesA f cut))) := Lib.hid (by rw [htk, List.map_append]; rfl)
          have HLO : Hid ((((fromsA f cut (q : Int)).take j).map (wyA f (nodesA f cut))).length ≤ 100000) := Lib.hid (by
            rw [List.length_map, List.length_take]
            omega)
          obtain ⟨lb, lc, cz, hvi, _⟩ := rowA_at (HU.out.rd 2 rfl) hrj
          rw [HJ.out] at hvi
          simp only [Value.slice.injEq, true_and] at hvi
          obtain ⟨rfl, rfl⟩ := hvi
          have hx1 := leaf_rg (HU.out.rd 2 rfl) hrj 0 _ rfl
          rw [Nat.add_zero] at hx1
          obtain ⟨oa, oc, hvo⟩ := rowA_form (HU.out.rd 1 rfl)
          obtain ⟨M, HM⟩ : ∃ M, Hid ((((fromsA f cut (q : Int)).take j).map (wyA f (nodesA f cut))).length = M) := ⟨_, Lib.hid rfl⟩
          rw [HM.out] at hvo
          subst hvo
          obtain ⟨ix, HX⟩ : ∃ ix : Int, Hid ((wyA f (nodesA f cut) r).1 = ix) := ⟨_, Lib.hid rfl⟩
          obtain ⟨tb, HTB⟩ : ∃ tb, Hid (tblA f r = tb) := ⟨_, Lib.hid rfl⟩
          rw [HX.out, HTB.out] at HO
          have HRJ := Lib.hid hrj
          clear htk hrj
          go_wp2_with fail
          have hS := HU.out.go ((New.refl wr).drew)
          have S0 : wr.drew.cell? ⟨g8, 1, none⟩ = some (.slice oa M oc) ∧ wr.drew.cell? ⟨lb, j * 1, none⟩ = some (.int .i64 r) := ⟨HU.out.cell 0 rfl (k := 1) rfl, hx1⟩
          have hix1 := fun w => ixRowB (P := Tryz.prog) Tryz.underlying107 sizeInt lb j JJ ic hjJ w
          refine wp_region_noPanic ?_
          refine region_late (k := 12) (S := fun w' => w'.cell? ⟨g8, 1, none⟩ = some (.slice oa M oc) ∧ w'.cell? ⟨lb, j * 1, none⟩ = some (.int .i64 r)) (by kernel_rfl) S0 (fun _ => ?_)
          refine late_take (i := 0) (v := .pointer (some ⟨g8, 1, none⟩)) rfl (by kernel_rfl) (by kernel_rfl) (by kernel_rfl) (by kernel_rfl) (fun _ _ _ h => h) (Or.inl ⟨rfl, fun _ _ => by go_simp⟩) S0 ?_
          simp only [List.getElem_toArray, List.getElem_cons_zero, Act.put, List.setIfInBounds_toArray, List.set_cons_zero, List.set_cons_succ]
          refine late_take (i := 1) (v := .slice oa M oc) rfl (by kernel_rfl) (by kernel_rfl) (by kernel_rfl) (by kernel_rfl) (fun _ _ _ h => h) (ldV_if rfl 110 Tryz.isAgg110 (.tmp 42) rfl ⟨g8, 1, none⟩ rfl (fun w' h => h.1)) S0 ?_
          simp only [List.getElem_toArray, List.getElem_cons_zero, List.getElem_cons_succ, Act.put, List.setIfInBounds_toArray, List.set_cons_zero, List.set_cons_succ]
          refine late_take (i := 2) (v := .slice fa n fc) rfl (by kernel_rfl) (by kernel_rfl) (by kernel_rfl) (by kernel_rfl) (fun _ _ _ h => h) (Or.inl ⟨rfl, fun _ _ => by go_simp⟩) S0 ?_
          simp only [List.getElem_toArray, List.getElem_cons_zero, List.getElem_cons_succ, Act.put, List.setIfInBounds_toArray, List.set_cons_zero, List.set_cons_succ]
          refine late_take (i := 3) (v := (.slice pa N pc)) rfl (by kernel_rfl) (by kernel_rfl) (by kernel_rfl) (by kernel_rfl) (fun _ _ _ h => h) (Or.inl ⟨rfl, fun _ _ => by go_simp⟩) S0 ?_
          simp only [List.getElem_toArray, List.getElem_cons_zero, List.getElem_cons_succ, Act.put, List.setIfInBounds_toArray, List.set_cons_zero, List.set_cons_succ]
          refine late_take (i := 4) (v := .slice (some ⟨lb, 0, none⟩) JJ ic) rfl (by kernel_rfl) (by kernel_rfl) (by kernel_rfl) (by kernel_rfl) (fun _ _ _ h => h) (Or.inl ⟨rfl, fun _ _ => by go_simp⟩) S0 ?_
          simp only [List.getElem_toArray, List.getElem_cons_zero, List.getElem_cons_succ, Act.put, List.setIfInBounds_toArray, List.set_cons_zero, List.set_cons_succ]
          refine late_take (i := 5) (v := .int .i64 (j : Int)) rfl (by kernel_rfl) (by kernel_rfl) (by kernel_rfl) (by kernel_rfl) (fun _ _ _ h => h) (Or.inl ⟨rfl, fun _ _ => by go_simp⟩) S0 ?_
          simp only [List.getElem_toArray, List.getElem_cons_zero, List.getElem_cons_succ, Act.put, List.setIfInBounds_toArray, List.set_cons_zero, List.set_cons_succ]
          refine late_take (i := 6) (v := .pointer (some ⟨lb, j * 1, none⟩)) rfl (by kernel_rfl) (by kernel_rfl) (by kernel_rfl) (by kernel_rfl) (fun _ _ _ h => h) (ixV_if rfl 107 (.tmp 46) (.tmp 47) rfl _ _ _ rfl rfl hix1) S0 ?_
          simp only [List.getElem_toArray, List.getElem_cons_zero, List.getElem_cons_succ, Act.put, List.setIfInBounds_toArray, List.set_cons_zero, List.set_cons_succ]
          refine late_take (i := 7) (v := .int .i64 r) rfl (by kernel_rfl) (by kernel_rfl) (by kernel_rfl) (by kernel_rfl) (fun _ _ _ h => h) (ldV_if rfl 3 Tryz.isAgg3 (.tmp 48) rfl ⟨lb, j * 1, none⟩ rfl (fun w' h => h.2)) S0 ?_
          simp only [List.getElem_toArray, List.getElem_cons_zero, List.getElem_cons_succ, Act.put, List.setIfInBounds_toArray, List.set_cons_zero, List.set_cons_succ]
          refine late_forced [8, 9, 10, 11, 12] _ _ _ (by kernel_rfl) ?_
          refine LL_call rfl rfl 40 #[.slice fa n fc, (.slice pa N pc), .int .i64 r] (by go_simp) ?_
          refine (way_any (.slice fa n fc) f (.slice pa N pc) (nodesA f cut) r _ (HF.out.new hS.nw) (hS.rd 6 rfl) HIR.out (by rw [HN.out]; omega)).mono ?_
          rw [HX.out, HTB.out]
          rintro e w2 ⟨kt2, ct2, rfl, hs⟩
          have N2 := hs.nw
          replace hS := hS.call hs
          have S1 : w2.cell? ⟨g8, 1, none⟩ = some (.slice oa M oc) ∧ w2.cell? ⟨lb, j * 1, none⟩ = some (.int .i64 r) := ⟨N2.cell' S0.1, N2.cell' S0.2⟩
          refine ⟨_, rfl, S1, ?_⟩
          simp only [List.getElem_toArray, List.getElem_cons_zero, List.getElem_cons_succ, Act.put, List.setIfInBounds_toArray, List.set_cons_zero, List.set_cons_succ]
          have hb := hS.new (g := w2.heap.size) (cs := roC ix (.slice (some ⟨kt2, 0, none⟩) 24 ct2)) (ty := 67) (alloc_new _ _) (Nat.le_refl _) (HasC.box w2 _ _)
          have hbl := hb.has 0 rfl
          refine LL_val rfl rfl (run_bsB 110 67 (.tmp 50) rfl Tryz.underlying110 infoRo3 (by decide) (by decide) (roC ix (.slice (some ⟨kt2, 0, none⟩) 24 ct2)) (.agg #[.int .i64 ix, .slice (some ⟨kt2, 0, none⟩) 24 ct2]) rfl rfl rfl) ⟨(alloc_new _ _).cell' S1.1, (alloc_new _ _).cell' S1.2⟩ ?_
          simp only [List.getElem_toArray, List.getElem_cons_zero, List.getElem_cons_succ, Act.put, List.setIfInBounds_toArray, List.set_cons_zero, List.set_cons_succ]
          generalize w2.alloc (.cells (roC ix (.slice (some ⟨kt2, 0, none⟩) 24 ct2)).toArray 67) = w3 at hb hbl ⊢
          obtain ⟨v', w4, hr, hd⟩ := run_appA (ty := 110) (P := Tryz.prog) (T := 110) (e := 67) Tryz.underlying110 infoRo3 rfl (by decide) (by decide) (E := routE) (y := (ix, tb)) (cs := roC ix (.slice (some ⟨kt2, 0, none⟩) 24 ct2)) (((hb.pull 3 rfl).pull 2 rfl).rout ix ct2) HLO.out hbl rfl (by simp [roC, Value.oneCell'])
          rw [HO.out] at hd
          obtain ⟨oa', oc', hv'⟩ := rowA_form (hd.rd 0 rfl)
          obtain ⟨M2, HM2⟩ : ∃ M2, Hid ((((fromsA f cut (q : Int)).take (j + 1)).map (wyA f (nodesA f cut))).length = M2) := ⟨_, Lib.hid rfl⟩
          rw [HM2.out] at hv'
          have S2 : w4.cell? ⟨g8, 1, none⟩ = some (.slice oa M oc) ∧ w4.cell? ⟨lb, j * 1, none⟩ = some (.int .i64 r) := ⟨hd.cell 2 rfl (k := 1) rfl, by have := leaf_rg (hd.rd 3 rfl) HRJ.out 0 _ rfl; rw [Nat.add_zero] at this; exact this⟩
          refine LL_val rfl rfl (run_appO (.tmp 43) (.tmp 51) 110 rfl rfl rfl hr) S2 ?_
          simp only [List.getElem_toArray, List.getElem_cons_zero, List.getElem_cons_succ, Act.put, List.setIfInBounds_toArray, List.set_cons_zero, List.set_cons_succ]
          refine LL_val (v := .pointer (some ⟨g8, 1, none⟩)) rfl rfl (by unfold execOp; simp only [Act.eval]; go_simp) S2 ?_
          simp only [List.getElem_toArray, List.getElem_cons_zero, List.getElem_cons_succ, Act.put, List.setIfInBounds_toArray, List.set_cons_zero, List.set_cons_succ]
          subst hv'
          have hst : (Instr.storeAt 110 (.pointer (some ⟨g8, 1, none⟩)) (.slice oa' M2 oc')).run Tryz.prog w4 = .ok () (putO w4 g8 (.cells (roC (q : Int) (.slice oa' M2 oc')).toArray 112 (0, 0))) := HasC.store (hd.has 2 rfl) 1 [.slice oa' M2 oc'] 110 (.slice oa' M2 oc') rfl (by simp [roC]) (by simp [Value.oneCell']) infoRos1
          refine LL_skip rfl rfl rfl (run_stO 110 (.tmp 53) (.tmp 52) rfl rfl rfl hst) (fun h => absurd rfl h) ?_
          have hfin := hd.setAt 2 rfl (Kept.put w4 g8 (.cells (roC (q : Int) (.slice oa' M2 oc')).toArray 112 (0, 0))) (HasC.put (hd.has 2 rfl) _)
          clear hst
          generalize putO w4 g8 (.cells (roC (q : Int) (.slice oa' M2 oc')).toArray 112 (0, 0)) = w5 at hfin ⊢
          have HV := Lib.hid ((hfin.dropAt 1 (by simp)).pull 1 rfl)
          refine NoPanic.normal ?_
          clear hfin hd hr hb hbl hS hx1 HU hix1 S0 S1 S2 hs N2
          go_wp2
          go_roundw
          case rel => exact ⟨j + 1, _, by go_num, by omega, HV⟩
          case measure => simp [intOf]; omega
        · have hjJ' : j = JJ := by omega
          have HFR : Hid ((fromsA f cut (q : Int)).take j = fromsA f cut (q : Int)) := Lib.hid (List.take_of_length_le (by rw [HJ.out]; omega))
          rw [HFR.out] at HU
          have HV : Hid (Sep w wr [blk g8 112 (roC (q : Int) vo), routsO vo (outsOf f cut (q : Int)), intsA (.slice ia JJ ic) (fromsA f cut (q : Int)), blk g6 70 (rsC E.1 (.slice (some ⟨kt, 0, none⟩) 24 ct) vn), rnodesO vn (xsDone f cut k), tabA kt E.2, intsA (.slice pa N pc) (nodesA f cut), blk g4 70 (rsC 0 (.slice none 0 0) (.slice none 0 0))]) := HU
          obtain ⟨oa, oc, hvo⟩ := rowA_form (HV.out.rd 1 rfl)
          rw [show (outsOf f cut (q : Int)).length = JJ by unfold outsOf; rw [List.length_map, HJ.out]] at hvo
          subst hvo
          obtain ⟨va, vc, hvn⟩ := rowA_form (HV.out.rd 4 rfl)
          obtain ⟨M, HM⟩ : ∃ M, Hid ((xsDone f cut k).length = M) := ⟨_, Lib.hid rfl⟩
          rw [HM.out] at hvn
          subst hvn
          have cn := HV.out.cell 3 rfl (k := 2) rfl
          have U1 : Hid True := Lib.hid trivial
          have U2 : Hid True := Lib.hid trivial
          have U3 : Hid True := Lib.hid trivial
          have U4 : Hid True := Lib.hid trivial
          clear HU
          go_wp2_with (first
            | (clear U1; refine wpList_load_mid rfl 112 (.tmp 8) rfl g8 0 rfl (roC (q : Int) (.slice oa JJ oc)) _ (HasC.all (HV.out.has 0 rfl)) Tryz.underlying112 rfl infoRnd ?_)
            | (clear U2; refine wpList_bsB rfl 68 112 (.tmp 56) rfl Tryz.underlying68 infoRnd3 (by decide) (by decide) (roC (q : Int) (.slice oa JJ oc)) _ rfl rfl rfl HV.out ?_; intro w5 b hs; have HB := Lib.hid (hs.has 0 rfl); replace HV := Lib.hid ((hs.pull 2 rfl).rnode (q : Int)); clear hs cn)
            | (at_builtin; clear U3; refine wpList_appI 4 rfl (.tmp 55) (.tmp 57) 68 112 rfl Tryz.underlying68 infoRnd3 rfl (by decide) (by decide) (E := rnodeE) (y := ((q : Int), outsOf f cut (q : Int))) (cs := roC (q : Int) (.slice oa JJ oc)) HV.out rfl HLK.out rfl rfl HB.out rfl (by simp [roC, Value.oneCell']) ?_; intro v2 w6 hs; rw [HXS.out] at hs; obtain ⟨va2, vc2, hv2⟩ := rowA_form (hs.rd 4 rfl); obtain ⟨M2, HM2⟩ : ∃ M2, Hid ((xsDone f cut (k + 1)).length = M2) := ⟨_, Lib.hid rfl⟩; rw [HM2.out] at hv2; subst hv2; replace HV := Lib.hid hs; clear hs)
            | (clear U4; refine wpList_stC1 3 rfl rfl 68 (.tmp 59) (.tmp 58) rfl g6 2 rfl (.slice va2 M2 vc2) rfl HV.out rfl rfl (by simp [rsC]) rfl infoRns1 ?_; intro w7 hs; replace HV := Lib.hid hs.drop.drop.drop; clear hs))
          go_roundw
          case rel => exact ⟨k + 1, _, by go_num, by omega, HV⟩
          case measure => simp [intOf]; omega
    · have HXD : Hid (xsDone f cut k = (sklA f cut).nodes) := Lib.hid (by unfold xsDone; rw [List.take_of_length_le (by rw [HN.out]; omega)]; rfl)
      rw [HXD.out] at HT
      have U1 : Hid True := Lib.hid trivial
      have U2 : Hid True := Lib.hid trivial
      obtain ⟨va, vc, hvn⟩ := rowA_form (HT.out.rd 1 rfl)
      subst hvn
      go_wp2_with (first
        | (clear U1; refine wpList_load_mid rfl 70 (.tmp 6) rfl g6 0 rfl (rsC E.1 (.slice (some ⟨kt, 0, none⟩) 24 ct) (.slice va (sklA f cut).nodes.length vc)) _ (HasC.all (HT.out.has 0 rfl)) Tryz.underlying70 rfl infoRs ?_)
        | (clear U2; refine wpList_stSW 4 rfl rfl 70 (.tmp 4) (.tmp 60) rfl g4 rfl _ rfl HT.out rfl (rsC E.1 (.slice (some ⟨kt, 0, none⟩) 24 ct) (.slice va (sklA f cut).nodes.length vc)) rfl rfl (by simp [rsC, Value.oneCell']) infoRs ?_; intro w5 hs; replace HT := Lib.hid hs; clear hs))
      exact bodyPost_ret (resRs _ rfl _ _ g4 _ _ _ rfl (HT.out.has 4 rfl)) rfl ⟨kt, ct, _, rfl, ((HT.out.drop.pull 1 rfl).dropAt 3 (by simp)).dropAt 2 (by simp)⟩
end Go.Proofs.YtlmnodbhfpgplaaGreatDoor
