/-
  Layer 10: the contract of skel.Build where the function is right.
-/
import Derived.Test.YtlmnodbhfpgplaaGreatDoorSkelLay
import Derived.Test.YtlmnodbhfpgplaaGreatDoorSkelPlan
import Derived.Test.YtlmnodbhfpgplaaGreatDoorHeld
namespace Go.Proofs.YtlmnodbhfpgplaaGreatDoor
open Go.RowKit

theorem lay_is (fv : Value) (f : List I) (p : Int) (gm mo gs gf : Nat) (ps ps' : List Int) (o o' : Wyo) (v : Value) (xs xs' : List (Int × List Wyo)) {w1 w0 w : World} {l : List Asn} (hl : Laid w1) (h1 : New w1 w0) (hf : FunAt w1 fv f) (hi : InF f p) (hps : xs.map (·.1) = ps) (hx : xs.length ≤ 100000) (hG : growA f ps p = ps') (hX : xs ++ addN f ps p = xs') (hW : wyA f ps' p = o')
    (hs : Sep w0 w (blk gm 100 [.map (some mo)] :: objA mo (mpO ps) :: blk gs 61 (skC o v) :: nodesO v xs :: blk gf 22 [fv] :: l)) :
    Calls Tryz.prog 34 #[.int .i64 p, .pointer (some ⟨gf, 0, none⟩), .pointer (some ⟨gm, 0, none⟩), .pointer (some ⟨gs, 0, none⟩)] w fun e w' => ∃ v', e = .returned (.agg (outK o').toArray) ∧
      Sep w0 w' (blk gm 100 [.map (some mo)] :: objA mo (mpO ps') :: blk gs 61 (skC o v') :: nodesO v' xs' :: blk gf 22 [fv] :: l) := by
  subst hG hX hW
  have hlen : ps.length = xs.length := by rw [← hps, List.length_map]
  unfold growA addN wyA
  by_cases hc : 0 ≤ toA f p ∧ toA f p ∉ ps
  · rw [if_pos hc, if_pos hc, if_neg (show ¬ toA f p < 0 by omega), idx_new hc.2, hlen]
    exact lay_new fv f p gm mo gs gf ps o v xs hl h1 hf hi hc.1 hc.2 hlen hx hs
  · rw [if_neg hc, if_neg hc, List.append_nil]
    rcases Int.lt_or_le (toA f p) 0 with ht | ht
    · rw [if_pos ht]
      exact (lay_no fv f p gm mo gs gf ps o v xs hl h1 hf hi ht hs).mono fun _ _ h => ⟨v, h⟩
    · rw [if_neg (show ¬ toA f p < 0 by omega)]
      exact (lay_met fv f p gm mo gs gf ps o v xs hl h1 hf hi ht (Classical.byContradiction fun hm => hc ⟨ht, hm⟩) hs).mono fun _ _ h => ⟨v, h⟩
theorem first_is (f : List I) : growA f [] 0 = firstA f := by
  unfold growA firstA
  by_cases h : 0 ≤ toA f 0
  · rw [if_pos ⟨h, by simp⟩, if_pos h]
    rfl
  · rw [if_neg fun e => h e.1, if_neg h]
theorem zeroSk_run (w : World) : (zeroValue 61).run Tryz.prog w = .ok (.agg (skC (0, noT) (.slice none 0 0)).toArray) w := Tryz.zeroValue61 w
theorem skC_one (o : Wyo) {v : Value} (hv : v.oneCell' = true) : ∀ c ∈ skC o v, c.oneCell' = true := by
  intro c hc
  unfold skC at hc
  rw [List.mem_append] at hc
  rcases hc with hc | hc
  · exact outK_one o c hc
  · simp only [List.mem_cons, List.not_mem_nil, or_false] at hc
    rw [hc]
    exact hv
theorem skC_ent (o o' : Wyo) (v : Value) : (skC o v).take 0 ++ outK o' ++ (skC o v).drop (0 + (outK o').length) = skC o' v := by
  unfold skC
  rw [List.take_zero, List.nil_append, outK_len, Nat.zero_add, List.drop_append, List.drop_of_length_le (by rw [outK_len]; omega), outK_len, List.nil_append]
  rfl
theorem wpList_mkM {ops : Array Oper} {rest : List Oper} {op : Oper} {act : Act} {w0 w : World} {Q : Exit → Act → World → Prop} {l : List Asn} (hgd : op.guard = none) (t : TypeId) (ho : op.op = .makeMap t none) (h : Sep w0 w l)
    (hk : ∀ w' g, Sep w0 w' (objA g (mpO []) :: l) → wpList Tryz.prog ops Q rest (act.put op.dst (.map (some g))) w') : wpList Tryz.prog ops Q (op :: rest) act w :=
  wpList_val hgd (v := .map (some w.heap.size)) (w' := w.alloc (.map #[] 0)) (by unfold execOp; simp only [ho, Option.map_none, run_makeMap, Sem.run_bind, Sem.run_pure, Result.andThen_ok]) (hk _ _ (h.newO (alloc_new _ _) (Nat.le_refl _) (heap_alloc_new _ _)))
theorem infoMp : (Tryz.prog.info? 100).map (·.size) = some 1 := by kernel_rfl
theorem zeroMp_run (w : World) : (zeroValue 100).run Tryz.prog w = .ok (.map none) w := Tryz.zeroValue100 w
theorem infoOs : (Tryz.prog.info? 94).map (·.size) = some 1 := by kernel_rfl
theorem infoO3 : (Tryz.prog.info? 58).map (fun i => (i.zero, i.size, i.bytes)) = some (some (.agg (outK (0, noT)).toArray), 25, 392) := by kernel_rfl
theorem ixRow {P : Program} {T e : TypeId} {k : Nat} (hu : P.underlying T = some (.slice e)) (he : ∀ w, (sizeOf e).run P w = .ok k w) (b i n cap : Nat) (hi : i < n) (w : World) : (Instr.indexAt T (.slice (some ⟨b, 0, none⟩) n cap) (.int .i64 (i : Int))).run P w = .ok (.pointer (some ⟨b, i * k, none⟩)) w := by
  have ea : (⟨b, 0, none⟩ : Addr).add (i * k) = ⟨b, i * k, none⟩ := by rw [Addr.add_mid, Nat.zero_add]
  simp [Instr.indexAt, run_underlying hu, asIntOf, he, ea]
  intro
  omega
theorem sizeNd : ∀ w, (sizeOf 96).run Tryz.prog w = .ok 2 w := Tryz.sizeOf96
set_option maxHeartbeats 16000000 in
set_option maxRecDepth 100000 in
theorem build_in (fa : Option Addr) (n fc : Nat) (f : List I) (ca : Option Addr) (m cc : Nat) (cut : List Bool) (w : World) (hl : Laid w) (hf : FunAt w (.slice fa n fc) f) (hc : RowAt w (.slice ca m cc) (cut.map .bool)) (hr : (chkF f).2 = 0) :
    Calls Tryz.prog 15 #[.slice fa n fc, .slice ca m cc] w fun e w' => ∃ v, e = .returned (.tuple #[.agg (skC (sklA f cut).entry v).toArray, .int .i64 0]) ∧ Sep w w' [nodesO v (sklA f cut).nodes] := by
  have HL := Lib.hid hl
  have HF := Lib.hid hf
  have HC := Lib.hid hc
  have HR := Lib.hid hr
  have q1 : ((chkF f).2 == 0) = true := beq_of hr
  have HI0 : Hid (InF f 0) := Lib.hid ⟨hr, Int.le_refl 0, by have := (right_iff.mp hr).2.1; omega⟩
  have H200 : Hid (f.length ≤ 200) := Lib.hid (chk_len hr)
  have HML : ∀ k, Hid ((metA f cut k).length ≤ 200) := fun k => Lib.hid (Nat.le_trans (nds_len (met_nds hr cut k)) (chk_len hr))
  obtain ⟨E, HE⟩ : ∃ E, Hid ((sklA f cut).entry = E) := ⟨_, Lib.hid rfl⟩
  have HX0 : Hid ([] ++ addN f [] 0 = xsAt f cut 0 (metA f cut 0)) := Lib.hid ((grow_xs (cut := cut) (k := 0) (Nat.le_refl 0) (ps := []) 0).symm.trans (by rw [first_is]; rfl))
  have HE0 : Hid (wyA f (metA f cut 0) 0 = E) := Lib.hid (by
    obtain ⟨l, hl⟩ := met_nodes hr cut 0
    rw [← HE.out]
    show _ = wyA f (nodesA f cut) 0
    rw [hl]
    have := grow_at f [] 0
    rw [first_is] at this
    exact (wy_pre this).symm)
  have HS := Lib.hid (Sep.start w)
  rw [HE.out]
  clear hl hf hc hr
  have T1 : Hid True := Lib.hid trivial
  have T2 : Hid True := Lib.hid trivial
  have T3 : Hid True := Lib.hid trivial
  have T4 : Hid True := Lib.hid trivial
  have T5 : Hid True := Lib.hid trivial
  have T6 : Hid True := Lib.hid trivial
  have T7 : Hid True := Lib.hid trivial
  have T8 : Hid True := Lib.hid trivial
  have T9 : Hid True := Lib.hid trivial
  go_enter Tryz.func15, Tryz.ntmps15
  go_wp2_with (first
    | (clear T1; refine wpList_boxB rfl 22 (.tmp 0) rfl [.slice fa n fc] rfl HS.out ?_; intro wa gf hs; replace HS := Lib.hid hs; clear hs)
    | (clear T2; refine wpList_alB rfl 61 rfl _ zeroSk_run _ rfl HS.out ?_; intro wb gr hs; replace HS := Lib.hid hs; have cf := HS.out.cell 1 rfl (k := 0) rfl; clear hs)
    | (clear T3; go_at_call 22; refine (asmRight_any _ f _ (HL.out.new HS.out.nw) (HF.out.new HS.out.nw)).mono ?_; rw [q1]; rintro e wc ⟨rfl, hn⟩; replace HS := Lib.hid (((HS.out.go hn).pull 1 rfl).row0 96 2 nodeE); clear hn cf)
    | (clear T4; refine wpList_alB rfl 61 rfl _ zeroSk_run _ rfl HS.out ?_; intro wd gs hs; replace HS := Lib.hid hs; clear hs)
    | (clear T5; refine wpList_mkM rfl 100 rfl HS.out ?_; intro we mo hs; replace HS := Lib.hid hs; clear hs)
    | (clear T6; refine wpList_alB rfl 100 rfl _ zeroMp_run [.map none] rfl HS.out ?_; intro wf gm hs; replace HS := Lib.hid hs; clear hs)
    | (clear T7; refine wpList_stC1 0 rfl rfl 100 (.tmp 7) (.tmp 17) rfl gm 0 rfl (.map (some mo)) rfl HS.out rfl rfl (by simp) rfl infoMp ?_; intro wg hs; replace HS := Lib.hid hs; clear hs)
    | (clear T8; go_at_call 34; refine (lay_is (.slice fa n fc) f 0 gm mo gs gf [] (metA f cut 0) (0, noT) E (.slice none 0 0) [] (xsAt f cut 0 (metA f cut 0)) HL.out (New.refl w) HF.out HI0.out rfl (by simp) (first_is f) HX0.out HE0.out HS.out).mono ?_; rintro e wh ⟨v0, rfl, hs⟩; replace HS := Lib.hid hs; clear hs)
    | (clear T9; refine wpList_stSp 2 rfl rfl 58 (.tmp 21) (.tmp 20) rfl gs 0 rfl _ rfl HS.out rfl (outK E) rfl (by rw [outK_len, skC_len]; omega) (outK_one _) (by rw [outK_len]; exact infoO) (skC_ent _ _ _) ?_; intro wi hs; replace HS := Lib.hid hs; clear hs))
  go_loopw [9] (fun nv wr => ∃ (k : Nat) (v : Value), nv = .int .i64 (k : Int) ∧ k ≤ 200 ∧ Hid (Sep w wr [blk gm 100 [.map (some mo)], objA mo (mpO (metA f cut k)), blk gs 61 (skC E v), nodesO v (xsAt f cut k (metA f cut k)), blk gf 22 [.slice fa n fc], blk gr 61 (skC (0, noT) (.slice none 0 0))])) (fun nv _ => 201 - (intOf nv).toNat)
  case atStart => exact ⟨0, v0, rfl, by omega, HS⟩
  case round =>
    obtain ⟨k, v, rfl, hk, HT⟩ := hrel
    obtain ⟨na, nc, hv⟩ := rowA_form (HT.out.rd 3 rfl)
    rw [xs_len] at hv
    obtain ⟨L, HLn⟩ : ∃ L, Hid ((metA f cut k).length = L) := ⟨_, Lib.hid rfl⟩
    rw [HLn.out] at hv
    subst hv
    have cn := HT.out.cell 2 rfl (skC_nd _ _)
    by_cases hkl : k < L
    · have HKL : Hid (k < (metA f cut k).length) := Lib.hid (by rw [HLn.out]; exact hkl)
      obtain ⟨pz, hpz⟩ : ∃ pz, (metA f cut k)[k]? = some pz := ⟨_, List.getElem?_eq_getElem HKL.out⟩
      have hpn : InF f pz ∧ mvA f pz = false := (met_nds HR.out cut k).inf pz (List.mem_of_getElem? hpz)
      obtain ⟨q, rfl⟩ : ∃ q : Nat, pz = (q : Int) := ⟨pz.toNat, by have := hpn.1.2.1; omega⟩
      have HPQ := Lib.hid hpn.1
      have HPM := Lib.hid hpn.2
      have HPZ := Lib.hid hpz
      have hgd : (metA f cut k).getD k 0 = (q : Int) := by rw [List.getD_eq_getElem?_getD, hpz]; rfl
      have HGD := Lib.hid hgd
      have hxk : (xsAt f cut k (metA f cut k))[k]? = some ((q : Int), []) := by rw [xs_at, hpz]; simp
      obtain ⟨b0, o0, c, hlc, hix, hrg, hEr⟩ := rowA_ix (P := Tryz.prog) (HT.out.rd 3 rfl) 59 Tryz.underlying59 sizeNd hxk
      obtain ⟨vo0, hc0⟩ : ∃ vo0, c = nodeC (q : Int) vo0 := by
        obtain ⟨_, ⟨vo0, _, _, h, _⟩, _⟩ := hEr
        exact ⟨vo0, h⟩
      subst hc0
      have HRG := Lib.hid hrg
      have CN := Lib.hid cn
      have CF := Lib.hid (HT.out.cell 4 rfl (k := 0) rfl)
      clear hpn hpz hgd hxk hrg hEr hlc
      go_wp2_with fail
      clear cn
      have S0 : Hid (New wr wr.drew) := Lib.hid ((New.refl wr).drew)
      refine wp_region_noPanic ?_
      refine wp_region_held_drew (S := fun w' => New wr w') (by kernel_rfl) S0.out (fun _ => ?_)
      refine wpAnyH_take (i := 0) (v := .slice fa n fc) rfl (by kernel_rfl) (by kernel_rfl) (by kernel_rfl) (fun _ _ _ h => h) (ldV_if rfl 22 Tryz.isAgg22 (.tmp 2) rfl ⟨gf, 0, none⟩ rfl (fun w' h => h.cell' CF.out)) S0.out ?_
      simp only [List.getElem_toArray, List.getElem_cons_zero, Act.put, List.setIfInBounds_toArray, List.set_cons_zero, List.set_cons_succ]
      refine wpAnyH_take (i := 1) (v := .slice ca m cc) rfl (by kernel_rfl) (by kernel_rfl) (by kernel_rfl) (fun _ _ _ h => h) (Or.inl ⟨rfl, fun _ _ => by go_simp⟩) S0.out ?_
      simp only [List.getElem_toArray, List.getElem_cons_zero, List.getElem_cons_succ, Act.put, List.setIfInBounds_toArray, List.set_cons_zero, List.set_cons_succ]
      refine wpAnyH_take (i := 2) (v := .pointer (some ⟨gs, 25, none⟩)) rfl (by kernel_rfl) (by kernel_rfl) (by kernel_rfl) (fun _ _ _ h => h) (Or.inl ⟨rfl, fun _ _ => by go_simp⟩) S0.out ?_
      simp only [List.getElem_toArray, List.getElem_cons_zero, List.getElem_cons_succ, Act.put, List.setIfInBounds_toArray, List.set_cons_zero, List.set_cons_succ]
      refine wpAnyH_take (i := 3) (v := .slice na L nc) rfl (by kernel_rfl) (by kernel_rfl) (by kernel_rfl) (fun _ _ _ h => h) (ldV_if rfl 59 Tryz.isAgg59 (.tmp 31) rfl ⟨gs, 25, none⟩ rfl (fun w' h => h.cell' CN.out)) S0.out ?_
      simp only [List.getElem_toArray, List.getElem_cons_zero, List.getElem_cons_succ, Act.put, List.setIfInBounds_toArray, List.set_cons_zero, List.set_cons_succ]
      refine wpAnyH_take (i := 4) (v := .int .i64 (k : Int)) rfl (by kernel_rfl) (by kernel_rfl) (by kernel_rfl) (fun _ _ _ h => h) (Or.inl ⟨rfl, fun _ _ => by go_simp⟩) S0.out ?_
      simp only [List.getElem_toArray, List.getElem_cons_zero, List.getElem_cons_succ, Act.put, List.setIfInBounds_toArray, List.set_cons_zero, List.set_cons_succ]
      refine wpAnyH_take (i := 5) (v := .pointer (some ⟨b0, o0, none⟩)) rfl (by kernel_rfl) (by kernel_rfl) (by kernel_rfl) (fun _ _ _ h => h) (ixV_if rfl 59 (.tmp 32) (.tmp 33) rfl _ _ _ rfl rfl hix) S0.out ?_
      simp only [List.getElem_toArray, List.getElem_cons_zero, List.getElem_cons_succ, Act.put, List.setIfInBounds_toArray, List.set_cons_zero, List.set_cons_succ]
      refine wpAnyH_take (i := 6) (v := .pointer (some ⟨b0, o0, none⟩)) rfl (by kernel_rfl) (by kernel_rfl) (by kernel_rfl) (fun _ _ _ h => h) (Or.inl ⟨rfl, fun _ _ => by go_simp⟩) S0.out ?_
      simp only [List.getElem_toArray, List.getElem_cons_zero, List.getElem_cons_succ, Act.put, List.setIfInBounds_toArray, List.set_cons_zero, List.set_cons_succ]
      refine wpAnyH_take (i := 7) (v := .int .i64 (q : Int)) rfl (by kernel_rfl) (by kernel_rfl) (by kernel_rfl) (fun _ _ _ h => h) (ldV_if rfl 3 Tryz.isAgg3 (.tmp 35) rfl ⟨b0, o0, none⟩ rfl (fun w' h => HRG.out w' h 0 _ rfl)) S0.out ?_
      simp only [List.getElem_toArray, List.getElem_cons_zero, List.getElem_cons_succ, Act.put, List.setIfInBounds_toArray, List.set_cons_zero, List.set_cons_succ]
      refine wpAnyH_take (i := 10) (v := .int .i64 0) rfl (by kernel_rfl) (by kernel_rfl) (by kernel_rfl) (fun _ _ _ h => h) (Or.inl ⟨rfl, fun _ _ => by go_simp⟩) S0.out ?_
      simp only [List.getElem_toArray, List.getElem_cons_zero, List.getElem_cons_succ, Act.put, List.setIfInBounds_toArray, List.set_cons_zero, List.set_cons_succ]
      refine wpAnyH_forced [8, 9] _ _ _ S0.out (by kernel_rfl) (by simp) ?_
      simp only [List.map_cons, List.map_nil, Array.getD_eq_getD_getElem?, List.getElem?_toArray, List.getElem?_cons_succ, List.getElem?_cons_zero, Option.getD_some]
      refine wpLS_call rfl 36 #[.slice fa n fc, .slice ca m cc, .int .i64 (q : Int)] (by go_simp) ?_
      refine (nexts_any fa n fc f ca m cc cut q _ (HF.out.new (HT.out.nw.trans S0.out)) (HC.out.new (HT.out.nw.trans S0.out)) HPQ.out).mono ?_
      rintro e w1 ⟨vi, rfl, hs⟩
      obtain ⟨ia, ic, hvi⟩ := rowA_form (hs.rd 0 rfl)
      obtain ⟨J, HJ⟩ : ∃ J, Hid ((fromsA f cut (q : Int)).length = J) := ⟨_, Lib.hid rfl⟩
      rw [HJ.out] at hvi
      subst hvi
      have hJ2 : J ≤ 2 := by rw [← HJ.out]; unfold fromsA; split <;> (try split) <;> simp
      have N1 := Lib.hid (S0.out.trans hs.nw)
      have HS := Lib.hid (((((((((HT.out.go S0.out).call hs).row0 58 25 (leafE outK)).pull 7 rfl).pull 7 rfl).pull 7 rfl).pull 7 rfl).pull 7 rfl).pull 7 rfl)
      clear hs HT
      refine ⟨_, rfl, N1.out, ?_⟩
      simp only [Act.put, List.setIfInBounds_toArray, List.set_cons_zero, List.set_cons_succ]
      refine wpLS_value rfl (.int .i64 (J : Int)) N1.out (by go_simp) ?_
      simp only [Act.put, List.setIfInBounds_toArray, List.set_cons_zero, List.set_cons_succ]
      refine wpLS_nil ?_
      refine NoPanic.normal ?_
      clear hix HRG CN CF
      go_wp2_with fail
      go_loopw [10, 39] (fun ov jv wj => ∃ (j : Nat) (vo v2 : Value), ov = vo ∧ jv = .int .i64 (j : Int) ∧ j ≤ J ∧ Hid (Sep w wj [blk gm 100 [.map (some mo)], objA mo (mpO (growsA f (metA f cut k) ((fromsA f cut (q : Int)).take j))), blk gs 61 (skC E v2), nodesO v2 (xsAt f cut k (growsA f (metA f cut k) ((fromsA f cut (q : Int)).take j))), blk gf 22 [.slice fa n fc], blk gr 61 (skC (0, noT) (.slice none 0 0)), outsA vo (((fromsA f cut (q : Int)).take j).map (wyA f (nodesA f cut))), intsA (.slice ia J ic) (fromsA f cut (q : Int))])) (fun _ jv _ => J - (intOf jv).toNat)
      case atStart => exact ⟨0, .slice none 0 0, _, rfl, rfl, by omega, HS⟩
      case round =>
        obtain ⟨j, vo, v2, rfl, rfl, hj, HU⟩ := hrel
        by_cases hjJ : j < J
        · obtain ⟨r, hrj⟩ : ∃ r, (fromsA f cut (q : Int))[j]? = some r := ⟨_, List.getElem?_eq_getElem (by rw [HJ.out]; exact hjJ)⟩
          have HIR : Hid (InF f r) := Lib.hid (froms_in HPQ.out HPM.out r (List.mem_of_getElem? hrj))
          have htk : (fromsA f cut (q : Int)).take (j + 1) = (fromsA f cut (q : Int)).take j ++ [r] := by rw [List.take_add_one, hrj]; rfl
          have HG : Hid (growA f (growsA f (metA f cut k) ((fromsA f cut (q : Int)).take j)) r = growsA f (metA f cut k) ((fromsA f cut (q : Int)).take (j + 1))) := Lib.hid (by rw [htk, grows_snoc])
          have HX : Hid (xsAt f cut k (growsA f (metA f cut k) ((fromsA f cut (q : Int)).take j)) ++ addN f (growsA f (metA f cut k) ((fromsA f cut (q : Int)).take j)) r = xsAt f cut k (growsA f (metA f cut k) ((fromsA f cut (q : Int)).take (j + 1)))) := Lib.hid (by
            rw [← HG.out]
            exact (grow_xs (Nat.le_trans (Nat.le_of_lt HKL.out) (grows_len _ _ _)) r).symm)
          have HW : Hid (wyA f (growsA f (metA f cut k) ((fromsA f cut (q : Int)).take (j + 1))) r = wyA f (nodesA f cut) r) := Lib.hid (by
            obtain ⟨l, hl⟩ := mid_pre HR.out HKL.out (j + 1)
            rw [HGD.out] at hl
            rw [hl]
            refine (wy_pre ?_).symm
            rw [← HG.out]
            exact grow_at f _ r)
          have HO : Hid (((fromsA f cut (q : Int)).take j).map (wyA f (nodesA f cut)) ++ [wyA f (nodesA f cut) r] = ((fromsA f cut (q : Int)).take (j + 1)).map (wyA f (nodesA f cut))) := Lib.hid (by rw [htk, List.map_append]; rfl)
          have HLE : Hid ((growsA f (metA f cut k) ((fromsA f cut (q : Int)).take j)).length ≤ 200) := Lib.hid (by
            obtain ⟨l, hl⟩ := mid_pre HR.out HKL.out j
            rw [HGD.out] at hl
            have h1 := nds_len (nodes_nds HR.out cut)
            rw [hl, List.length_append] at h1
            have := H200.out
            omega)
          have HLO : Hid ((((fromsA f cut (q : Int)).take j).map (wyA f (nodesA f cut))).length ≤ 100000) := Lib.hid (by
            rw [List.length_map, List.length_take]
            have h2 : (fromsA f cut (q : Int)).length ≤ 2 := by unfold fromsA; split <;> (try split) <;> simp
            omega)
          obtain ⟨o', HO'⟩ : ∃ o', Hid (wyA f (nodesA f cut) r = o') := ⟨_, Lib.hid rfl⟩
          rw [HO'.out] at HW HO
          obtain ⟨b1, o1, hix1, hrg1⟩ := leaf_ix (P := Tryz.prog) (HU.out.rd 7 rfl) 107 Tryz.underlying107 sizeInt hrj
          have c1 := hrg1 _ (New.refl _) 0 _ rfl
          rw [Nat.add_zero] at c1
          clear htk hrj hrg1
          have U1 : Hid True := Lib.hid trivial
          have U2 : Hid True := Lib.hid trivial
          have U3 : Hid True := Lib.hid trivial
          go_wp2_with (first
            | (clear U1; go_at_call 34; refine (lay_is (.slice fa n fc) f r gm mo gs gf _ _ E o' v2 _ _ HL.out (New.refl w) HF.out HIR.out xs_map (by rw [xs_len]; have := HLE.out; omega) HG.out HX.out HW.out HU.out).mono ?_; rintro e w2 ⟨v3, rfl, hs⟩; replace HU := Lib.hid hs; clear hs c1)
            | (clear U2; refine wpList_bsB rfl 94 58 (.tmp 46) rfl Tryz.underlying94 infoO3 (by decide) (by decide) (outK o') _ rfl rfl (outK_len o') HU.out ?_; intro w3 b hs; replace HU := Lib.hid hs; clear hs)
            | (at_builtin; clear U3; refine wpList_appL 7 rfl (.tmp 43) (.tmp 47) 94 58 rfl Tryz.underlying94 infoO3 (outK_len _) (by decide) (by decide) (mk := outK) (y := o') HU.out rfl HLO.out rfl rfl (HU.out.has 0 rfl) (outK_len o') (outK_one o') ?_; intro vo2 w4 hs; rw [HO.out] at hs; replace HU := Lib.hid hs.drop; clear hs))
          go_roundw
          case rel => exact ⟨j + 1, vo2, v3, rfl, by go_num, by omega, HU⟩
          case measure => simp [intOf]; omega
        · have hjJ' : j = J := by omega
          have HFR : Hid ((fromsA f cut (q : Int)).take j = fromsA f cut (q : Int)) := Lib.hid (List.take_of_length_le (by rw [HJ.out]; omega))
          have HG : Hid (growsA f (metA f cut k) (fromsA f cut (q : Int)) = metA f cut (k + 1)) := Lib.hid (by have := mid_end (f := f) (cut := cut) HKL.out; rw [HGD.out] at this; exact this)
          rw [HFR.out, HG.out] at HU
          have hpz2 : (metA f cut (k + 1))[k]? = some (q : Int) := by
            obtain ⟨l, hl⟩ := met_pre f cut k
            rw [hl, List.getElem?_append_left HKL.out]
            exact HPZ.out
          have hxk : (xsAt f cut k (metA f cut (k + 1)))[k]? = some ((q : Int), []) := by rw [xs_at, hpz2]; simp
          have HXS : Hid ((xsAt f cut k (metA f cut (k + 1))).set k ((q : Int), outsOf f cut (q : Int)) = xsAt f cut (k + 1) (metA f cut (k + 1))) := Lib.hid (xs_set hpz2)
          obtain ⟨oa, oc, hvo⟩ := rowA_form (HU.out.rd 6 rfl)
          rw [List.length_map, HJ.out] at hvo
          subst hvo
          obtain ⟨b2, c2, cs, hv2, hcl, _, hs⟩ := HU.out.openAt 3 rfl hxk
          rw [xs_len] at hv2
          obtain ⟨M, HM⟩ : ∃ M, Hid ((metA f cut (k + 1)).length = M) := ⟨_, Lib.hid rfl⟩
          have hkM : k < M := by rw [← HM.out]; exact some_lt hpz2
          rw [HM.out] at hv2
          subst hv2
          obtain ⟨vo1, hs⟩ := hs.un
          obtain ⟨hcs, hs⟩ := hs.split.said
          subst hcs
          replace HU := Lib.hid ((hs.drop.pull 6 rfl).node (q : Int))
          have cn := HU.out.cell 3 rfl (skC_nd _ _)
          have hix3 := ixRow (P := Tryz.prog) Tryz.underlying59 sizeNd b2 k M c2 hkM
          have U1 : Hid True := Lib.hid trivial
          clear hs hpz2 hxk hcl
          go_wp2_with (first
            | (clear U1; refine wpList_stEl 3 rfl rfl 94 (.tmp 55) (.tmp 53) rfl b2 k 1 rfl (.slice oa J oc) rfl (y := ((q : Int), outsOf f cut (q : Int))) (c := nodeC (q : Int) vo1) HU.out rfl rfl (by decide) rfl rfl rfl infoOs ?_; intro w5 hs; rw [HXS.out] at hs; replace HU := Lib.hid (hs.dropAt 6 (by simp)); clear hs cn hix3))
          go_roundw
          case rel => exact ⟨k + 1, _, by go_num, by have := (HML (k + 1)).out; have := HM.out; omega, HU⟩
          case measure => simp [intOf]; omega
    · have HK : Hid (metA f cut k = nodesA f cut) := Lib.hid (nodes_is HR.out cut (by rw [HLn.out]; omega))
      have HX : Hid (xsAt f cut k (metA f cut k) = (sklA f cut).nodes) := Lib.hid (by rw [xs_done (by rw [HLn.out]; omega), HK.out, skl_nodes])
      rw [HX.out] at HT
      have U1 : Hid True := Lib.hid trivial
      have U2 : Hid True := Lib.hid trivial
      go_wp2_with (first
        | (clear U1; refine wpList_load_mid rfl 61 (.tmp 6) rfl gs 0 rfl (skC E (.slice na L nc)) _ (HasC.all (HT.out.has 2 rfl)) Tryz.underlying61 rfl (by rw [skC_len]; exact infoSk) ?_)
        | (clear U2; refine wpList_stSW 5 rfl rfl 61 (.tmp 4) (.tmp 56) rfl gr rfl _ rfl HT.out rfl (skC E (.slice na L nc)) rfl (by rw [skC_len, skC_len]) (skC_one _ rfl) (by rw [skC_len]; exact infoSk) ?_; intro w5 hs; replace HT := Lib.hid hs; clear hs cn))
      exact bodyPost_ret (results_ct (p := 4) (u := 5) rfl _ _ gr _ (.int .i64 0) rfl (loadVar_C (HT.out.has 5 rfl) Tryz.underlying61 rfl (by rw [skC_len]; exact infoSk)) rfl) rfl ⟨_, rfl, (((((HT.out.drop.drop.drop).dropAt 1 (by simp)).dropAt 1 (by simp))))⟩
end Go.Proofs.YtlmnodbhfpgplaaGreatDoor
