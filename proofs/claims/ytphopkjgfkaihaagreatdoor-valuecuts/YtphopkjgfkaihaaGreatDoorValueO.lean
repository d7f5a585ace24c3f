/-
  Layer 11: the contract of the reference's Facts: of each number, and of nothing, what is said.
-/
import Derived.Test.YtphopkjgfkaihaaGreatDoorValueM
import Derived.Test.YtphopkjgfkaihaaGreatDoorValueN
namespace Go.Proofs.YtphopkjgfkaihaaGreatDoor
open Go.RowKit

def selfK : Kt := fun _ l => (4, (l : Int))
theorem tabK_more (N : Nat) (K : Kt) : tabK N K ++ [rowK K N] = tabK (N + 1) K := by unfold tabK; rw [List.range_succ, List.map_append]; rfl
def selfR (j : Nat) : List Sc := (List.range j).map fun l : Nat => ((4 : Int), (l : Int))
theorem selfR_more (j : Nat) : selfR j ++ [(4, (j : Int))] = selfR (j + 1) := by unfold selfR; rw [List.range_succ, List.map_append]; rfl
theorem selfR_len (j : Nat) : (selfR j).length = j := by simp [selfR]
def csN (ns : List Int) (i : Nat) : List Sc := (0, 0) :: (ns.take i).map fun v => (2, v)
theorem csN_more {ns : List Int} {i : Nat} {z : Int} (h : ns[i]? = some z) : csN ns i ++ [(2, z)] = csN ns (i + 1) := by
  unfold csN
  rw [List.take_add_one, h]
  simp
theorem csN_len {ns : List Int} {i : Nat} (h : i ≤ ns.length) : (csN ns i).length = i + 1 := by simp [csN, h]
theorem csN_isF {ns : List Int} {i : Nat} {c : Sc} (h : c ∈ csN ns i) : isF c := by
  unfold csN at h
  rcases List.mem_cons.mp h with e | e
  · exact .inl e
  · obtain ⟨v, _, rfl⟩ := List.mem_map.mp e
    exact .inr rfl
theorem csN_all {ns : List Int} {c : Sc} (h : c = (0, 0) ∨ c.1 = 2 ∧ c.2 ∈ ns) : c ∈ csN ns ns.length := by
  unfold csN
  rw [List.take_length]
  rcases h with h | ⟨h1, h2⟩
  · exact h ▸ List.mem_cons_self
  · refine List.mem_cons_of_mem _ (List.mem_map.mpr ⟨c.2, h2, ?_⟩)
    rw [← h1]
theorem ite_of {α : Type} {p q : Prop} [Decidable p] [Decidable q] (h : p ↔ q) (a b : α) : (if p then a else b) = if q then a else b := by
  by_cases hq : q
  · rw [if_pos (h.mpr hq), if_pos hq]
  · rw [if_neg (fun hp => hq (h.mp hp)), if_neg hq]
def KF (F : Kt) (cs : List Sc) : Kt := fun n l => if F n l ∈ cs then F n l else (4, (l : Int))
def markK (X : Bt) (c : Sc) (K : Kt) (p : Nat) : Kt := fun a b => if a * 24 + b < p ∧ X a b = true then c else K a b
theorem mark_0 (X : Bt) (c : Sc) (K : Kt) : markK X c K 0 = K := by
  unfold markK
  funext a b
  rw [if_neg (by omega)]
theorem mark_off {N : Nat} {X : Bt} (c : Sc) (K : Kt) {m l : Nat} (hl : l < 24) (h : X m l = false) : tabK N (markK X c K (m * 24 + (l + 1))) = tabK N (markK X c K (m * 24 + l)) := by
  refine tabK_eq fun a b _ hb => ?_
  unfold markK
  by_cases e : a = m ∧ b = l
  · rw [e.1, e.2, if_neg (by rw [h]; simp), if_neg (by rw [h]; simp)]
  · by_cases e2 : a * 24 + b < m * 24 + l
    · exact ite_of ⟨fun h => ⟨e2, h.2⟩, fun h => ⟨by omega, h.2⟩⟩ _ _
    · rw [if_neg (by omega), if_neg (by omega)]
theorem mark_on {N : Nat} {X : Bt} (c : Sc) (K : Kt) {m l : Nat} (hl : l < 24) (h : X m l = true) : tabK N (updK (markK X c K (m * 24 + l)) m l c) = tabK N (markK X c K (m * 24 + (l + 1))) := by
  refine tabK_eq fun a b _ hb => ?_
  by_cases e : a = m ∧ b = l
  · rw [e.1, e.2, upd_at]
    unfold markK
    rw [if_pos ⟨by omega, h⟩]
  · rw [upd_ne e]
    unfold markK
    by_cases e2 : a * 24 + b < m * 24 + l
    · exact ite_of ⟨fun h => ⟨by omega, h.2⟩, fun h => ⟨e2, h.2⟩⟩ _ _
    · rw [if_neg (by omega), if_neg (by omega)]
theorem mark_all {N : Nat} {X : Bt} {c : Sc} {F : Kt} {cs : List Sc} {i : Nat} (hc : cs[i]? = some c) (hX : ∀ n l, n < N → l < 24 → (X n l = true ↔ F n l = c)) : tabK N (markK X c (KF F (cs.take i)) (N * 24)) = tabK N (KF F (cs.take (i + 1))) := by
  refine tabK_eq fun a b ha hb => ?_
  unfold markK KF
  rw [List.take_add_one, hc]
  by_cases e : X a b = true
  · rw [if_pos ⟨by omega, e⟩, if_pos (by rw [(hX a b ha hb).mp e]; simp), (hX a b ha hb).mp e]
  · rw [if_neg (fun h => e h.2)]
    have h2 : F a b ≠ c := fun h => e ((hX a b ha hb).mpr h)
    exact ite_of (by simp [h2]) _ _
theorem facts_done {N : Nat} {F : Kt} {cs : List Sc} (h : ∀ n l, n < N → l < 24 → F n l = (4, (l : Int)) ∨ F n l ∈ cs) : tabK N (KF F cs) = tabK N F := by
  refine tabK_eq fun a b ha hb => ?_
  unfold KF
  rcases h a b ha hb with e | e
  · split
    · rfl
    · exact e.symm
  · rw [if_pos e]
set_option maxHeartbeats 16000000 in
set_option maxRecDepth 100000 in
theorem rfacts_any {fo : Option Addr} {n fc : Nat} {f : List I} {s : Skl} {kt ct : Nat} {na : Option Addr} {nc N : Nat} {F : Kt} {w : World} (h : RefS w s kt ct na nc N) (hf : FunAt w (.slice fo n fc) f) (hi : InS f s) (hn2 : n ≤ 1000)
    (ho : ∀ c n l, isF c → n < N → l < 24 → (HasFact f s c n l ↔ F n l = c)) (hv : ∀ n l, n < N → l < 24 → F n l = (4, (l : Int)) ∨ F n l = (0, 0) ∨ (F n l).1 = 2 ∧ NumOf f (F n l).2) :
    Calls Tryz.prog 21 #[.slice fo n fc, rsV s kt ct na nc N] w fun r w' => ∃ v, r = .returned v ∧ Sep w w' [factsO v (tabK N F)] := by
  have H := Lib.hid h
  have hN2 := h.l2
  have HF := Lib.hid hf
  have HI := Lib.hid hi
  have HO := Lib.hid ho
  have HVV := Lib.hid hv
  have HS := Lib.hid (Sep.start w)
  clear h hf hi ho hv
  have T1 : Hid True := Lib.hid trivial
  go_enter Tryz.func21, Tryz.ntmps21
  go_wp2_with (clear T1; refine wpList_boxB rfl 48 (.tmp 1) rfl (rsC s.entry.1 (.slice (some ⟨kt, 0, none⟩) 24 ct) (.slice na N nc)) rfl HS.out ?_; intro wa gb hs; replace HS := Lib.hid hs; clear hs)
  have N5 : Hid (New w wa) := Lib.hid HS.out.nw
  have B3 := Lib.hid (HS.out.has 0 rfl)
  have HS2 : Hid (Sep wa wa [factsO (.slice none 0 0) (tabK 0 selfK)]) := Lib.hid ((Sep.start wa).row0 58 1 (nest srcsO))
  clear HS
  go_loopw [5, 6] (fun sv nv wr => ∃ (k : Nat) (v : Value), v = sv ∧ nv = .int .i64 (k : Int) ∧ k ≤ N ∧ Hid (Sep wa wr [factsO v (tabK k selfK)])) (fun _ nv _ => N - (intOf nv).toNat)
  case atStart => exact ⟨0, _, rfl, rfl, by omega, HS2⟩
  case round =>
    obtain ⟨k, v, rfl, rfl, hk, HT⟩ := hrel
    clear HS2
    have cn := (HasC.new B3.out HT.out.nw).cell (k := 2) rfl
    by_cases hkN : k < N
    · go_wp2_with fail
      go_loopw [7, 8] (fun rv lv wq => ∃ (j : Nat) (u : Value), u = rv ∧ lv = .int .i64 (j : Int) ∧ j ≤ 24 ∧ Hid (Sep wa wq [srcsO u (selfR j), factsO v (tabK k selfK)])) (fun _ lv _ => 24 - (intOf lv).toNat)
      case atStart => exact ⟨0, _, rfl, rfl, by omega, Lib.hid (HT.out.row0 39 2 (leafE srcK))⟩
      case round =>
        obtain ⟨j, u, rfl, rfl, hj, HU⟩ := hrel
        clear HT cn
        by_cases hj24 : j < 24
        · obtain ⟨ua, uc, hu⟩ := rowA_form (HU.out.rd 0 rfl)
          rw [selfR_len] at hu
          subst hu
          have V1 : Hid True := Lib.hid trivial
          have V2 : Hid True := Lib.hid trivial
          have V3 : Hid True := Lib.hid trivial
          go_wp2_with (first
            | (clear V1; refine wpList_bd2 (a := .int .i64 4) (b := .int .i64 (j : Int)) rfl 39 0 1 (.const (.int .i64 4)) (.tmp 28) rfl rfl rfl (build_Sr2 4 (j : Int)) ?_)
            | (clear V2; refine wpList_bsB rfl 58 39 (.tmp 29) rfl Tryz.underlying58 infoSr3 (by decide) (by decide) (srcK (4, (j : Int))) _ rfl rfl rfl HU.out ?_; intro wc b hs; replace HU := Lib.hid hs; clear hs)
            | (at_builtin; clear V3; refine wpList_appL 1 rfl (.tmp 27) (.tmp 30) 58 39 rfl Tryz.underlying58 infoSr3 rfl (by decide) (by decide) (mk := srcK) (y := (4, (j : Int))) HU.out rfl (by rw [selfR_len]; omega) rfl rfl (HU.out.has 0 rfl) rfl (srcK_one _) ?_; intro v2 wy hs; rw [selfR_more] at hs; replace HU := Lib.hid hs.drop; clear hs))
          go_roundw
          case rel => exact ⟨j + 1, _, rfl, by go_num, by omega, HU⟩
          case measure => simp [intOf]; omega
        · obtain rfl : j = 24 := by omega
          obtain ⟨ra, rc, hu⟩ := rowA_form (HU.out.rd 0 rfl)
          rw [selfR_len] at hu
          subst hu
          have HUE : Hid (selfR 24 = rowK selfK k) := Lib.hid rfl
          rw [HUE.out] at HU
          obtain ⟨sa, sc, hv⟩ := rowA_form (HU.out.rd 1 rfl)
          rw [tabK_len] at hv
          subst hv
          have V1 : Hid True := Lib.hid trivial
          have V2 : Hid True := Lib.hid trivial
          go_wp2_with (first
            | (clear V1; refine wpList_bsB rfl 57 58 (.tmp 33) rfl Tryz.underlying57 infoSs3 (by decide) (by decide) [.slice ra 24 rc] _ rfl rfl rfl HU.out ?_; intro wc b hs; have HBB := Lib.hid (hs.has 0 rfl); replace HU := Lib.hid (Sep.nest (P := srcsO) (hs.drop)); clear hs)
            | (at_builtin; clear V2; refine wpList_appI 0 rfl (.tmp 32) (.tmp 34) 57 58 rfl Tryz.underlying57 infoSs3 rfl (by decide) (by decide) (E := nest srcsO) (y := rowK selfK k) (cs := [.slice ra 24 rc]) HU.out rfl (by rw [tabK_len]; omega) rfl rfl HBB.out rfl (by simp [Value.oneCell']) ?_; intro v2 wy hs; rw [tabK_more] at hs; replace HU := Lib.hid hs; clear hs))
          go_roundw
          case rel => exact ⟨k + 1, _, rfl, by go_num, by omega, HU⟩
          case measure => simp [intOf]; omega
    · obtain rfl : k = N := by omega
      obtain ⟨oa, oc, hv⟩ := rowA_form (HT.out.rd 0 rfl)
      rw [tabK_len] at hv
      subst hv
      have V1 : Hid True := Lib.hid trivial
      have V2 : Hid True := Lib.hid trivial
      have V3 : Hid True := Lib.hid trivial
      go_wp2_with (first
        | (clear V1; refine wpList_bd0 rfl 39 rfl build_Sr0 ?_)
        | (clear V2; refine wpList_bsB rfl 58 39 (.tmp 36) rfl Tryz.underlying58 infoSr3 (by decide) (by decide) (srcK (0, 0)) _ rfl rfl rfl HT.out ?_; intro wd b hs; replace HT := Lib.hid (blk_row (k := 2) (mk := srcK) (xs := [(0, 0)]) hs (fun _ => rfl) rfl rfl (by decide)); clear hs)
        | (clear V3; go_at_call 45; refine (numbers_any fo n fc f _ (HF.out.new (N5.out.trans HT.out.nw)) hn2).mono ?_; rintro r we ⟨vn, ns, rfl, hs, hnl, hnn⟩; replace HT := Lib.hid (HT.out.call hs); have HNL := Lib.hid hnl; have HNS := Lib.hid hnn; clear hs hnl hnn))
      obtain ⟨va, vc, hv⟩ := rowA_form (HT.out.rd 0 rfl)
      obtain ⟨C, HCL⟩ : ∃ C, Hid (ns.length = C) := ⟨_, Lib.hid rfl⟩
      have hCn : C ≤ n := by rw [← HCL.out]; exact HNL.out
      rw [HCL.out] at hv
      subst hv
      clear cn
      go_loopw [9, 11] (fun fv iv wr => ∃ (i : Nat) (u : Value), u = fv ∧ iv = .int .i64 (i : Int) ∧ i ≤ C ∧ Hid (Sep wa wr [numsO (.slice va C vc) ns, srcsO u (csN ns i), factsO (.slice oa k oc) (tabK k selfK)])) (fun _ iv _ => C - (intOf iv).toNat)
      case atStart => exact ⟨0, _, rfl, rfl, by omega, HT⟩
      case round =>
        clear HT
        obtain ⟨i, u, rfl, rfl, hi, HT⟩ := hrel
        have HiL : Hid (i ≤ ns.length) := Lib.hid (by rw [HCL.out]; exact hi)
        obtain ⟨ua, uc, hu⟩ := rowA_form (HT.out.rd 1 rfl)
        rw [csN_len HiL.out] at hu
        subst hu
        by_cases hiC : i < C
        · obtain ⟨z, hz⟩ : ∃ z, ns[i]? = some z := ⟨_, List.getElem?_eq_getElem (by rw [HCL.out]; exact hiC)⟩
          have HZ := Lib.hid hz
          obtain ⟨b2, o2, i2, r2⟩ := leaf_ix (P := Tryz.prog) (HT.out.rd 0 rfl) 67 Tryz.underlying67 sizeNum hz
          have y2 := r2 _ (New.refl _) 0 _ rfl
          rw [Nat.add_zero] at y2
          clear hz r2
          have V1 : Hid True := Lib.hid trivial
          have V2 : Hid True := Lib.hid trivial
          have V3 : Hid True := Lib.hid trivial
          go_wp2_with (first
            | (clear V1; refine wpList_bd2 (a := .int .i64 2) (b := .int .i64 z) rfl 39 0 1 (.const (.int .i64 2)) (.tmp 50) rfl rfl rfl (build_Sr2 2 z) ?_)
            | (clear V2; refine wpList_bsB rfl 58 39 (.tmp 51) rfl Tryz.underlying58 infoSr3 (by decide) (by decide) (srcK (2, z)) _ rfl rfl rfl HT.out ?_; intro wc b hs; replace HT := Lib.hid hs; clear hs)
            | (at_builtin; clear V3; refine wpList_appL 2 rfl (.tmp 46) (.tmp 52) 58 39 rfl Tryz.underlying58 infoSr3 rfl (by decide) (by decide) (mk := srcK) (y := (2, z)) HT.out rfl (by rw [csN_len HiL.out]; omega) rfl rfl (HT.out.has 0 rfl) rfl (srcK_one _) ?_; intro v2 wy hs; simp only [List.set_cons_succ, List.set_cons_zero] at hs; rw [csN_more HZ.out] at hs; replace HT := Lib.hid hs.drop; clear hs))
          go_roundw
          case rel => exact ⟨i + 1, _, rfl, by go_num, by omega, HT⟩
          case measure => simp [intOf]; omega
        · obtain rfl : i = C := by omega
          have HT0 := Lib.hid HT.out.drop
          have HCF : Hid (∀ c ∈ csN ns i, isF c) := Lib.hid fun c hc => csN_isF hc
          have HFD : Hid (tabK k (KF F (csN ns i)) = tabK k F) := Lib.hid (facts_done fun a b ha hb => (HVV.out a b ha hb).imp id fun h => by
            rw [← HCL.out]
            exact csN_all (h.imp id fun h => ⟨h.1, (HNS.out _).mpr h.2⟩))
          have hlen := csN_len HiL.out
          have HF0 : Hid (tabK k selfK = tabK k (KF F ((csN ns i).take 0))) := Lib.hid (tabK_eq fun a b _ _ => by unfold KF selfK; rw [List.take_zero, if_neg (by simp)])
          obtain ⟨cs, HCS⟩ : ∃ cs, Hid (csN ns i = cs) := ⟨_, Lib.hid rfl⟩
          rw [HCS.out] at HT0 HCF HFD hlen HF0
          rw [HF0.out] at HT0
          have HLN := Lib.hid hlen
          clear HT hlen HF0 HiL
          go_wp2_with fail
          go_loopw [12] (fun iv wr => ∃ q : Nat, iv = .int .i64 (q : Int) ∧ q ≤ i + 1 ∧ Hid (Sep wa wr [srcsO (.slice ua (i + 1) uc) cs, factsO (.slice oa k oc) (tabK k (KF F (cs.take q)))])) (fun iv _ => i + 1 - (intOf iv).toNat)
          case atStart => exact ⟨0, rfl, by omega, HT0⟩
          case round =>
            clear HT0
            obtain ⟨q, rfl, hq, HT⟩ := hrel
            by_cases hqi : q < i + 1
            · obtain ⟨c, hc⟩ : ∃ c, cs[q]? = some c := ⟨_, List.getElem?_eq_getElem (by rw [HLN.out]; exact hqi)⟩
              have HC := Lib.hid hc
              have HIF := Lib.hid (HCF.out c (List.mem_of_getElem? hc))
              obtain ⟨b1, o1, i1, r1⟩ := leaf_ix (P := Tryz.prog) (HT.out.rd 0 rfl) 58 Tryz.underlying58 sizeSr hc
              have HR1 := Lib.hid r1
              have B3r := Lib.hid (HasC.new B3.out HT.out.nw)
              clear hc r1
              go_wp2_with fail
              have S0 : New wr wr.drew := (New.refl wr).drew
              refine wp_region_noPanic ?_
              refine region_late (k := 7) (S := fun w' => New wr w') (by kernel_rfl) S0 (fun _ => ?_)
              refine late_take (i := 0) (v := .slice fo n fc) rfl (by kernel_rfl) (by kernel_rfl) (by kernel_rfl) (by kernel_rfl) (fun _ _ _ h => h) (Or.inl ⟨rfl, fun _ _ => by go_simp⟩) S0 ?_
              simp only [List.getElem_toArray, List.getElem_cons_zero, Act.put, List.setIfInBounds_toArray, List.set_cons_zero, List.set_cons_succ]
              refine late_take (i := 1) (v := rsV s kt ct na nc k) rfl (by kernel_rfl) (by kernel_rfl) (by kernel_rfl) (by kernel_rfl) (fun _ _ _ h => h) (yieldsIf_load_mid (by rfl) _ _ rfl gb 0 rfl (rsC s.entry.1 (.slice (some ⟨kt, 0, none⟩) 24 ct) (.slice na k nc)) _ (fun w' h => HasC.all (HasC.new B3r.out h)) Tryz.underlying48 rfl infoRs) S0 ?_
              simp only [List.getElem_toArray, List.getElem_cons_zero, List.getElem_cons_succ, Act.put, List.setIfInBounds_toArray, List.set_cons_zero, List.set_cons_succ]
              refine late_take (i := 2) (v := .slice ua (i + 1) uc) rfl (by kernel_rfl) (by kernel_rfl) (by kernel_rfl) (by kernel_rfl) (fun _ _ _ h => h) (Or.inl ⟨rfl, fun _ _ => by go_simp⟩) S0 ?_
              simp only [List.getElem_toArray, List.getElem_cons_zero, List.getElem_cons_succ, Act.put, List.setIfInBounds_toArray, List.set_cons_zero, List.set_cons_succ]
              refine late_take (i := 3) (v := .int .i64 (q : Int)) rfl (by kernel_rfl) (by kernel_rfl) (by kernel_rfl) (by kernel_rfl) (fun _ _ _ h => h) (Or.inl ⟨rfl, fun _ _ => by go_simp⟩) S0 ?_
              simp only [List.getElem_toArray, List.getElem_cons_zero, List.getElem_cons_succ, Act.put, List.setIfInBounds_toArray, List.set_cons_zero, List.set_cons_succ]
              refine late_take (i := 4) (v := .pointer (some ⟨b1, o1, none⟩)) rfl (by kernel_rfl) (by kernel_rfl) (by kernel_rfl) (by kernel_rfl) (fun _ _ _ h => h) (ixV_if rfl 58 (.tmp 62) (.tmp 63) rfl _ _ _ rfl rfl i1) S0 ?_
              simp only [List.getElem_toArray, List.getElem_cons_zero, List.getElem_cons_succ, Act.put, List.setIfInBounds_toArray, List.set_cons_zero, List.set_cons_succ]
              refine late_take (i := 5) (v := .agg #[.int .i64 c.1, .int .i64 c.2]) rfl (by kernel_rfl) (by kernel_rfl) (by kernel_rfl) (by kernel_rfl) (fun _ _ _ h => h) (yieldsIf_load_mid (by rfl) _ _ rfl b1 o1 rfl (srcK c) _ (fun w' h => HR1.out _ h) Tryz.underlying39 rfl infoSr) S0 ?_
              simp only [List.getElem_toArray, List.getElem_cons_zero, List.getElem_cons_succ, Act.put, List.setIfInBounds_toArray, List.set_cons_zero, List.set_cons_succ]
              refine late_forced [6, 7] _ _ _ (by kernel_rfl) ?_
              refine LL_call rfl rfl 46 #[.slice fo n fc, rsV s kt ct na nc k, .agg #[.int .i64 c.1, .int .i64 c.2]] (by go_simp) ?_
              refine (said_any c (H.out.new (N5.out.trans (HT.out.nw.trans S0))) (HF.out.new (N5.out.trans (HT.out.nw.trans S0))) HI.out).mono ?_
              rintro r w2 ⟨vv, X, rfl, hs, hX⟩
              obtain ⟨ta, tc, hv⟩ := rowA_form (hs.rd 0 rfl)
              rw [tabB_len] at hv
              subst hv
              have HU0 := Lib.hid ((HT.out.go S0).call hs)
              have HXX : Hid (∀ n l, n < k → l < 24 → (X n l = true ↔ F n l = c)) := Lib.hid fun n l hn hl => (hX n l hn hl).trans (HO.out c n l HIF.out hn hl)
              refine ⟨_, rfl, S0.trans hs.nw, ?_⟩
              simp only [List.getElem_toArray, List.getElem_cons_zero, List.getElem_cons_succ, Act.put, List.setIfInBounds_toArray, List.set_cons_zero, List.set_cons_succ]
              refine LL_val (v := .slice ta k tc) (w' := w2) rfl rfl (by go_simp) (S0.trans hs.nw) ?_
              simp only [List.getElem_toArray, List.getElem_cons_zero, List.getElem_cons_succ, Act.put, List.setIfInBounds_toArray, List.set_cons_zero, List.set_cons_succ]
              refine NoPanic.normal ?_
              clear S0 hs hX i1
              obtain ⟨K, HK⟩ : ∃ K, Hid (KF F (cs.take q) = K) := ⟨_, Lib.hid rfl⟩
              have HMA : Hid (tabK k (markK X c K (k * 24)) = tabK k (KF F (cs.take (q + 1)))) := Lib.hid (by rw [← HK.out]; exact mark_all HC.out HXX.out)
              rw [HK.out] at HU0
              rw [← mark_0 X c K] at HU0
              go_wp2_with fail
              go_loopw [14] (fun nv wq => ∃ m : Nat, nv = .int .i64 (m : Int) ∧ m ≤ k ∧ Hid (Sep wa wq [saidO (.slice ta k tc) (tabB k X), srcsO (.slice ua (i + 1) uc) cs, factsO (.slice oa k oc) (tabK k (markK X c K (m * 24)))])) (fun nv _ => k - (intOf nv).toNat)
              case atStart => exact ⟨0, rfl, by omega, by rw [Nat.zero_mul]; exact HU0⟩
              case round =>
                clear HT HU0 HR1 B3r
                obtain ⟨m, rfl, hm, HU⟩ := hrel
                by_cases hmk : m < k
                · go_wp2_with fail
                  go_loopw [15] (fun lv wz => ∃ l : Nat, lv = .int .i64 (l : Int) ∧ l ≤ 24 ∧ Hid (Sep wa wz [saidO (.slice ta k tc) (tabB k X), srcsO (.slice ua (i + 1) uc) cs, factsO (.slice oa k oc) (tabK k (markK X c K (m * 24 + l)))])) (fun lv _ => 24 - (intOf lv).toNat)
                  case atStart => exact ⟨0, rfl, by omega, HU⟩
                  case round =>
                    clear HU
                    obtain ⟨l, rfl, hl, HY⟩ := hrel
                    by_cases hl24 : l < 24
                    · obtain ⟨b2, o2, u2, i2, r2, d2⟩ := nest_ix (P := Tryz.prog) (HY.out.rd 0 rfl) 116 Tryz.underlying116 sizeBs (tabB_at X hmk)
                      obtain ⟨a2, c2, hu2⟩ := rowA_form d2
                      rw [rowB_len] at hu2
                      subst hu2
                      obtain ⟨b3, o3, i3, r3⟩ := leaf_ix (P := Tryz.prog) d2 23 Tryz.underlying23 sizeBo (rowB_at X m hl24)
                      have y2 := r2 _ (New.refl _)
                      have y3 := r3 _ (New.refl _) 0 _ rfl
                      rw [Nat.add_zero] at y3
                      clear r2 d2 r3
                      cases hx : X m l with
                      | false =>
                        have HME := Lib.hid (mark_off (N := k) c K hl24 hx)
                        rw [← HME.out] at HY
                        rw [hx] at y3
                        clear hx
                        go_wp2_with fail
                        go_roundw
                        case rel => exact ⟨l + 1, by go_num, by omega, HY⟩
                        case measure => simp [intOf]; omega
                      | true =>
                        have HME := Lib.hid (mark_on (N := k) c K hl24 hx)
                        rw [hx] at y3
                        obtain ⟨Kc, HKC⟩ : ∃ Kc, Hid (markK X c K (m * 24 + l) = Kc) := ⟨_, Lib.hid rfl⟩
                        rw [HKC.out] at HY HME
                        obtain ⟨b1, o1, i1, r1⟩ := leaf_ix (P := Tryz.prog) (HY.out.rd 1 rfl) 58 Tryz.underlying58 sizeSr HC.out
                        have HR1 := Lib.hid r1
                        obtain ⟨bx, cx, c5, hv5, _, hrg5, hs5⟩ := HY.out.openAt 2 rfl (tabK_at Kc hmk)
                        simp only [Value.slice.injEq] at hv5
                        obtain ⟨hbx, hl5, hcx⟩ := hv5
                        subst hbx
                        subst hcx
                        clear hl5
                        obtain ⟨u58, hc5, hs6⟩ := Sep.unnest hs5
                        subst hc5
                        obtain ⟨bq, cq, c6, hv6, _⟩ := rowA_at (hs6.rd 0 rfl) (rowK_at Kc m hl24)
                        rw [rowK_len] at hv6
                        subst hv6
                        have HRL : Hid (l < (rowK Kc m).length) := Lib.hid (by rw [rowK_len]; exact hl24)
                        have y57 := hrg5 0 _ rfl
                        rw [Nat.add_zero] at y57
                        have hixn := fun w => ixRow (P := Tryz.prog) Tryz.underlying57 sizeSs bx m k oc hmk w
                        have hixl := fun w => ixRow (P := Tryz.prog) Tryz.underlying58 sizeSr bq l 24 cq hl24 w
                        clear r1 hs5 hrg5 hx HY
                        go_wp2_with fail
                        have S0 : New wr wr.drew := (New.refl wr).drew
                        refine wp_region_noPanic ?_
                        refine region_late (k := 10) (S := fun w' => New wr w') (by kernel_rfl) S0 (fun _ => ?_)
                        refine late_take (i := 0) (v := .slice (some ⟨bx, 0, none⟩) k oc) rfl (by kernel_rfl) (by kernel_rfl) (by kernel_rfl) (by kernel_rfl) (fun _ _ _ h => h) (Or.inl ⟨rfl, fun _ _ => by go_simp⟩) S0 ?_
                        simp only [List.getElem_toArray, List.getElem_cons_zero, Act.put, List.setIfInBounds_toArray, List.set_cons_zero, List.set_cons_succ]
                        refine late_take (i := 1) (v := .int .i64 (m : Int)) rfl (by kernel_rfl) (by kernel_rfl) (by kernel_rfl) (by kernel_rfl) (fun _ _ _ h => h) (Or.inl ⟨rfl, fun _ _ => by go_simp⟩) S0 ?_
                        simp only [List.getElem_toArray, List.getElem_cons_zero, List.getElem_cons_succ, Act.put, List.setIfInBounds_toArray, List.set_cons_zero, List.set_cons_succ]
                        refine late_take (i := 2) (v := .pointer (some ⟨bx, m * 1, none⟩)) rfl (by kernel_rfl) (by kernel_rfl) (by kernel_rfl) (by kernel_rfl) (fun _ _ _ h => h) (ixV_if rfl 57 (.tmp 84) (.tmp 85) rfl _ _ _ rfl rfl hixn) S0 ?_
                        simp only [List.getElem_toArray, List.getElem_cons_zero, List.getElem_cons_succ, Act.put, List.setIfInBounds_toArray, List.set_cons_zero, List.set_cons_succ]
                        refine late_take (i := 3) (v := .slice (some ⟨bq, 0, none⟩) 24 cq) rfl (by kernel_rfl) (by kernel_rfl) (by kernel_rfl) (by kernel_rfl) (fun _ _ _ h => h) (ldV_if rfl 58 Tryz.isAgg58 (.tmp 86) rfl ⟨bx, m * 1, none⟩ rfl (fun w' h => h.cell' y57)) S0 ?_
                        simp only [List.getElem_toArray, List.getElem_cons_zero, List.getElem_cons_succ, Act.put, List.setIfInBounds_toArray, List.set_cons_zero, List.set_cons_succ]
                        refine late_take (i := 4) (v := .int .i64 (l : Int)) rfl (by kernel_rfl) (by kernel_rfl) (by kernel_rfl) (by kernel_rfl) (fun _ _ _ h => h) (Or.inl ⟨rfl, fun _ _ => by go_simp⟩) S0 ?_
                        simp only [List.getElem_toArray, List.getElem_cons_zero, List.getElem_cons_succ, Act.put, List.setIfInBounds_toArray, List.set_cons_zero, List.set_cons_succ]
                        refine late_take (i := 5) (v := .slice ua (i + 1) uc) rfl (by kernel_rfl) (by kernel_rfl) (by kernel_rfl) (by kernel_rfl) (fun _ _ _ h => h) (Or.inl ⟨rfl, fun _ _ => by go_simp⟩) S0 ?_
                        simp only [List.getElem_toArray, List.getElem_cons_zero, List.getElem_cons_succ, Act.put, List.setIfInBounds_toArray, List.set_cons_zero, List.set_cons_succ]
                        refine late_take (i := 6) (v := .int .i64 (q : Int)) rfl (by kernel_rfl) (by kernel_rfl) (by kernel_rfl) (by kernel_rfl) (fun _ _ _ h => h) (Or.inl ⟨rfl, fun _ _ => by go_simp⟩) S0 ?_
                        simp only [List.getElem_toArray, List.getElem_cons_zero, List.getElem_cons_succ, Act.put, List.setIfInBounds_toArray, List.set_cons_zero, List.set_cons_succ]
                        refine late_take (i := 7) (v := .pointer (some ⟨b1, o1, none⟩)) rfl (by kernel_rfl) (by kernel_rfl) (by kernel_rfl) (by kernel_rfl) (fun _ _ _ h => h) (ixV_if rfl 58 (.tmp 89) (.tmp 90) rfl _ _ _ rfl rfl i1) S0 ?_
                        simp only [List.getElem_toArray, List.getElem_cons_zero, List.getElem_cons_succ, Act.put, List.setIfInBounds_toArray, List.set_cons_zero, List.set_cons_succ]
                        refine late_take (i := 8) (v := .agg (srcK c).toArray) rfl (by kernel_rfl) (by kernel_rfl) (by kernel_rfl) (by kernel_rfl) (fun _ _ _ h => h) (yieldsIf_load_mid (by rfl) _ _ rfl b1 o1 rfl (srcK c) _ (fun w' h => HR1.out _ h) Tryz.underlying39 rfl infoSr) S0 ?_
                        simp only [List.getElem_toArray, List.getElem_cons_zero, List.getElem_cons_succ, Act.put, List.setIfInBounds_toArray, List.set_cons_zero, List.set_cons_succ]
                        refine late_forced [9, 10] _ _ _ (by kernel_rfl) ?_
                        have hS3 := hs6.go S0
                        refine LL_val (v := .pointer (some ⟨bq, l * 2, none⟩)) (w' := wr.drew) rfl rfl (by unfold execOp; simp only [Act.eval]; simp [hixl]) S0 ?_
                        simp only [List.getElem_toArray, List.getElem_cons_zero, List.getElem_cons_succ, Act.put, List.setIfInBounds_toArray, List.set_cons_zero, List.set_cons_succ]
                        obtain ⟨w4, hr4, hs4⟩ := run_stLw 0 39 bq 24 cq l HRL.out (y := c) (.agg (srcK c).toArray) hS3 rfl (by decide) rfl rfl (srcK_one _) infoSr
                        refine LL_skip rfl rfl rfl (run_stO 39 (.tmp 93) (.tmp 92) rfl rfl rfl hr4) (fun h => absurd rfl h) ?_
                        have h7 := Sep.nest (P := srcsO) hs4
                        have h9 := Sep.back (h7.pull 3 rfl |>.pull 1 rfl) rfl
                        rw [tabK_upd Kc hl24, HME.out] at h9
                        have HV := Lib.hid ((h9.pull 2 rfl).pull 2 rfl)
                        refine NoPanic.normal ?_
                        clear h7 h9 hs4 hr4 hS3 hs6 S0 y57
                        go_wp2_with fail
                        go_roundw
                        case rel => exact ⟨l + 1, by go_num, by omega, HV⟩
                        case measure => simp [intOf]; omega
                    · obtain rfl : l = 24 := by omega
                      rw [show m * 24 + 24 = (m + 1) * 24 from (Nat.succ_mul m 24).symm] at HY
                      go_wp2_with fail
                      go_roundw
                      case rel => exact ⟨m + 1, by go_num, by omega, HY⟩
                      case measure => simp [intOf]; omega
                · obtain rfl : m = k := by omega
                  rw [HMA.out] at HU
                  have HV := Lib.hid HU.out.drop
                  go_wp2_with fail
                  go_roundw
                  case rel => exact ⟨q + 1, by go_num, by omega, HV⟩
                  case measure => simp [intOf]; omega
            · obtain rfl : q = i + 1 := by omega
              rw [List.take_of_length_le (by rw [HLN.out]; exact Nat.le_refl _), HFD.out] at HT
              go_wp2_with fail
              go_ret
              exact ⟨_, rfl, (Sep.of_new N5.out).call HT.out.drop⟩
end Go.Proofs.YtphopkjgfkaihaaGreatDoor
