/-
  Layer 11: the contracts of the two closures of value.facts: what is known by a way; a place is met by its ways.
  Layer 11: the contract of value.facts: they are met till none changes.
-/
import Derived.Test.YtphopkjgfkaihaaGreatDoorValueRow
import Derived.Test.YtphopkjgfkaihaaGreatDoorOpOne
import Derived.Deep.CutRange
namespace Go.Proofs.YtphopkjgfkaihaaGreatDoor
open Go.RowKit

def rowK (K : Kt) (n : Nat) : List Sc := (List.range 24).map (K n)
def tabK (N : Nat) (K : Kt) : List (List Sc) := (List.range N).map (rowK K)
theorem tabK_len (N : Nat) (K : Kt) : (tabK N K).length = N := by simp [tabK]
theorem tabK_at {N : Nat} (K : Kt) {n : Nat} (h : n < N) : (tabK N K)[n]? = some (rowK K n) := by simp [tabK, h]
theorem rowK_len (K : Kt) (n : Nat) : (rowK K n).length = 24 := by simp [rowK]
theorem rowK_at (K : Kt) (n : Nat) {l : Nat} (h : l < 24) : (rowK K n)[l]? = some (K n l) := by simp [rowK, h]
theorem tabK_upd {N : Nat} (K : Kt) {n l : Nat} (hl : l < 24) (c : Sc) : (tabK N K).set n ((rowK K n).set l c) = tabK N (updK K n l c) := by
  apply List.ext_getElem?
  intro i
  rw [List.getElem?_set, tabK_len]
  by_cases hi : i < N
  · rw [tabK_at _ hi, tabK_at _ hi]
    by_cases e : n = i
    · subst e
      rw [if_pos rfl, if_pos hi]
      congr 1
      apply List.ext_getElem?
      intro j
      rw [List.getElem?_set, rowK_len]
      by_cases hj : j < 24
      · rw [rowK_at _ _ hj, rowK_at _ _ hj]
        by_cases e2 : l = j
        · subst e2
          rw [if_pos rfl, if_pos hl, upd_at]
        · rw [if_neg e2, upd_ne fun h => e2 h.2.symm]
      · rw [List.getElem?_eq_none (l := rowK (updK K n l c) n) (by rw [rowK_len]; omega)]
        by_cases e2 : l = j
        · omega
        · rw [if_neg e2]
          exact List.getElem?_eq_none (by rw [rowK_len]; omega)
    · rw [if_neg e]
      congr 1
      apply List.ext_getElem?
      intro j
      by_cases hj : j < 24
      · rw [rowK_at _ _ hj, rowK_at _ _ hj, upd_ne fun h => e h.1.symm]
      · rw [List.getElem?_eq_none (by rw [rowK_len]; omega), List.getElem?_eq_none (by rw [rowK_len]; omega)]
  · rw [List.getElem?_eq_none (l := tabK N (updK K n l c)) (by rw [tabK_len]; omega)]
    by_cases e : n = i
    · rw [if_pos e, if_neg (by omega)]
    · rw [if_neg e]
      exact List.getElem?_eq_none (by rw [tabK_len]; omega)
theorem openT_is (N : Nat) : openT N = tabK N fun _ _ => (-1, 0) := by
  unfold openT tabK rowK
  rw [List.map_const', List.map_const', List.length_range, List.length_range]
section
variable {w0 w : World} {l : List Asn} {α : Type} {mk : α → List Value} {e : TypeId} {k : Nat} {v : Value} {xs : List α}
theorem run_stLw (m : Nat) (t : TypeId) (b n cap j : Nat) (hj : j < xs.length) {y : α} (u : Value) (h : Sep w0 w l) (hA : l[m]? = some (rowA e k (leafE mk) (.slice (some ⟨b, 0, none⟩) n cap) xs)) (hk0 : 0 < k) (hkl : (mk y).length = k) (hu : u.cells = (mk y).toArray) (h1 : ∀ x ∈ mk y, x.oneCell' = true) (hi : (Tryz.prog.info? t).map (·.size) = some k) :
    ∃ w', (Instr.storeAt t (.pointer (some ⟨b, j * k, none⟩)) u).run Tryz.prog w = .ok () w' ∧ Sep w0 w' (l.set m (rowA e k (leafE mk) (.slice (some ⟨b, 0, none⟩) n cap) (xs.set j y))) := by
  obtain ⟨b', cap', c, e1, e2, _, hs⟩ := h.openAt m hA (List.getElem?_eq_getElem hj)
  obtain ⟨e3, hs⟩ := hs.said
  have hlm : m < l.length := some_lt hA
  have hm : (l.set m (holeA e k (leafE mk) (.slice (some ⟨b, 0, none⟩) n cap) xs j c))[m]? = some (holeA e k (leafE mk) (.slice (some ⟨b, 0, none⟩) n cap) xs j c) := by
    rw [List.getElem?_set, if_pos rfl, if_pos hlm]
  obtain ⟨w', hr, h2⟩ := run_stEw m t b j u (mk y) (E := leafE mk) (y := y) (hs.say rfl) hm rfl hkl hk0 hu h1 hi
  rw [List.set_set] at h2
  exact ⟨w', hr, h2⟩
theorem leaf_at {b n cap i : Nat} {x : α} (h : (rowA e k (leafE mk) (.slice (some ⟨b, 0, none⟩) n cap) xs).rd w) (hi : xs[i]? = some x) : ∀ w', New w w' → w'.rangeAt b (i * k) (mk x) := by
  obtain ⟨b', cap', c, e1, h1, h2, F, h3, _⟩ := rowA_at h hi
  simp only [Value.slice.injEq, Option.some.injEq, Addr.mk.injEq] at e1
  obtain ⟨⟨rfl, _⟩, _, _⟩ := e1
  have h4 : c = mk x := h3
  subst h4
  exact fun w' hn j v hv => hn.cell' (h2 j v hv)
/-- What is read of a row of rows. -/
theorem nest_ix {P : Program} {Q : Value → α → Asn} {ao : Option Addr} {n cap : Nat} (h : (rowA e 1 (nest Q) (.slice ao n cap) xs).rd w) (T : TypeId) (hu : P.underlying T = some (.slice e)) (he : ∀ w, (sizeOf e).run P w = .ok 1 w) {i : Nat} {x : α} (hi : xs[i]? = some x) :
    ∃ (b o : Nat) (u : Value), (∀ w', (Instr.indexAt T (.slice ao n cap) (.int .i64 (i : Int))).run P w' = .ok (.pointer (some ⟨b, o, none⟩)) w') ∧ (∀ w', New w w' → w'.cell? ⟨b, o, none⟩ = some u) ∧ (Q u x).rd w := by
  obtain ⟨b, o, c, _, h1, h2, h3⟩ := rowA_ix h T hu he hi
  obtain ⟨u, rfl, h4⟩ := nest_rd h3
  exact ⟨b, o, u, h1, fun w' hn => by have := h2 w' hn 0 _ rfl; rwa [Nat.add_zero] at this, h4⟩
theorem es_ix {P : Program} {ao : Option Addr} {n cap : Nat} {W : List (List Ed)} (h : (rowA e 1 esE (.slice ao n cap) W).rd w) (T : TypeId) (hu : P.underlying T = some (.slice e)) (he : ∀ w, (sizeOf e).run P w = .ok 1 w) {i : Nat} {x : List Ed} (hi : W[i]? = some x) :
    ∃ (b o : Nat) (u : Value), (∀ w', (Instr.indexAt T (.slice ao n cap) (.int .i64 (i : Int))).run P w' = .ok (.pointer (some ⟨b, o, none⟩)) w') ∧ (∀ w', New w w' → w'.cell? ⟨b, o, none⟩ = some u) ∧ (edgesO u x).rd w := by
  obtain ⟨b, o, c, _, h1, h2, h3⟩ := rowA_ix h T hu he hi
  obtain ⟨u, rfl, h4⟩ := es_rd h3
  exact ⟨b, o, u, h1, fun w' hn => by have := h2 w' hn 0 _ rfl; rwa [Nat.add_zero] at this, h4⟩
end
set_option maxHeartbeats 8000000 in
set_option maxRecDepth 100000 in
theorem by_any (f : List I) (s : Skl) (K : Kt) (N n l k : Nat) (e : Int × Int) (g5 g7 g6 : Nat) (va vk vw : Value) (w : World) (hN : s.nodes.length = N) (hg : GoodS s) (hn : n < N) (hl : l < 24) (he : (edgesA s (n : Int))[k]? = some e)
    (h5 : HasC w g5 53 [va]) (h7 : HasC w g7 57 [vk]) (h6 : HasC w g6 88 [vw]) (ha : (allO va (allT f s)).rd w) (hk : (factsO vk (tabK N K)).rd w) (hw : (waysO vw (edTab N (edgesA s))).rd w) :
    Calls Tryz.prog 74 #[.int .i64 (n : Int), .int .i64 (k : Int), .int .i64 (l : Int), .pointer (some ⟨g5, 0, none⟩), .pointer (some ⟨g7, 0, none⟩), .pointer (some ⟨g6, 0, none⟩)] w fun r w' => r = .returned (.agg (srcK (byK f s K e l)).toArray) ∧ New w w' := by
  have HS := Lib.hid (Sep.start w)
  have HC5 := Lib.hid h5
  have HC7 := Lib.hid h7
  have HC6 := Lib.hid h6
  have hem : e ∈ edgesA s (n : Int) := List.mem_of_getElem? he
  obtain ⟨aa, ac, rfl⟩ := rowA_form ha
  rw [allT_len, hN] at HC5 ha
  obtain ⟨b1, o1, u1, i1, r1, d1⟩ := nest_ix (P := Tryz.prog) ha 53 Tryz.underlying53 sizeFs (allT_at (by rw [hN]; exact hn))
  obtain ⟨a1, c1, rfl⟩ := rowA_form d1
  obtain ⟨b2, o2, u2, i2, r2, d2⟩ := nest_ix (P := Tryz.prog) d1 57 Tryz.underlying57 sizeSs (nodeT_at he)
  obtain ⟨a2, c2, rfl⟩ := rowA_form d2
  obtain ⟨b3, o3, i3, r3⟩ := leaf_ix (P := Tryz.prog) d2 58 Tryz.underlying58 sizeSr (rowT_at hl)
  have H1 := Lib.hid r1
  have H2 := Lib.hid r2
  have H3 := Lib.hid r3
  have h4v := fun h4 => by_val (f := f) hg hem hl h4
  unfold byK
  clear ha d1 d2 r1 r2 r3 h5 h7 h6
  by_cases h4 : (byA f s e l).1 = 4
  · rw [if_pos h4]
    obtain ⟨p1, p2, p3, p4⟩ := h4v h4
    obtain ⟨q, hq⟩ : ∃ q : Nat, e.1 = (q : Int) := ⟨e.1.toNat, by omega⟩
    obtain ⟨r, hr⟩ : ∃ r : Nat, (byA f s e l).2 = (r : Int) := ⟨(byA f s e l).2.toNat, by omega⟩
    rw [hq, hr, Int.toNat_natCast, Int.toNat_natCast]
    rw [hq, Int.toNat_natCast, hN] at p2
    rw [hr, Int.toNat_natCast] at p4
    obtain ⟨X, HX⟩ : ∃ X, Hid (byA f s e l = X) := ⟨_, Lib.hid rfl⟩
    rw [HX.out] at h4 hr H3
    obtain ⟨ka, kc, rfl⟩ := rowA_form hk
    rw [tabK_len] at HC7 hk
    obtain ⟨wwa, wwc, rfl⟩ := rowA_form hw
    rw [edTab_len] at HC6 hw
    obtain ⟨b4, o4, u4, i4, r4, d4⟩ := es_ix (P := Tryz.prog) hw 88 Tryz.underlying88 sizeEs (edTab_at (edgesA s) hn)
    obtain ⟨a4, c4, rfl⟩ := rowA_form d4
    obtain ⟨b5, o5, i5, r5⟩ := leaf_ix (P := Tryz.prog) d4 55 Tryz.underlying55 sizeEd he
    obtain ⟨b6, o6, u6, i6, r6, d6⟩ := nest_ix (P := Tryz.prog) hk 57 Tryz.underlying57 sizeSs (tabK_at K p2)
    obtain ⟨a6, c6, rfl⟩ := rowA_form d6
    obtain ⟨b7, o7, i7, r7⟩ := leaf_ix (P := Tryz.prog) d6 58 Tryz.underlying58 sizeSr (rowK_at K q p4)
    have H4 := Lib.hid r4
    have H5 := Lib.hid r5
    have H6 := Lib.hid r6
    have H7 := Lib.hid r7
    have q4 : (X.1 == 4) = true := beq_of h4
    rw [rowK_len] at i7
    rw [rowK_len] at H6
    obtain ⟨es, HES⟩ : ∃ es, Hid (edgesA s (n : Int) = es) := ⟨_, Lib.hid rfl⟩
    rw [HES.out] at i5 H4
    clear hk hw d4 d6 r4 r5 r6 r7 h4v h4 p1 p3
    have T1 : Hid True := Lib.hid trivial
    have T2 : Hid True := Lib.hid trivial
    have T3 : Hid True := Lib.hid trivial
    have T4 : Hid True := Lib.hid trivial
    go_enter Tryz.func74, Tryz.ntmps74
    go_wp2_with (first
      | (clear T1; refine wpList_alB rfl 39 rfl _ zeroSr_run _ rfl HS.out ?_; intro wa g9 hs; replace HS := Lib.hid hs; have x5 := HC5.out.cell (k := 0) rfl; replace x5 := HS.out.nw.cell' x5; have y1 := H1.out _ HS.out.nw; have y2 := H2.out _ HS.out.nw; clear hs)
      | (clear T2; refine wpList_load_mid rfl 39 (.tmp 19) rfl b3 o3 rfl (srcK X) _ (H3.out _ HS.out.nw) Tryz.underlying39 rfl infoSr ?_)
      | (clear T3; refine wpList_alB rfl 39 rfl _ zeroSr_run _ rfl HS.out ?_; intro wb g10 hs; replace HS := Lib.hid hs; clear hs x5 y1 y2)
      | (clear T4; refine wpList_stSW 0 rfl rfl 39 (.tmp 10) (.tmp 20) rfl g10 rfl _ rfl HS.out rfl (srcK X) rfl rfl (srcK_one _) infoSr ?_; intro wc hs; replace HS := Lib.hid hs; have z0 := HS.out.cell 0 rfl (k := 0) rfl; clear hs))
    have N0 : New w wc := HS.out.nw
    have S0 : New wc wc.drew := (New.refl wc).drew
    have z1 := HS.out.cell 0 rfl (k := 1) rfl
    rw [hr] at z1
    have c7x := HC7.out.cell (k := 0) rfl
    have c6x := HC6.out.cell (k := 0) rfl
    have e0 := H5.out
    refine wp_region_noPanic ?_
    refine region_late (k := 15) (S := fun w' => New wc w') (by kernel_rfl) S0 (fun _ => ?_)
    refine late_take (i := 0) (v := .slice ka N kc) rfl (by kernel_rfl) (by kernel_rfl) (by kernel_rfl) (by kernel_rfl) (fun _ _ _ h => h) (ldV_if rfl 57 Tryz.isAgg57 (.tmp 4) rfl ⟨g7, 0, none⟩ rfl (fun w' h => (N0.trans h).cell' c7x)) S0 ?_
    simp only [List.getElem_toArray, List.getElem_cons_zero, Act.put, List.setIfInBounds_toArray, List.set_cons_zero, List.set_cons_succ]
    refine late_take (i := 1) (v := .slice wwa N wwc) rfl (by kernel_rfl) (by kernel_rfl) (by kernel_rfl) (by kernel_rfl) (fun _ _ _ h => h) (ldV_if rfl 88 Tryz.isAgg88 (.tmp 5) rfl ⟨g6, 0, none⟩ rfl (fun w' h => (N0.trans h).cell' c6x)) S0 ?_
    simp only [List.getElem_toArray, List.getElem_cons_zero, List.getElem_cons_succ, Act.put, List.setIfInBounds_toArray, List.set_cons_zero, List.set_cons_succ]
    refine late_take (i := 2) (v := .int .i64 (n : Int)) rfl (by kernel_rfl) (by kernel_rfl) (by kernel_rfl) (by kernel_rfl) (fun _ _ _ h => h) (Or.inl ⟨rfl, fun _ _ => by go_simp⟩) S0 ?_
    simp only [List.getElem_toArray, List.getElem_cons_zero, List.getElem_cons_succ, Act.put, List.setIfInBounds_toArray, List.set_cons_zero, List.set_cons_succ]
    refine late_take (i := 3) (v := .pointer (some ⟨b4, o4, none⟩)) rfl (by kernel_rfl) (by kernel_rfl) (by kernel_rfl) (by kernel_rfl) (fun _ _ _ h => h) (ixV_if rfl 88 (.tmp 25) (.tmp 26) rfl _ _ _ rfl rfl i4) S0 ?_
    simp only [List.getElem_toArray, List.getElem_cons_zero, List.getElem_cons_succ, Act.put, List.setIfInBounds_toArray, List.set_cons_zero, List.set_cons_succ]
    refine late_take (i := 4) (v := .slice a4 es.length c4) rfl (by kernel_rfl) (by kernel_rfl) (by kernel_rfl) (by kernel_rfl) (fun _ _ _ h => h) (ldV_if rfl 55 Tryz.isAgg55 (.tmp 27) rfl ⟨b4, o4, none⟩ rfl (fun w' h => H4.out _ (N0.trans h))) S0 ?_
    simp only [List.getElem_toArray, List.getElem_cons_zero, List.getElem_cons_succ, Act.put, List.setIfInBounds_toArray, List.set_cons_zero, List.set_cons_succ]
    refine late_take (i := 5) (v := .int .i64 (k : Int)) rfl (by kernel_rfl) (by kernel_rfl) (by kernel_rfl) (by kernel_rfl) (fun _ _ _ h => h) (Or.inl ⟨rfl, fun _ _ => by go_simp⟩) S0 ?_
    simp only [List.getElem_toArray, List.getElem_cons_zero, List.getElem_cons_succ, Act.put, List.setIfInBounds_toArray, List.set_cons_zero, List.set_cons_succ]
    refine late_take (i := 6) (v := .pointer (some ⟨b5, o5, none⟩)) rfl (by kernel_rfl) (by kernel_rfl) (by kernel_rfl) (by kernel_rfl) (fun _ _ _ h => h) (ixV_if rfl 55 (.tmp 28) (.tmp 29) rfl _ _ _ rfl rfl i5) S0 ?_
    simp only [List.getElem_toArray, List.getElem_cons_zero, List.getElem_cons_succ, Act.put, List.setIfInBounds_toArray, List.set_cons_zero, List.set_cons_succ]
    refine late_take (i := 7) (v := .pointer (some ⟨b5, o5, none⟩)) rfl (by kernel_rfl) (by kernel_rfl) (by kernel_rfl) (by kernel_rfl) (fun _ _ _ h => h) (Or.inl ⟨rfl, fun _ _ => by go_simp⟩) S0 ?_
    simp only [List.getElem_toArray, List.getElem_cons_zero, List.getElem_cons_succ, Act.put, List.setIfInBounds_toArray, List.set_cons_zero, List.set_cons_succ]
    refine late_take (i := 8) (v := .int .i64 (q : Int)) rfl (by kernel_rfl) (by kernel_rfl) (by kernel_rfl) (by kernel_rfl) (fun _ _ _ h => h) (ldV_if rfl 3 Tryz.isAgg3 (.tmp 31) rfl ⟨b5, o5, none⟩ rfl (fun w' h => by have := H5.out _ (N0.trans h) 0 _ rfl; rw [Nat.add_zero, hq] at this; exact this)) S0 ?_
    simp only [List.getElem_toArray, List.getElem_cons_zero, List.getElem_cons_succ, Act.put, List.setIfInBounds_toArray, List.set_cons_zero, List.set_cons_succ]
    refine late_take (i := 9) (v := .pointer (some ⟨b6, o6, none⟩)) rfl (by kernel_rfl) (by kernel_rfl) (by kernel_rfl) (by kernel_rfl) (fun _ _ _ h => h) (ixV_if rfl 57 (.tmp 24) (.tmp 32) rfl _ _ _ rfl rfl i6) S0 ?_
    simp only [List.getElem_toArray, List.getElem_cons_zero, List.getElem_cons_succ, Act.put, List.setIfInBounds_toArray, List.set_cons_zero, List.set_cons_succ]
    refine late_take (i := 10) (v := .slice a6 24 c6) rfl (by kernel_rfl) (by kernel_rfl) (by kernel_rfl) (by kernel_rfl) (fun _ _ _ h => h) (ldV_if rfl 58 Tryz.isAgg58 (.tmp 33) rfl ⟨b6, o6, none⟩ rfl (fun w' h => H6.out _ (N0.trans h))) S0 ?_
    simp only [List.getElem_toArray, List.getElem_cons_zero, List.getElem_cons_succ, Act.put, List.setIfInBounds_toArray, List.set_cons_zero, List.set_cons_succ]
    refine late_take (i := 11) (v := .pointer (some ⟨g10, 1, none⟩)) rfl (by kernel_rfl) (by kernel_rfl) (by kernel_rfl) (by kernel_rfl) (fun _ _ _ h => h) (Or.inl ⟨rfl, fun _ _ => by go_simp⟩) S0 ?_
    simp only [List.getElem_toArray, List.getElem_cons_zero, List.getElem_cons_succ, Act.put, List.setIfInBounds_toArray, List.set_cons_zero, List.set_cons_succ]
    refine late_take (i := 12) (v := .int .i64 (r : Int)) rfl (by kernel_rfl) (by kernel_rfl) (by kernel_rfl) (by kernel_rfl) (fun _ _ _ h => h) (ldV_if rfl 2 Tryz.isAgg2 (.tmp 35) rfl ⟨g10, 1, none⟩ rfl (fun w' h => h.cell' z1)) S0 ?_
    simp only [List.getElem_toArray, List.getElem_cons_zero, List.getElem_cons_succ, Act.put, List.setIfInBounds_toArray, List.set_cons_zero, List.set_cons_succ]
    refine late_take (i := 13) (v := .pointer (some ⟨b7, o7, none⟩)) rfl (by kernel_rfl) (by kernel_rfl) (by kernel_rfl) (by kernel_rfl) (fun _ _ _ h => h) (ixV_if rfl 58 (.tmp 34) (.tmp 36) rfl _ _ _ rfl rfl i7) S0 ?_
    simp only [List.getElem_toArray, List.getElem_cons_zero, List.getElem_cons_succ, Act.put, List.setIfInBounds_toArray, List.set_cons_zero, List.set_cons_succ]
    refine late_take (i := 14) (v := .agg (srcK (K q r)).toArray) rfl (by kernel_rfl) (by kernel_rfl) (by kernel_rfl) (by kernel_rfl) (fun _ _ _ h => h) (yieldsIf_load_mid (by rfl) _ _ rfl b7 o7 rfl (srcK (K q r)) _ (fun w' h => H7.out _ (N0.trans h)) Tryz.underlying39 rfl infoSr) S0 ?_
    simp only [List.getElem_toArray, List.getElem_cons_zero, List.getElem_cons_succ, Act.put, List.setIfInBounds_toArray, List.set_cons_zero, List.set_cons_succ]
    refine late_forced [15] _ _ _ (by kernel_rfl) ?_
    have hS := HS.out.go S0
    have hst : (Instr.storeAt 39 (.pointer (some ⟨g10, 0, none⟩)) (.agg (srcK (K q r)).toArray)).run Tryz.prog wc.drew = .ok () (putO wc.drew g10 (.cells (srcK (K q r)).toArray 39 (0, 0))) := HasC.store (hS.has 0 rfl) 0 (srcK (K q r)) 39 (.agg (srcK (K q r)).toArray) rfl (by simp [srcK]) (srcK_one _) infoSr
    refine LL_skip rfl rfl rfl (run_stO 39 (.tmp 10) (.tmp 38) rfl rfl rfl hst) (fun h => absurd rfl h) ?_
    have hfin := hS.setAt 0 rfl (Kept.put wc.drew g10 (.cells (srcK (K q r)).toArray 39 (0, 0))) (HasC.put (hS.has 0 rfl) _)
    clear hst
    generalize putO wc.drew g10 (.cells (srcK (K q r)).toArray 39 (0, 0)) = w3 at hfin ⊢
    replace HS := Lib.hid hfin
    refine NoPanic.normal ?_
    clear hfin hS S0 z1 c7x c6x N0 e0
    have V1 : Hid True := Lib.hid trivial
    have V2 : Hid True := Lib.hid trivial
    go_wp2_with (first
      | (clear V1; refine wpList_load_mid rfl 39 (.tmp 10) rfl g10 0 rfl (srcK (K q r)) _ (HasC.all (HS.out.has 0 rfl)) Tryz.underlying39 rfl infoSr ?_)
      | (clear V2; refine wpList_stSW 1 rfl rfl 39 (.tmp 9) (.tmp 39) rfl g9 rfl _ rfl HS.out rfl (srcK (K q r)) rfl rfl (srcK_one _) infoSr ?_; intro w4 hs; replace HS := Lib.hid hs; clear hs z0))
    exact bodyPost_ret (resSr _ rfl _ _ g9 _ rfl (HS.out.has 1 rfl)) rfl ⟨rfl, HS.out.nw⟩
  · rw [if_neg h4]
    obtain ⟨X, HX⟩ : ∃ X, Hid (byA f s e l = X) := ⟨_, Lib.hid rfl⟩
    rw [HX.out] at h4 H3 ⊢
    have q4 : (X.1 == 4) = false := bneq_of h4
    clear hk hw h4v h4
    have T1 : Hid True := Lib.hid trivial
    have T2 : Hid True := Lib.hid trivial
    have T3 : Hid True := Lib.hid trivial
    have T4 : Hid True := Lib.hid trivial
    have T5 : Hid True := Lib.hid trivial
    have T6 : Hid True := Lib.hid trivial
    go_enter Tryz.func74, Tryz.ntmps74
    go_wp2_with (first
      | (clear T1; refine wpList_alB rfl 39 rfl _ zeroSr_run _ rfl HS.out ?_; intro wa g9 hs; replace HS := Lib.hid hs; have x5 := HC5.out.cell (k := 0) rfl; replace x5 := HS.out.nw.cell' x5; have y1 := H1.out _ HS.out.nw; have y2 := H2.out _ HS.out.nw; clear hs)
      | (clear T2; refine wpList_load_mid rfl 39 (.tmp 19) rfl b3 o3 rfl (srcK X) _ (H3.out _ HS.out.nw) Tryz.underlying39 rfl infoSr ?_)
      | (clear T3; refine wpList_alB rfl 39 rfl _ zeroSr_run _ rfl HS.out ?_; intro wb g10 hs; replace HS := Lib.hid hs; clear hs x5 y1 y2)
      | (clear T4; refine wpList_stSW 0 rfl rfl 39 (.tmp 10) (.tmp 20) rfl g10 rfl _ rfl HS.out rfl (srcK X) rfl rfl (srcK_one _) infoSr ?_; intro wc hs; replace HS := Lib.hid hs; have z0 := HS.out.cell 0 rfl (k := 0) rfl; clear hs)
      | (clear T5; refine wpList_load_mid rfl 39 (.tmp 10) rfl g10 0 rfl (srcK X) _ (HasC.all (HS.out.has 0 rfl)) Tryz.underlying39 rfl infoSr ?_)
      | (clear T6; refine wpList_stSW 1 rfl rfl 39 (.tmp 9) (.tmp 39) rfl g9 rfl _ rfl HS.out rfl (srcK X) rfl rfl (srcK_one _) infoSr ?_; intro w4 hs; replace HS := Lib.hid hs; clear hs z0))
    exact bodyPost_ret (resSr _ rfl _ _ g9 _ rfl (HS.out.has 1 rfl)) rfl ⟨rfl, HS.out.nw⟩
theorem meet_more (f : List I) (s : Skl) (n l : Nat) (es : List (Int × Int)) (K : Kt) {k : Nat} {e : Int × Int} (h : es[k]? = some e) : updK (meetK f s n l (es.take k) K) n l (metF (meetK f s n l (es.take k) K n l) (byK f s (meetK f s n l (es.take k) K) e l) l) = meetK f s n l (es.take (k + 1)) K := by
  rw [List.take_add_one, h, Option.toList_some]
  unfold meetK
  rw [List.foldl_append]
  rfl
set_option maxHeartbeats 8000000 in
set_option maxRecDepth 100000 in
theorem meet_any (f : List I) (s : Skl) (K : Kt) (N n l : Nat) (g5 g7 g6 g8 ka kc : Nat) (va vw : Value) {w0 w : World} (hN : s.nodes.length = N) (hg : GoodS s) (hn : n < N) (hl : l < 24) (hlen : (edgesA s (n : Int)).length ≤ 100000)
    (hs : Sep w0 w [factsO (.slice (some ⟨ka, 0, none⟩) N kc) (tabK N (K)), blk g7 57 [.slice (some ⟨ka, 0, none⟩) N kc], blk g6 88 [vw], blk g5 53 [va], blk g8 153 [.func (.func 74) #[] #[.pointer (some ⟨g5, 0, none⟩), .pointer (some ⟨g7, 0, none⟩), .pointer (some ⟨g6, 0, none⟩)]], waysO vw (edTab N (edgesA s)), allO va (allT f s)]) :
    Calls Tryz.prog 75 #[.int .i64 (n : Int), .int .i64 (l : Int), .pointer (some ⟨g7, 0, none⟩), .pointer (some ⟨g6, 0, none⟩), .pointer (some ⟨g8, 0, none⟩)] w fun r w' => r = .returned (.bool (!decide (meetK f s n l (edgesA s (n : Int)) K n l = K n l))) ∧ Sep w0 w' [factsO (.slice (some ⟨ka, 0, none⟩) N kc) (tabK N (meetK f s n l (edgesA s (n : Int)) K)), blk g7 57 [.slice (some ⟨ka, 0, none⟩) N kc], blk g6 88 [vw], blk g5 53 [va], blk g8 153 [.func (.func 74) #[] #[.pointer (some ⟨g5, 0, none⟩), .pointer (some ⟨g7, 0, none⟩), .pointer (some ⟨g6, 0, none⟩)]], waysO vw (edTab N (edgesA s)), allO va (allT f s)] := by
  have HS := Lib.hid hs
  have HN := Lib.hid hN
  have HG := Lib.hid hg
  obtain ⟨es, HES⟩ : ∃ es, Hid (edgesA s (n : Int) = es) := ⟨_, Lib.hid rfl⟩
  rw [HES.out] at hlen ⊢
  obtain ⟨M, HM⟩ : ∃ M, Hid (es.length = M) := ⟨_, Lib.hid rfl⟩
  rw [HM.out] at hlen
  obtain ⟨wwa, wwc, hvw⟩ := rowA_form (hs.rd 5 rfl)
  rw [edTab_len] at hvw
  subst hvw
  have HL0 : Hid (l < (rowK K n).length) := Lib.hid (by rw [rowK_len]; exact hl)
  -- the row of n, its cells
  obtain ⟨b1, o1, u1, i1, r1, d1⟩ := nest_ix (P := Tryz.prog) (hs.rd 0 rfl) 57 Tryz.underlying57 sizeSs (tabK_at K hn)
  obtain ⟨a1, c1, hu1⟩ := rowA_form d1
  rw [rowK_len] at hu1
  subst hu1
  obtain ⟨b2, o2, i2, r2⟩ := leaf_ix (P := Tryz.prog) d1 58 Tryz.underlying58 sizeSr (rowK_at K n hl)
  obtain ⟨b3, o3, u3, i3, r3, d3⟩ := es_ix (P := Tryz.prog) (hs.rd 5 rfl) 88 Tryz.underlying88 sizeEs (edTab_at (edgesA s) hn)
  rw [HES.out] at d3
  obtain ⟨a3, c3, hu3⟩ := rowA_form d3
  rw [HM.out] at hu3
  subst hu3
  have x7 := hs.cell 1 rfl (k := 0) rfl
  have x6 := hs.cell 2 rfl (k := 0) rfl
  have y1 := r1 _ (New.refl w)
  have y3 := r3 _ (New.refl w)
  have H2 := Lib.hid r2
  have H3 := Lib.hid r3
  clear hs hN hg r1 r2 r3 d1 d3
  have HQ := Lib.hid (Sep.start w)
  have T1 : Hid True := Lib.hid trivial
  have T2 : Hid True := Lib.hid trivial
  have T3 : Hid True := Lib.hid trivial
  go_enter Tryz.func75, Tryz.ntmps75
  go_wp2_with (first
    | (clear T1; refine wpList_load_mid rfl 39 (.tmp 15) rfl b2 o2 rfl (srcK (K n l)) _ (H2.out _ HQ.out.nw) Tryz.underlying39 rfl infoSr ?_)
    | (clear T2; refine wpList_alB rfl 39 rfl _ zeroSr_run _ rfl HQ.out ?_; intro wa g9 hs; replace HQ := Lib.hid hs; clear hs x7 y1)
    | (clear T3; refine wpList_stSW 0 rfl rfl 39 (.tmp 8) (.tmp 16) rfl g9 rfl _ rfl HQ.out rfl (srcK (K n l)) rfl rfl (srcK_one _) infoSr ?_; intro wb hs; replace HQ := Lib.hid hs; replace x6 := HQ.out.nw.cell' x6; replace y3 := H3.out _ HQ.out.nw; clear hs))
  have HT0 : Hid (Sep w0 wb [blk g9 39 (srcK (K n l)), factsO (.slice (some ⟨ka, 0, none⟩) N kc) (tabK N (K)), blk g7 57 [.slice (some ⟨ka, 0, none⟩) N kc], blk g6 88 [(.slice wwa N wwc)], blk g5 53 [va], blk g8 153 [.func (.func 74) #[] #[.pointer (some ⟨g5, 0, none⟩), .pointer (some ⟨g7, 0, none⟩), .pointer (some ⟨g6, 0, none⟩)]], waysO (.slice wwa N wwc) (edTab N (edgesA s)), allO va (allT f s)]) := Lib.hid (HS.out.call HQ.out)
  clear HS x6 y3
  go_loopw [22] (fun kv wr => ∃ k : Nat, kv = .int .i64 (k : Int) ∧ k ≤ M ∧ Hid (Sep w0 wr [blk g9 39 (srcK (K n l)), factsO (.slice (some ⟨ka, 0, none⟩) N kc) (tabK N (meetK f s n l (es.take k) K)), blk g7 57 [.slice (some ⟨ka, 0, none⟩) N kc], blk g6 88 [(.slice wwa N wwc)], blk g5 53 [va], blk g8 153 [.func (.func 74) #[] #[.pointer (some ⟨g5, 0, none⟩), .pointer (some ⟨g7, 0, none⟩), .pointer (some ⟨g6, 0, none⟩)]], waysO (.slice wwa N wwc) (edTab N (edgesA s)), allO va (allT f s)])) (fun kv _ => M - (intOf kv).toNat)
  case atStart => exact ⟨0, rfl, by omega, HT0⟩
  case round =>
    obtain ⟨k, rfl, hk, HT⟩ := hrel
    clear HT0 HQ i1 i2 i3
    by_cases hkM : k < M
    · obtain ⟨e, he⟩ : ∃ e, es[k]? = some e := ⟨_, List.getElem?_eq_getElem (by rw [HM.out]; exact hkM)⟩
      have HMM := Lib.hid (meet_more f s n l es K he)
      obtain ⟨Kc, HKC⟩ : ∃ Kc, Hid (meetK f s n l (es.take k) K = Kc) := ⟨_, Lib.hid rfl⟩
      rw [HKC.out] at HMM HT
      have HE : Hid ((edgesA s (n : Int))[k]? = some e) := Lib.hid (by rw [HES.out]; exact he)
      have hbf := HT.out.rd 1 rfl
      obtain ⟨bx, cx, c5, hv5, _, hrg5, hs5⟩ := HT.out.openAt 1 rfl (tabK_at Kc hn)
      simp only [Value.slice.injEq, Option.some.injEq, Addr.mk.injEq, and_true] at hv5
      obtain ⟨hbx, hl5, hcx⟩ := hv5
      subst hbx
      clear hl5
      obtain ⟨u58, hc5, hs6⟩ := Sep.unnest hs5
      subst hc5
      obtain ⟨bq, cq, c6, hv6, _⟩ := rowA_at (hs6.rd 0 rfl) (rowK_at Kc n hl)
      rw [rowK_len] at hv6
      subst hv6
      have HRL : Hid (l < (rowK Kc n).length) := Lib.hid (by rw [rowK_len]; exact hl)
      have HRG := Lib.hid (leaf_at (hs6.rd 0 rfl) (rowK_at Kc n hl))
      have y57 := hrg5 0 _ rfl
      rw [Nat.add_zero] at y57
      have hixn := fun w => ixRow (P := Tryz.prog) Tryz.underlying57 sizeSs ka n N kc hn w
      have hixl := fun w => ixRow (P := Tryz.prog) Tryz.underlying58 sizeSr bq l 24 cq hl w
      have c7 := HT.out.cell 2 rfl (k := 0) rfl
      have c8 := HT.out.cell 5 rfl (k := 0) rfl
      have B5 := HT.out.has 4 rfl
      have B7 := HT.out.has 2 rfl
      have B6 := HT.out.has 3 rfl
      have RA := HT.out.rd 7 rfl
      have RW := HT.out.rd 6 rfl
      clear he hs5 hrg5 hcx
      go_wp2_with fail
      have S0 : New wr wr.drew := (New.refl wr).drew
      refine wp_region_noPanic ?_
      refine region_late (k := 20) (S := fun w' => New wr w') (by kernel_rfl) S0 (fun _ => ?_)
      refine late_take (i := 0) (v := .slice (some ⟨ka, 0, none⟩) N kc) rfl (by kernel_rfl) (by kernel_rfl) (by kernel_rfl) (by kernel_rfl) (fun _ _ _ h => h) (ldV_if rfl 57 Tryz.isAgg57 (.tmp 2) rfl ⟨g7, 0, none⟩ rfl (fun w' h => h.cell' c7)) S0 ?_
      simp only [List.getElem_toArray, List.getElem_cons_zero, Act.put, List.setIfInBounds_toArray, List.set_cons_zero, List.set_cons_succ]
      refine late_take (i := 1) (v := .int .i64 (n : Int)) rfl (by kernel_rfl) (by kernel_rfl) (by kernel_rfl) (by kernel_rfl) (fun _ _ _ h => h) (Or.inl ⟨rfl, fun _ _ => by go_simp⟩) S0 ?_
      simp only [List.getElem_toArray, List.getElem_cons_zero, List.getElem_cons_succ, Act.put, List.setIfInBounds_toArray, List.set_cons_zero, List.set_cons_succ]
      refine late_take (i := 2) (v := .pointer (some ⟨ka, n * 1, none⟩)) rfl (by kernel_rfl) (by kernel_rfl) (by kernel_rfl) (by kernel_rfl) (fun _ _ _ h => h) (ixV_if rfl 57 (.tmp 25) (.tmp 26) rfl _ _ _ rfl rfl hixn) S0 ?_
      simp only [List.getElem_toArray, List.getElem_cons_zero, List.getElem_cons_succ, Act.put, List.setIfInBounds_toArray, List.set_cons_zero, List.set_cons_succ]
      refine late_take (i := 3) (v := .slice (some ⟨bq, 0, none⟩) 24 cq) rfl (by kernel_rfl) (by kernel_rfl) (by kernel_rfl) (by kernel_rfl) (fun _ _ _ h => h) (ldV_if rfl 58 Tryz.isAgg58 (.tmp 27) rfl ⟨ka, n * 1, none⟩ rfl (fun w' h => h.cell' y57)) S0 ?_
      simp only [List.getElem_toArray, List.getElem_cons_zero, List.getElem_cons_succ, Act.put, List.setIfInBounds_toArray, List.set_cons_zero, List.set_cons_succ]
      refine late_take (i := 4) (v := .int .i64 (l : Int)) rfl (by kernel_rfl) (by kernel_rfl) (by kernel_rfl) (by kernel_rfl) (fun _ _ _ h => h) (Or.inl ⟨rfl, fun _ _ => by go_simp⟩) S0 ?_
      simp only [List.getElem_toArray, List.getElem_cons_zero, List.getElem_cons_succ, Act.put, List.setIfInBounds_toArray, List.set_cons_zero, List.set_cons_succ]
      refine late_take (i := 5) (v := .slice (some ⟨ka, 0, none⟩) N kc) rfl (by kernel_rfl) (by kernel_rfl) (by kernel_rfl) (by kernel_rfl) (fun _ _ _ h => h) (ldV_if rfl 57 Tryz.isAgg57 (.tmp 2) rfl ⟨g7, 0, none⟩ rfl (fun w' h => h.cell' c7)) S0 ?_
      simp only [List.getElem_toArray, List.getElem_cons_zero, List.getElem_cons_succ, Act.put, List.setIfInBounds_toArray, List.set_cons_zero, List.set_cons_succ]
      refine late_take (i := 6) (v := .int .i64 (n : Int)) rfl (by kernel_rfl) (by kernel_rfl) (by kernel_rfl) (by kernel_rfl) (fun _ _ _ h => h) (Or.inl ⟨rfl, fun _ _ => by go_simp⟩) S0 ?_
      simp only [List.getElem_toArray, List.getElem_cons_zero, List.getElem_cons_succ, Act.put, List.setIfInBounds_toArray, List.set_cons_zero, List.set_cons_succ]
      refine late_take (i := 7) (v := .pointer (some ⟨ka, n * 1, none⟩)) rfl (by kernel_rfl) (by kernel_rfl) (by kernel_rfl) (by kernel_rfl) (fun _ _ _ h => h) (ixV_if rfl 57 (.tmp 30) (.tmp 31) rfl _ _ _ rfl rfl hixn) S0 ?_
      simp only [List.getElem_toArray, List.getElem_cons_zero, List.getElem_cons_succ, Act.put, List.setIfInBounds_toArray, List.set_cons_zero, List.set_cons_succ]
      refine late_take (i := 8) (v := .slice (some ⟨bq, 0, none⟩) 24 cq) rfl (by kernel_rfl) (by kernel_rfl) (by kernel_rfl) (by kernel_rfl) (fun _ _ _ h => h) (ldV_if rfl 58 Tryz.isAgg58 (.tmp 32) rfl ⟨ka, n * 1, none⟩ rfl (fun w' h => h.cell' y57)) S0 ?_
      simp only [List.getElem_toArray, List.getElem_cons_zero, List.getElem_cons_succ, Act.put, List.setIfInBounds_toArray, List.set_cons_zero, List.set_cons_succ]
      refine late_take (i := 9) (v := .int .i64 (l : Int)) rfl (by kernel_rfl) (by kernel_rfl) (by kernel_rfl) (by kernel_rfl) (fun _ _ _ h => h) (Or.inl ⟨rfl, fun _ _ => by go_simp⟩) S0 ?_
      simp only [List.getElem_toArray, List.getElem_cons_zero, List.getElem_cons_succ, Act.put, List.setIfInBounds_toArray, List.set_cons_zero, List.set_cons_succ]
      refine late_take (i := 10) (v := .pointer (some ⟨bq, l * 2, none⟩)) rfl (by kernel_rfl) (by kernel_rfl) (by kernel_rfl) (by kernel_rfl) (fun _ _ _ h => h) (ixV_if rfl 58 (.tmp 33) (.tmp 34) rfl _ _ _ rfl rfl hixl) S0 ?_
      simp only [List.getElem_toArray, List.getElem_cons_zero, List.getElem_cons_succ, Act.put, List.setIfInBounds_toArray, List.set_cons_zero, List.set_cons_succ]
      refine late_take (i := 11) (v := .agg (srcK (Kc n l)).toArray) rfl (by kernel_rfl) (by kernel_rfl) (by kernel_rfl) (by kernel_rfl) (fun _ _ _ h => h) (yieldsIf_load_mid (by rfl) _ _ rfl bq (l * 2) rfl (srcK (Kc n l)) _ (fun w' h => HRG.out _ h) Tryz.underlying39 rfl infoSr) S0 ?_
      simp only [List.getElem_toArray, List.getElem_cons_zero, List.getElem_cons_succ, Act.put, List.setIfInBounds_toArray, List.set_cons_zero, List.set_cons_succ]
      refine late_take (i := 12) (v := .func (.func 74) #[] #[.pointer (some ⟨g5, 0, none⟩), .pointer (some ⟨g7, 0, none⟩), .pointer (some ⟨g6, 0, none⟩)]) rfl (by kernel_rfl) (by kernel_rfl) (by kernel_rfl) (by kernel_rfl) (fun _ _ _ h => h) (ldV_if rfl 153 Tryz.isAgg153 (.tmp 4) rfl ⟨g8, 0, none⟩ rfl (fun w' h => h.cell' c8)) S0 ?_
      simp only [List.getElem_toArray, List.getElem_cons_zero, List.getElem_cons_succ, Act.put, List.setIfInBounds_toArray, List.set_cons_zero, List.set_cons_succ]
      refine late_take (i := 13) (v := .int .i64 (n : Int)) rfl (by kernel_rfl) (by kernel_rfl) (by kernel_rfl) (by kernel_rfl) (fun _ _ _ h => h) (Or.inl ⟨rfl, fun _ _ => by go_simp⟩) S0 ?_
      simp only [List.getElem_toArray, List.getElem_cons_zero, List.getElem_cons_succ, Act.put, List.setIfInBounds_toArray, List.set_cons_zero, List.set_cons_succ]
      refine late_take (i := 14) (v := .int .i64 (k : Int)) rfl (by kernel_rfl) (by kernel_rfl) (by kernel_rfl) (by kernel_rfl) (fun _ _ _ h => h) (Or.inl ⟨rfl, fun _ _ => by go_simp⟩) S0 ?_
      simp only [List.getElem_toArray, List.getElem_cons_zero, List.getElem_cons_succ, Act.put, List.setIfInBounds_toArray, List.set_cons_zero, List.set_cons_succ]
      refine late_take (i := 15) (v := .int .i64 (l : Int)) rfl (by kernel_rfl) (by kernel_rfl) (by kernel_rfl) (by kernel_rfl) (fun _ _ _ h => h) (Or.inl ⟨rfl, fun _ _ => by go_simp⟩) S0 ?_
      simp only [List.getElem_toArray, List.getElem_cons_zero, List.getElem_cons_succ, Act.put, List.setIfInBounds_toArray, List.set_cons_zero, List.set_cons_succ]
      refine late_take (i := 17) (v := .int .i64 (l : Int)) rfl (by kernel_rfl) (by kernel_rfl) (by kernel_rfl) (by kernel_rfl) (fun _ _ _ h => h) (Or.inl ⟨rfl, fun _ _ => by go_simp⟩) S0 ?_
      simp only [List.getElem_toArray, List.getElem_cons_zero, List.getElem_cons_succ, Act.put, List.setIfInBounds_toArray, List.set_cons_zero, List.set_cons_succ]
      refine late_forced [16, 18, 19, 20] _ _ _ (by kernel_rfl) ?_
      have hS := hs6.go S0
      refine LL_call rfl rfl 74 #[.int .i64 (n : Int), .int .i64 (k : Int), .int .i64 (l : Int), .pointer (some ⟨g5, 0, none⟩), .pointer (some ⟨g7, 0, none⟩), .pointer (some ⟨g6, 0, none⟩)] (by go_simp) ?_
      refine (by_any f s Kc N n l k e g5 g7 g6 _ _ _ _ HN.out HG.out hn hl HE.out (HasC.new B5 S0) (HasC.new B7 S0) (HasC.new B6 S0) (RA.new S0) (hbf.new S0) (RW.new S0)).mono ?_
      rintro r w2 ⟨rfl, hn2⟩
      have hS2 := hS.go hn2
      refine ⟨_, rfl, S0.trans hn2, ?_⟩
      simp only [List.getElem_toArray, List.getElem_cons_zero, List.getElem_cons_succ, Act.put, List.setIfInBounds_toArray, List.set_cons_zero, List.set_cons_succ]
      obtain ⟨X, HX⟩ : ∃ X, Hid (byK f s Kc e l = X) := ⟨_, Lib.hid rfl⟩
      rw [HX.out] at HMM ⊢
      refine LL_call rfl rfl 76 #[.agg (srcK (Kc n l)).toArray, .agg (srcK X).toArray, .int .i64 (l : Int)] (by go_simp) ?_
      refine (met_any (Kc n l) X l _).mono ?_
      rintro r w3 ⟨rfl, hn3⟩
      have hS3 := hS2.go hn3
      refine ⟨_, rfl, (S0.trans hn2).trans hn3, ?_⟩
      simp only [List.getElem_toArray, List.getElem_cons_zero, List.getElem_cons_succ, Act.put, List.setIfInBounds_toArray, List.set_cons_zero, List.set_cons_succ]
      obtain ⟨Y, HY⟩ : ∃ Y, Hid (metF (Kc n l) X l = Y) := ⟨_, Lib.hid rfl⟩
      rw [HY.out] at HMM ⊢
      refine LL_val (v := .pointer (some ⟨bq, l * 2, none⟩)) (w' := w3) rfl rfl (by unfold execOp; simp only [Act.eval]; simp [hixl]) ((S0.trans hn2).trans hn3) ?_
      simp only [List.getElem_toArray, List.getElem_cons_zero, List.getElem_cons_succ, Act.put, List.setIfInBounds_toArray, List.set_cons_zero, List.set_cons_succ]
      obtain ⟨w4, hr4, hs4⟩ := run_stLw 0 39 bq 24 cq l HRL.out (y := Y) (.agg (srcK Y).toArray) hS3 rfl (by decide) rfl rfl (srcK_one _) infoSr
      refine LL_skip rfl rfl rfl (run_stO 39 (.tmp 44) (.tmp 43) rfl rfl rfl hr4) (fun h => absurd rfl h) ?_
      have h7 := Sep.nest (P := srcsO) hs4
      have h9 := Sep.back ((h7.pull 2 rfl).pull 1 rfl) rfl
      rw [tabK_upd Kc hl, HMM.out] at h9
      have HV := Lib.hid (h9.pull 1 rfl)
      refine NoPanic.normal ?_
      clear h7 h9 hs4 hr4 hS hS2 hS3 hs6 S0 hn2 hn3 y57 c7 c8 B5 B6 B7 RA RW hbf
      go_wp2
      go_roundw
      case rel => exact ⟨k + 1, by go_num, by omega, HV⟩
      case measure => simp [intOf]; omega
    · have HFE : Hid (es.take k = es) := Lib.hid (List.take_of_length_le (by rw [HM.out]; omega))
      rw [HFE.out] at HT
      obtain ⟨Kc, HKC⟩ : ∃ Kc, Hid (meetK f s n l es K = Kc) := ⟨_, Lib.hid rfl⟩
      rw [HKC.out] at HT
      obtain ⟨b1, o1, u1, i1, r1, d1⟩ := nest_ix (P := Tryz.prog) (HT.out.rd 1 rfl) 57 Tryz.underlying57 sizeSs (tabK_at Kc hn)
      obtain ⟨a1, c1, hu1⟩ := rowA_form d1
      rw [rowK_len] at hu1
      subst hu1
      obtain ⟨b2, o2, i2, r2⟩ := leaf_ix (P := Tryz.prog) d1 58 Tryz.underlying58 sizeSr (rowK_at Kc n hl)
      have H1 := Lib.hid r1
      have H2 := Lib.hid r2
      have c7 := HT.out.cell 2 rfl (k := 0) rfl
      have B9 := Lib.hid (HT.out.has 0 rfl)
      have hq := neq_sr (Kc n l) (K n l)
      have u3 := Tryz.underlying3
      have a3 := Tryz.isAgg3
      have u4 := Tryz.underlying2
      have a4 := Tryz.isAgg2
      clear r1 r2 d1
      go_wp2_with fail
      have S0 : New wr wr.drew := (New.refl wr).drew
      refine wp_region_noPanic ?_
      refine region_late (k := 9) (S := fun w' => New wr w') (by kernel_rfl) S0 (fun _ => ?_)
      refine late_take (i := 0) (v := .slice (some ⟨ka, 0, none⟩) N kc) rfl (by kernel_rfl) (by kernel_rfl) (by kernel_rfl) (by kernel_rfl) (fun _ _ _ h => h) (ldV_if rfl 57 Tryz.isAgg57 (.tmp 2) rfl ⟨g7, 0, none⟩ rfl (fun w' h => h.cell' c7)) S0 ?_
      simp only [List.getElem_toArray, List.getElem_cons_zero, Act.put, List.setIfInBounds_toArray, List.set_cons_zero, List.set_cons_succ]
      refine late_take (i := 1) (v := .int .i64 (n : Int)) rfl (by kernel_rfl) (by kernel_rfl) (by kernel_rfl) (by kernel_rfl) (fun _ _ _ h => h) (Or.inl ⟨rfl, fun _ _ => by go_simp⟩) S0 ?_
      simp only [List.getElem_toArray, List.getElem_cons_zero, List.getElem_cons_succ, Act.put, List.setIfInBounds_toArray, List.set_cons_zero, List.set_cons_succ]
      refine late_take (i := 2) (v := .pointer (some ⟨b1, o1, none⟩)) rfl (by kernel_rfl) (by kernel_rfl) (by kernel_rfl) (by kernel_rfl) (fun _ _ _ h => h) (ixV_if rfl 57 (.tmp 46) (.tmp 47) rfl _ _ _ rfl rfl i1) S0 ?_
      simp only [List.getElem_toArray, List.getElem_cons_zero, List.getElem_cons_succ, Act.put, List.setIfInBounds_toArray, List.set_cons_zero, List.set_cons_succ]
      refine late_take (i := 3) (v := .slice a1 24 c1) rfl (by kernel_rfl) (by kernel_rfl) (by kernel_rfl) (by kernel_rfl) (fun _ _ _ h => h) (ldV_if rfl 58 Tryz.isAgg58 (.tmp 48) rfl ⟨b1, o1, none⟩ rfl (fun w' h => H1.out _ h)) S0 ?_
      simp only [List.getElem_toArray, List.getElem_cons_zero, List.getElem_cons_succ, Act.put, List.setIfInBounds_toArray, List.set_cons_zero, List.set_cons_succ]
      refine late_take (i := 4) (v := .int .i64 (l : Int)) rfl (by kernel_rfl) (by kernel_rfl) (by kernel_rfl) (by kernel_rfl) (fun _ _ _ h => h) (Or.inl ⟨rfl, fun _ _ => by go_simp⟩) S0 ?_
      simp only [List.getElem_toArray, List.getElem_cons_zero, List.getElem_cons_succ, Act.put, List.setIfInBounds_toArray, List.set_cons_zero, List.set_cons_succ]
      refine late_take (i := 5) (v := .pointer (some ⟨b2, o2, none⟩)) rfl (by kernel_rfl) (by kernel_rfl) (by kernel_rfl) (by kernel_rfl) (fun _ _ _ h => h) (ixV_if rfl 58 (.tmp 49) (.tmp 50) rfl _ _ _ rfl rfl i2) S0 ?_
      simp only [List.getElem_toArray, List.getElem_cons_zero, List.getElem_cons_succ, Act.put, List.setIfInBounds_toArray, List.set_cons_zero, List.set_cons_succ]
      refine late_take (i := 6) (v := .agg #[.int .i64 (Kc n l).1, .int .i64 (Kc n l).2]) rfl (by kernel_rfl) (by kernel_rfl) (by kernel_rfl) (by kernel_rfl) (fun _ _ _ h => h) (yieldsIf_load_mid (by rfl) _ _ rfl b2 o2 rfl (srcK (Kc n l)) _ (fun w' h => H2.out _ h) Tryz.underlying39 rfl infoSr) S0 ?_
      simp only [List.getElem_toArray, List.getElem_cons_zero, List.getElem_cons_succ, Act.put, List.setIfInBounds_toArray, List.set_cons_zero, List.set_cons_succ]
      refine late_take (i := 7) (v := .agg #[.int .i64 (K n l).1, .int .i64 (K n l).2]) rfl (by kernel_rfl) (by kernel_rfl) (by kernel_rfl) (by kernel_rfl) (fun _ _ _ h => h) (yieldsIf_load_mid (by rfl) _ _ rfl g9 0 rfl (srcK (K n l)) _ (fun w' h => HasC.all (HasC.new B9.out h)) Tryz.underlying39 rfl infoSr) S0 ?_
      simp only [List.getElem_toArray, List.getElem_cons_zero, List.getElem_cons_succ, Act.put, List.setIfInBounds_toArray, List.set_cons_zero, List.set_cons_succ]
      refine late_forced [8, 9] _ _ _ (by kernel_rfl) ?_
      refine LL_val (v := .bool (!decide (Kc n l = K n l))) (w' := wr.drew) rfl rfl (by go_simp) S0 ?_
      simp only [List.getElem_toArray, List.getElem_cons_zero, List.getElem_cons_succ, Act.put, List.setIfInBounds_toArray, List.set_cons_zero, List.set_cons_succ]
      refine LL_val (v := .bool (!decide (Kc n l = K n l))) (w' := wr.drew) rfl rfl (by go_simp) S0 ?_
      simp only [List.getElem_toArray, List.getElem_cons_zero, List.getElem_cons_succ, Act.put, List.setIfInBounds_toArray, List.set_cons_zero, List.set_cons_succ]
      have HV := Lib.hid (HT.out.go S0).drop
      refine NoPanic.normal ?_
      clear S0 c7 hq
      go_wp2
      go_ret
      exact ⟨by rw [HKC.out]; rfl, by rw [HKC.out]; exact HV.out⟩
end Go.Proofs.YtphopkjgfkaihaaGreatDoor
namespace Go.Proofs.YtphopkjgfkaihaaGreatDoor
open Go.RowKit

theorem tabK_eq {N : Nat} {K F : Kt} (h : ∀ n l, n < N → l < 24 → K n l = F n l) : tabK N K = tabK N F := by
  unfold tabK rowK
  refine List.map_congr_left fun n hn => List.map_congr_left fun l hl => h n l (List.mem_range.mp hn) (List.mem_range.mp hl)
theorem fact_eq {f : List I} (hf : (chkF f).2 = 0) {cut : List Bool} {K F : Kt} (hK : FactTab f (sklA f cut) K) (hF : FactTab f (sklA f cut) F) : tabK (sklA f cut).nodes.length K = tabK (sklA f cut).nodes.length F :=
  tabK_eq fun n l hn hl => is_one hf (hK n l hn hl) (hF n l hn hl)
/-- A place has been met: it stays as it was, by all ways, or falls. -/
theorem meet_dec {f : List I} {s : Skl} (hg : GoodS s) {K : Kt} (hK : Kn f s K) {n l : Nat} (hn : n < s.nodes.length) (hl : l < 24) :
    (meetK f s n l (edgesA s (n : Int)) K n l = K n l → meetK f s n l (edgesA s (n : Int)) K = K ∧ Stay f s K n l) ∧
    (¬ meetK f s n l (edgesA s (n : Int)) K n l = K n l → sumK s.nodes.length (meetK f s n l (edgesA s (n : Int)) K) < sumK s.nodes.length K) ∧ Kn f s (meetK f s n l (edgesA s (n : Int)) K) := by
  obtain ⟨h1, h2, h3⟩ := meet_all hg hn hl (edgesA s (n : Int)) (fun _ h => h) hK
  refine ⟨fun e => ?_, fun e => ?_, h1⟩
  · rcases h3 with ⟨h4, h5⟩ | h3
    · exact ⟨h4, h5⟩
    · rw [e] at h3
      omega
  · rcases h3 with ⟨h4, _⟩ | h3
    · exact absurd (by rw [h4]) e
    · exact sum_lt hn hl h3 h2
theorem zeroAll_run (w : World) : (zeroValue 53).run Tryz.prog w = .ok (.slice none 0 0) w := Tryz.zeroValue53 w
theorem zeroFs_run (w : World) : (zeroValue 57).run Tryz.prog w = .ok (.slice none 0 0) w := Tryz.zeroValue57 w
theorem zeroBy_run (w : World) : (zeroValue 153).run Tryz.prog w = .ok .nilFunc w := Tryz.zeroValue153 w
theorem infoAll : (Tryz.prog.info? 53).map (·.size) = some 1 := by kernel_rfl
theorem infoBy : (Tryz.prog.info? 153).map (·.size) = some 1 := by kernel_rfl
/-- What a pass has left as it was, or lowered. -/
def PassK (f : List I) (s : Skl) (K : Kt) (m j : Nat) (c : Bool) (K' : Kt) : Prop := if c = true then sumK s.nodes.length K' < sumK s.nodes.length K else K' = K ∧ (∀ n l, n < m → l < 24 → Stay f s K n l) ∧ ∀ l < j, Stay f s K m l
theorem pass_stay {f : List I} {s : Skl} {K K' : Kt} {m j : Nat} {c : Bool} (h : PassK f s K m j c K') (hs : Stay f s K' m j) : PassK f s K m (j + 1) c K' := by
  unfold PassK at h ⊢
  cases c with
  | true => exact h
  | false =>
    rw [if_neg (by decide)] at h ⊢
    obtain ⟨h1, h2, h3⟩ := h
    refine ⟨h1, h2, fun l hl => ?_⟩
    by_cases e : l = j
    · rw [e, ← h1]; exact hs
    · exact h3 l (by omega)
theorem pass_less {f : List I} {s : Skl} {K K' K2 : Kt} {m j : Nat} {c : Bool} (h : PassK f s K m j c K') (hs : sumK s.nodes.length K2 < sumK s.nodes.length K') : PassK f s K m (j + 1) true K2 := by
  unfold PassK at h ⊢
  rw [if_pos rfl]
  cases c with
  | true => rw [if_pos rfl] at h; omega
  | false =>
    rw [if_neg (by decide)] at h
    rw [← h.1]
    exact hs
theorem pass_next {f : List I} {s : Skl} {K K' : Kt} {m : Nat} {c : Bool} (h : PassK f s K m 24 c K') : PassK f s K (m + 1) 0 c K' := by
  unfold PassK at h ⊢
  cases c with
  | true => exact h
  | false =>
    rw [if_neg (by decide)] at h ⊢
    obtain ⟨h1, h2, h3⟩ := h
    refine ⟨h1, fun n l hn hl => ?_, fun l hl => absurd hl (Nat.not_lt_zero _)⟩
    by_cases e : n = m
    · rw [e]; exact h3 l hl
    · exact h2 n l (by omega) hl
theorem one_val {v : Value} {n : Nat} (h : ∃ ao cap, v = .slice ao n cap) : v.cells = [v].toArray := by
  obtain ⟨ao, cap, rfl⟩ := h
  rfl
theorem one_oc {v : Value} {n : Nat} (h : ∃ ao cap, v = .slice ao n cap) : v.oneCell' = true := by
  obtain ⟨ao, cap, rfl⟩ := h
  rfl
set_option maxHeartbeats 16000000 in
set_option maxRecDepth 100000 in
theorem facts_in (fo : Option Addr) (n fc : Nat) (f : List I) (cut : List Bool) (s : Skl) (F : Kt) (na : Option Addr) (N nc : Nat) (w : World) (hl : Laid w) (hf : FunAt w (.slice fo n fc) f) (hs : (nodesO (.slice na N nc) s.nodes).rd w) (hN : s.nodes.length = N) (hN2 : N ≤ 200) (hB : GoodS s) (hi : InS f s) (hr : (chkF f).2 = 0) (hsk : sklA f cut = s) (hF : FactTab f s F) :
    Calls Tryz.prog 44 #[.slice fo n fc, .agg (skC s.entry (.slice na N nc)).toArray] w fun e w' => ∃ v, e = .returned v ∧ Sep w w' [factsO v (tabK N F)] := by
  have HR := Lib.hid hs
  have HN := Lib.hid hN
  have HB := Lib.hid hB
  have HQ := Lib.hid (Sep.start w)
  have HL := Lib.hid hl
  have HF := Lib.hid hf
  have HI := Lib.hid hi
  have HC := Lib.hid hr
  have HSK := Lib.hid hsk
  have HFT := Lib.hid hF
  have HLN : Hid (∀ m : Int, (edgesA s m).length ≤ 100000) := Lib.hid fun m => by
    have h1 := ed_len (s := s) (m := N) (k := 0) (n := m) hB.b
    rw [ed_done (by rw [hN]; exact Nat.le_refl _), hN] at h1
    omega
  clear hs hN hB hl hf hi hr hsk hF
  have T1 : Hid True := Lib.hid trivial
  go_enter Tryz.func44, Tryz.ntmps44
  go_wp2_with (clear T1; refine wpList_boxB rfl 34 (.tmp 1) rfl (skC s.entry (.slice na N nc)) rfl HQ.out ?_; intro wa gb hs; replace HQ := Lib.hid hs; clear hs)
  have N5 : Hid (New w wa) := Lib.hid HQ.out.nw
  have HB5 := Lib.hid (HQ.out.has 0 rfl)
  have HS := Lib.hid (Sep.start wa)
  clear HQ
  go_cut [5, 6] from 13 to 17 (fun c5 c6 wF => ∃ (g5 g6 : Nat) (va vw : Value), c5 = .pointer (some ⟨g5, 0, none⟩) ∧ c6 = .pointer (some ⟨g6, 0, none⟩) ∧ Hid (Sep wa wF [blk g6 88 [vw], blk g5 53 [va], waysO vw (edTab N (edgesA s)), allO va (allT f s)]))
  case first =>
    have S0 : Hid (New wa wa.drew) := Lib.hid ((New.refl wa).drew)
    replace HS := Lib.hid (HS.out.go S0.out)
    refine wp_region_noPanic ?_
    refine wp_region_held_drew (S := fun w' => New wa w') (by kernel_rfl) S0.out (fun _ => ?_)
    refine wpAnyH_take (i := 0) (v := .slice fo n fc) rfl (by kernel_rfl) (by kernel_rfl) (by kernel_rfl) (fun _ _ _ h => h) (Or.inl ⟨rfl, fun _ _ => by go_simp⟩) S0.out ?_
    simp only [List.getElem_toArray, List.getElem_cons_zero, Act.put, List.setIfInBounds_toArray, List.set_cons_zero, List.set_cons_succ]
    refine wpAnyH_take (i := 1) (v := .agg (skC s.entry (.slice na N nc)).toArray) rfl (by kernel_rfl) (by kernel_rfl) (by kernel_rfl) (fun _ _ _ h => h) (yieldsIf_load_mid (by rfl) _ _ rfl gb 0 rfl (skC s.entry (.slice na N nc)) _ (fun w' h => HasC.all (HasC.new HB5.out h)) Tryz.underlying34 rfl (by rw [skC_len]; exact infoSk)) S0.out ?_
    simp only [List.getElem_toArray, List.getElem_cons_zero, List.getElem_cons_succ, Act.put, List.setIfInBounds_toArray, List.set_cons_zero, List.set_cons_succ]
    refine wpAnyH_take (i := 3) (v := .agg (skC s.entry (.slice na N nc)).toArray) rfl (by kernel_rfl) (by kernel_rfl) (by kernel_rfl) (fun _ _ _ h => h) (yieldsIf_load_mid (by rfl) _ _ rfl gb 0 rfl (skC s.entry (.slice na N nc)) _ (fun w' h => HasC.all (HasC.new HB5.out h)) Tryz.underlying34 rfl (by rw [skC_len]; exact infoSk)) S0.out ?_
    simp only [List.getElem_toArray, List.getElem_cons_zero, List.getElem_cons_succ, Act.put, List.setIfInBounds_toArray, List.set_cons_zero, List.set_cons_succ]
    refine wpAnyH_all (rs := [2, 5, 6]) (by kernel_rfl) (by simp) ?_
    simp only [List.mem_cons, List.not_mem_nil, or_false]
    rintro t (rfl | rfl | rfl)
    · refine wpOp_call (i := 2) rfl rfl 43 #[.slice fo n fc, .agg (skC s.entry (.slice na N nc)).toArray] (by go_simp) ?_
      refine (all_in fo n fc f s na N nc _ (HL.out.new (N5.out.trans HS.out.nw)) (HF.out.new (N5.out.trans HS.out.nw)) (HR.out.new (N5.out.trans HS.out.nw)) HN.out hN2 HB.out HI.out).mono ?_
      rintro e wA ⟨va, rfl, hs⟩
      have HVA := Lib.hid (rowA_form (hs.rd 0 rfl))
      replace HS := Lib.hid (HS.out.call hs)
      clear hs
      refine ⟨_, rfl, HS.out.nw, ?_⟩
      simp only [List.getElem_toArray, List.getElem_cons_zero, List.getElem_cons_succ, Act.put, List.setIfInBounds_toArray, List.set_cons_zero, List.set_cons_succ]
      refine wpAnyH_all (rs := [4, 5, 6]) (by kernel_rfl) (by simp) ?_
      simp only [List.mem_cons, List.not_mem_nil, or_false]
      rintro t (rfl | rfl | rfl)
      · refine wpOp_call (i := 4) rfl rfl 28 #[.agg (skC s.entry (.slice na N nc)).toArray] (by go_simp) ?_
        refine (ways_any s (.slice na N nc) _ (HR.out.new (N5.out.trans HS.out.nw)) (by rw [HN.out]; omega) HB.out.b).mono ?_
        rw [HN.out]
        rintro e wB ⟨vw, rfl, hs⟩
        have HVW := Lib.hid (rowA_form (hs.rd 0 rfl))
        replace HS := Lib.hid (HS.out.call hs)
        clear hs
        refine ⟨_, rfl, HS.out.nw, ?_⟩
        simp only [List.getElem_toArray, List.getElem_cons_zero, List.getElem_cons_succ, Act.put, List.setIfInBounds_toArray, List.set_cons_zero, List.set_cons_succ]
        refine wpAnyH_all (rs := [5, 6]) (by kernel_rfl) (by simp) ?_
        simp only [List.mem_cons, List.not_mem_nil, or_false]
        rintro t (rfl | rfl)
        · refine wpOp_alX (i := 5) rfl rfl 53 rfl _ zeroAll_run [.slice none 0 0] rfl ?_
          intro wC g5 hg1 _ hg2 hg3
          replace HS := Lib.hid (HS.out.new hg3 hg1 hg2)
          clear hg1 hg2 hg3
          refine ⟨HS.out.nw, ?_⟩
          simp only [List.getElem_toArray, List.getElem_cons_zero, List.getElem_cons_succ, Act.put, List.setIfInBounds_toArray, List.set_cons_zero, List.set_cons_succ]
          refine wpAnyH_all (rs := [6]) (by kernel_rfl) (by simp) ?_
          simp only [List.mem_cons, List.not_mem_nil, or_false]
          rintro t rfl
          refine wpOp_alX (i := 6) rfl rfl 88 rfl _ zeroWs_run [.slice none 0 0] rfl ?_
          intro wC g6 hg1 _ hg2 hg3
          replace HS := Lib.hid (HS.out.new hg3 hg1 hg2)
          clear hg1 hg2 hg3
          refine ⟨HS.out.nw, ?_⟩
          simp only [List.getElem_toArray, List.getElem_cons_zero, List.getElem_cons_succ, Act.put, List.setIfInBounds_toArray, List.set_cons_zero, List.set_cons_succ]
          refine wpAnyH_forced [7, 8] _ _ _ HS.out.nw (by kernel_rfl) (by simp) ?_
          simp only [List.map_cons, List.map_nil, Array.getD_eq_getD_getElem?, List.getElem?_toArray, List.getElem?_cons_succ, List.getElem?_cons_zero, Option.getD_some]
          have hq := HasC.store (HS.out.has 1 rfl) 0 [va] 53 va (one_val HVA.out) (by simp) (by simpa using one_oc HVA.out) infoAll
          refine wpLS_skip rfl (run_stO 53 (.tmp 5) (.tmp 15) rfl rfl rfl hq) rfl ((HS.out.setAt 1 rfl (Kept.put _ _ _) (HasC.put (HS.out.has 1 rfl) _)).nw) ?_
          have h1 := HS.out.setAt 1 rfl (Kept.put _ g5 _) (HasC.put (HS.out.has 1 rfl) [va])
          have hq2 := HasC.store (h1.has 0 rfl) 0 [vw] 88 vw (one_val HVW.out) (by simp) (by simpa using one_oc HVW.out) infoWs
          refine wpLS_skip rfl (run_stO 88 (.tmp 6) (.tmp 17) rfl rfl rfl hq2) rfl ((h1.setAt 0 rfl (Kept.put _ _ _) (HasC.put (h1.has 0 rfl) _)).nw) ?_
          have h2 := h1.setAt 0 rfl (Kept.put _ g6 _) (HasC.put (h1.has 0 rfl) [vw])
          have h3 := ((((h2.pull 3 rfl).pull 3 rfl).pull 3 rfl).pull 3 rfl)
          refine wpLS_nil ?_
          refine NoPanic.normal ?_
          have HV := Lib.hid h3
          clear hq hq2 h1 h2 h3
          go_wp2_with fail
          go_meet
          exact ⟨g5, g6, va, vw, rfl, rfl, HV⟩
        · refine wpOp_alX (i := 6) rfl rfl 88 rfl _ zeroWs_run [.slice none 0 0] rfl ?_
          intro wC g6 hg1 _ hg2 hg3
          replace HS := Lib.hid (HS.out.new hg3 hg1 hg2)
          clear hg1 hg2 hg3
          refine ⟨HS.out.nw, ?_⟩
          simp only [List.getElem_toArray, List.getElem_cons_zero, List.getElem_cons_succ, Act.put, List.setIfInBounds_toArray, List.set_cons_zero, List.set_cons_succ]
          refine wpAnyH_all (rs := [5]) (by kernel_rfl) (by simp) ?_
          simp only [List.mem_cons, List.not_mem_nil, or_false]
          rintro t rfl
          refine wpOp_alX (i := 5) rfl rfl 53 rfl _ zeroAll_run [.slice none 0 0] rfl ?_
          intro wC g5 hg1 _ hg2 hg3
          replace HS := Lib.hid (HS.out.new hg3 hg1 hg2)
          clear hg1 hg2 hg3
          refine ⟨HS.out.nw, ?_⟩
          simp only [List.getElem_toArray, List.getElem_cons_zero, List.getElem_cons_succ, Act.put, List.setIfInBounds_toArray, List.set_cons_zero, List.set_cons_succ]
          refine wpAnyH_forced [7, 8] _ _ _ HS.out.nw (by kernel_rfl) (by simp) ?_
          simp only [List.map_cons, List.map_nil, Array.getD_eq_getD_getElem?, List.getElem?_toArray, List.getElem?_cons_succ, List.getElem?_cons_zero, Option.getD_some]
          have hq := HasC.store (HS.out.has 0 rfl) 0 [va] 53 va (one_val HVA.out) (by simp) (by simpa using one_oc HVA.out) infoAll
          refine wpLS_skip rfl (run_stO 53 (.tmp 5) (.tmp 15) rfl rfl rfl hq) rfl ((HS.out.setAt 0 rfl (Kept.put _ _ _) (HasC.put (HS.out.has 0 rfl) _)).nw) ?_
          have h1 := HS.out.setAt 0 rfl (Kept.put _ g5 _) (HasC.put (HS.out.has 0 rfl) [va])
          have hq2 := HasC.store (h1.has 1 rfl) 0 [vw] 88 vw (one_val HVW.out) (by simp) (by simpa using one_oc HVW.out) infoWs
          refine wpLS_skip rfl (run_stO 88 (.tmp 6) (.tmp 17) rfl rfl rfl hq2) rfl ((h1.setAt 1 rfl (Kept.put _ _ _) (HasC.put (h1.has 1 rfl) _)).nw) ?_
          have h2 := h1.setAt 1 rfl (Kept.put _ g6 _) (HasC.put (h1.has 1 rfl) [vw])
          have h3 := ((((h2.pull 3 rfl).pull 3 rfl).pull 2 rfl).pull 3 rfl)
          refine wpLS_nil ?_
          refine NoPanic.normal ?_
          have HV := Lib.hid h3
          clear hq hq2 h1 h2 h3
          go_wp2_with fail
          go_meet
          exact ⟨g5, g6, va, vw, rfl, rfl, HV⟩
      · refine wpOp_alX (i := 5) rfl rfl 53 rfl _ zeroAll_run [.slice none 0 0] rfl ?_
        intro wC g5 hg1 _ hg2 hg3
        replace HS := Lib.hid (HS.out.new hg3 hg1 hg2)
        clear hg1 hg2 hg3
        refine ⟨HS.out.nw, ?_⟩
        simp only [List.getElem_toArray, List.getElem_cons_zero, List.getElem_cons_succ, Act.put, List.setIfInBounds_toArray, List.set_cons_zero, List.set_cons_succ]
        refine wpAnyH_all (rs := [4, 6]) (by kernel_rfl) (by simp) ?_
        simp only [List.mem_cons, List.not_mem_nil, or_false]
        rintro t (rfl | rfl)
        · refine wpOp_call (i := 4) rfl rfl 28 #[.agg (skC s.entry (.slice na N nc)).toArray] (by go_simp) ?_
          refine (ways_any s (.slice na N nc) _ (HR.out.new (N5.out.trans HS.out.nw)) (by rw [HN.out]; omega) HB.out.b).mono ?_
          rw [HN.out]
          rintro e wB ⟨vw, rfl, hs⟩
          have HVW := Lib.hid (rowA_form (hs.rd 0 rfl))
          replace HS := Lib.hid (HS.out.call hs)
          clear hs
          refine ⟨_, rfl, HS.out.nw, ?_⟩
          simp only [List.getElem_toArray, List.getElem_cons_zero, List.getElem_cons_succ, Act.put, List.setIfInBounds_toArray, List.set_cons_zero, List.set_cons_succ]
          refine wpAnyH_all (rs := [6]) (by kernel_rfl) (by simp) ?_
          simp only [List.mem_cons, List.not_mem_nil, or_false]
          rintro t rfl
          refine wpOp_alX (i := 6) rfl rfl 88 rfl _ zeroWs_run [.slice none 0 0] rfl ?_
          intro wC g6 hg1 _ hg2 hg3
          replace HS := Lib.hid (HS.out.new hg3 hg1 hg2)
          clear hg1 hg2 hg3
          refine ⟨HS.out.nw, ?_⟩
          simp only [List.getElem_toArray, List.getElem_cons_zero, List.getElem_cons_succ, Act.put, List.setIfInBounds_toArray, List.set_cons_zero, List.set_cons_succ]
          refine wpAnyH_forced [7, 8] _ _ _ HS.out.nw (by kernel_rfl) (by simp) ?_
          simp only [List.map_cons, List.map_nil, Array.getD_eq_getD_getElem?, List.getElem?_toArray, List.getElem?_cons_succ, List.getElem?_cons_zero, Option.getD_some]
          have hq := HasC.store (HS.out.has 2 rfl) 0 [va] 53 va (one_val HVA.out) (by simp) (by simpa using one_oc HVA.out) infoAll
          refine wpLS_skip rfl (run_stO 53 (.tmp 5) (.tmp 15) rfl rfl rfl hq) rfl ((HS.out.setAt 2 rfl (Kept.put _ _ _) (HasC.put (HS.out.has 2 rfl) _)).nw) ?_
          have h1 := HS.out.setAt 2 rfl (Kept.put _ g5 _) (HasC.put (HS.out.has 2 rfl) [va])
          have hq2 := HasC.store (h1.has 0 rfl) 0 [vw] 88 vw (one_val HVW.out) (by simp) (by simpa using one_oc HVW.out) infoWs
          refine wpLS_skip rfl (run_stO 88 (.tmp 6) (.tmp 17) rfl rfl rfl hq2) rfl ((h1.setAt 0 rfl (Kept.put _ _ _) (HasC.put (h1.has 0 rfl) _)).nw) ?_
          have h2 := h1.setAt 0 rfl (Kept.put _ g6 _) (HasC.put (h1.has 0 rfl) [vw])
          have h3 := ((((h2.pull 3 rfl).pull 2 rfl).pull 3 rfl).pull 3 rfl)
          refine wpLS_nil ?_
          refine NoPanic.normal ?_
          have HV := Lib.hid h3
          clear hq hq2 h1 h2 h3
          go_wp2_with fail
          go_meet
          exact ⟨g5, g6, va, vw, rfl, rfl, HV⟩
        · refine wpOp_alX (i := 6) rfl rfl 88 rfl _ zeroWs_run [.slice none 0 0] rfl ?_
          intro wC g6 hg1 _ hg2 hg3
          replace HS := Lib.hid (HS.out.new hg3 hg1 hg2)
          clear hg1 hg2 hg3
          refine ⟨HS.out.nw, ?_⟩
          simp only [List.getElem_toArray, List.getElem_cons_zero, List.getElem_cons_succ, Act.put, List.setIfInBounds_toArray, List.set_cons_zero, List.set_cons_succ]
          refine wpAnyH_all (rs := [4]) (by kernel_rfl) (by simp) ?_
          simp only [List.mem_cons, List.not_mem_nil, or_false]
          rintro t rfl
          refine wpOp_call (i := 4) rfl rfl 28 #[.agg (skC s.entry (.slice na N nc)).toArray] (by go_simp) ?_
          refine (ways_any s (.slice na N nc) _ (HR.out.new (N5.out.trans HS.out.nw)) (by rw [HN.out]; omega) HB.out.b).mono ?_
          rw [HN.out]
          rintro e wB ⟨vw, rfl, hs⟩
          have HVW := Lib.hid (rowA_form (hs.rd 0 rfl))
          replace HS := Lib.hid (HS.out.call hs)
          clear hs
          refine ⟨_, rfl, HS.out.nw, ?_⟩
          simp only [List.getElem_toArray, List.getElem_cons_zero, List.getElem_cons_succ, Act.put, List.setIfInBounds_toArray, List.set_cons_zero, List.set_cons_succ]
          refine wpAnyH_forced [7, 8] _ _ _ HS.out.nw (by kernel_rfl) (by simp) ?_
          simp only [List.map_cons, List.map_nil, Array.getD_eq_getD_getElem?, List.getElem?_toArray, List.getElem?_cons_succ, List.getElem?_cons_zero, Option.getD_some]
          have hq := HasC.store (HS.out.has 2 rfl) 0 [va] 53 va (one_val HVA.out) (by simp) (by simpa using one_oc HVA.out) infoAll
          refine wpLS_skip rfl (run_stO 53 (.tmp 5) (.tmp 15) rfl rfl rfl hq) rfl ((HS.out.setAt 2 rfl (Kept.put _ _ _) (HasC.put (HS.out.has 2 rfl) _)).nw) ?_
          have h1 := HS.out.setAt 2 rfl (Kept.put _ g5 _) (HasC.put (HS.out.has 2 rfl) [va])
          have hq2 := HasC.store (h1.has 1 rfl) 0 [vw] 88 vw (one_val HVW.out) (by simp) (by simpa using one_oc HVW.out) infoWs
          refine wpLS_skip rfl (run_stO 88 (.tmp 6) (.tmp 17) rfl rfl rfl hq2) rfl ((h1.setAt 1 rfl (Kept.put _ _ _) (HasC.put (h1.has 1 rfl) _)).nw) ?_
          have h2 := h1.setAt 1 rfl (Kept.put _ g6 _) (HasC.put (h1.has 1 rfl) [vw])
          have h3 := ((((h2.pull 3 rfl).pull 1 rfl).pull 3 rfl).pull 3 rfl)
          refine wpLS_nil ?_
          refine NoPanic.normal ?_
          have HV := Lib.hid h3
          clear hq hq2 h1 h2 h3
          go_wp2_with fail
          go_meet
          exact ⟨g5, g6, va, vw, rfl, rfl, HV⟩
      · refine wpOp_alX (i := 6) rfl rfl 88 rfl _ zeroWs_run [.slice none 0 0] rfl ?_
        intro wC g6 hg1 _ hg2 hg3
        replace HS := Lib.hid (HS.out.new hg3 hg1 hg2)
        clear hg1 hg2 hg3
        refine ⟨HS.out.nw, ?_⟩
        simp only [List.getElem_toArray, List.getElem_cons_zero, List.getElem_cons_succ, Act.put, List.setIfInBounds_toArray, List.set_cons_zero, List.set_cons_succ]
        refine wpAnyH_all (rs := [4, 5]) (by kernel_rfl) (by simp) ?_
        simp only [List.mem_cons, List.not_mem_nil, or_false]
        rintro t (rfl | rfl)
        · refine wpOp_call (i := 4) rfl rfl 28 #[.agg (skC s.entry (.slice na N nc)).toArray] (by go_simp) ?_
          refine (ways_any s (.slice na N nc) _ (HR.out.new (N5.out.trans HS.out.nw)) (by rw [HN.out]; omega) HB.out.b).mono ?_
          rw [HN.out]
          rintro e wB ⟨vw, rfl, hs⟩
          have HVW := Lib.hid (rowA_form (hs.rd 0 rfl))
          replace HS := Lib.hid (HS.out.call hs)
          clear hs
          refine ⟨_, rfl, HS.out.nw, ?_⟩
          simp only [List.getElem_toArray, List.getElem_cons_zero, List.getElem_cons_succ, Act.put, List.setIfInBounds_toArray, List.set_cons_zero, List.set_cons_succ]
          refine wpAnyH_all (rs := [5]) (by kernel_rfl) (by simp) ?_
          simp only [List.mem_cons, List.not_mem_nil, or_false]
          rintro t rfl
          refine wpOp_alX (i := 5) rfl rfl 53 rfl _ zeroAll_run [.slice none 0 0] rfl ?_
          intro wC g5 hg1 _ hg2 hg3
          replace HS := Lib.hid (HS.out.new hg3 hg1 hg2)
          clear hg1 hg2 hg3
          refine ⟨HS.out.nw, ?_⟩
          simp only [List.getElem_toArray, List.getElem_cons_zero, List.getElem_cons_succ, Act.put, List.setIfInBounds_toArray, List.set_cons_zero, List.set_cons_succ]
          refine wpAnyH_forced [7, 8] _ _ _ HS.out.nw (by kernel_rfl) (by simp) ?_
          simp only [List.map_cons, List.map_nil, Array.getD_eq_getD_getElem?, List.getElem?_toArray, List.getElem?_cons_succ, List.getElem?_cons_zero, Option.getD_some]
          have hq := HasC.store (HS.out.has 0 rfl) 0 [va] 53 va (one_val HVA.out) (by simp) (by simpa using one_oc HVA.out) infoAll
          refine wpLS_skip rfl (run_stO 53 (.tmp 5) (.tmp 15) rfl rfl rfl hq) rfl ((HS.out.setAt 0 rfl (Kept.put _ _ _) (HasC.put (HS.out.has 0 rfl) _)).nw) ?_
          have h1 := HS.out.setAt 0 rfl (Kept.put _ g5 _) (HasC.put (HS.out.has 0 rfl) [va])
          have hq2 := HasC.store (h1.has 2 rfl) 0 [vw] 88 vw (one_val HVW.out) (by simp) (by simpa using one_oc HVW.out) infoWs
          refine wpLS_skip rfl (run_stO 88 (.tmp 6) (.tmp 17) rfl rfl rfl hq2) rfl ((h1.setAt 2 rfl (Kept.put _ _ _) (HasC.put (h1.has 2 rfl) _)).nw) ?_
          have h2 := h1.setAt 2 rfl (Kept.put _ g6 _) (HasC.put (h1.has 2 rfl) [vw])
          have h3 := ((((h2.pull 3 rfl).pull 2 rfl).pull 2 rfl).pull 3 rfl)
          refine wpLS_nil ?_
          refine NoPanic.normal ?_
          have HV := Lib.hid h3
          clear hq hq2 h1 h2 h3
          go_wp2_with fail
          go_meet
          exact ⟨g5, g6, va, vw, rfl, rfl, HV⟩
        · refine wpOp_alX (i := 5) rfl rfl 53 rfl _ zeroAll_run [.slice none 0 0] rfl ?_
          intro wC g5 hg1 _ hg2 hg3
          replace HS := Lib.hid (HS.out.new hg3 hg1 hg2)
          clear hg1 hg2 hg3
          refine ⟨HS.out.nw, ?_⟩
          simp only [List.getElem_toArray, List.getElem_cons_zero, List.getElem_cons_succ, Act.put, List.setIfInBounds_toArray, List.set_cons_zero, List.set_cons_succ]
          refine wpAnyH_all (rs := [4]) (by kernel_rfl) (by simp) ?_
          simp only [List.mem_cons, List.not_mem_nil, or_false]
          rintro t rfl
          refine wpOp_call (i := 4) rfl rfl 28 #[.agg (skC s.entry (.slice na N nc)).toArray] (by go_simp) ?_
          refine (ways_any s (.slice na N nc) _ (HR.out.new (N5.out.trans HS.out.nw)) (by rw [HN.out]; omega) HB.out.b).mono ?_
          rw [HN.out]
          rintro e wB ⟨vw, rfl, hs⟩
          have HVW := Lib.hid (rowA_form (hs.rd 0 rfl))
          replace HS := Lib.hid (HS.out.call hs)
          clear hs
          refine ⟨_, rfl, HS.out.nw, ?_⟩
          simp only [List.getElem_toArray, List.getElem_cons_zero, List.getElem_cons_succ, Act.put, List.setIfInBounds_toArray, List.set_cons_zero, List.set_cons_succ]
          refine wpAnyH_forced [7, 8] _ _ _ HS.out.nw (by kernel_rfl) (by simp) ?_
          simp only [List.map_cons, List.map_nil, Array.getD_eq_getD_getElem?, List.getElem?_toArray, List.getElem?_cons_succ, List.getElem?_cons_zero, Option.getD_some]
          have hq := HasC.store (HS.out.has 1 rfl) 0 [va] 53 va (one_val HVA.out) (by simp) (by simpa using one_oc HVA.out) infoAll
          refine wpLS_skip rfl (run_stO 53 (.tmp 5) (.tmp 15) rfl rfl rfl hq) rfl ((HS.out.setAt 1 rfl (Kept.put _ _ _) (HasC.put (HS.out.has 1 rfl) _)).nw) ?_
          have h1 := HS.out.setAt 1 rfl (Kept.put _ g5 _) (HasC.put (HS.out.has 1 rfl) [va])
          have hq2 := HasC.store (h1.has 2 rfl) 0 [vw] 88 vw (one_val HVW.out) (by simp) (by simpa using one_oc HVW.out) infoWs
          refine wpLS_skip rfl (run_stO 88 (.tmp 6) (.tmp 17) rfl rfl rfl hq2) rfl ((h1.setAt 2 rfl (Kept.put _ _ _) (HasC.put (h1.has 2 rfl) _)).nw) ?_
          have h2 := h1.setAt 2 rfl (Kept.put _ g6 _) (HasC.put (h1.has 2 rfl) [vw])
          have h3 := ((((h2.pull 3 rfl).pull 1 rfl).pull 2 rfl).pull 3 rfl)
          refine wpLS_nil ?_
          refine NoPanic.normal ?_
          have HV := Lib.hid h3
          clear hq hq2 h1 h2 h3
          go_wp2_with fail
          go_meet
          exact ⟨g5, g6, va, vw, rfl, rfl, HV⟩
    · refine wpOp_alX (i := 5) rfl rfl 53 rfl _ zeroAll_run [.slice none 0 0] rfl ?_
      intro wC g5 hg1 _ hg2 hg3
      replace HS := Lib.hid (HS.out.new hg3 hg1 hg2)
      clear hg1 hg2 hg3
      refine ⟨HS.out.nw, ?_⟩
      simp only [List.getElem_toArray, List.getElem_cons_zero, List.getElem_cons_succ, Act.put, List.setIfInBounds_toArray, List.set_cons_zero, List.set_cons_succ]
      refine wpAnyH_all (rs := [2, 6]) (by kernel_rfl) (by simp) ?_
      simp only [List.mem_cons, List.not_mem_nil, or_false]
      rintro t (rfl | rfl)
      · refine wpOp_call (i := 2) rfl rfl 43 #[.slice fo n fc, .agg (skC s.entry (.slice na N nc)).toArray] (by go_simp) ?_
        refine (all_in fo n fc f s na N nc _ (HL.out.new (N5.out.trans HS.out.nw)) (HF.out.new (N5.out.trans HS.out.nw)) (HR.out.new (N5.out.trans HS.out.nw)) HN.out hN2 HB.out HI.out).mono ?_
        rintro e wA ⟨va, rfl, hs⟩
        have HVA := Lib.hid (rowA_form (hs.rd 0 rfl))
        replace HS := Lib.hid (HS.out.call hs)
        clear hs
        refine ⟨_, rfl, HS.out.nw, ?_⟩
        simp only [List.getElem_toArray, List.getElem_cons_zero, List.getElem_cons_succ, Act.put, List.setIfInBounds_toArray, List.set_cons_zero, List.set_cons_succ]
        refine wpAnyH_all (rs := [4, 6]) (by kernel_rfl) (by simp) ?_
        simp only [List.mem_cons, List.not_mem_nil, or_false]
        rintro t (rfl | rfl)
        · refine wpOp_call (i := 4) rfl rfl 28 #[.agg (skC s.entry (.slice na N nc)).toArray] (by go_simp) ?_
          refine (ways_any s (.slice na N nc) _ (HR.out.new (N5.out.trans HS.out.nw)) (by rw [HN.out]; omega) HB.out.b).mono ?_
          rw [HN.out]
          rintro e wB ⟨vw, rfl, hs⟩
          have HVW := Lib.hid (rowA_form (hs.rd 0 rfl))
          replace HS := Lib.hid (HS.out.call hs)
          clear hs
          refine ⟨_, rfl, HS.out.nw, ?_⟩
          simp only [List.getElem_toArray, List.getElem_cons_zero, List.getElem_cons_succ, Act.put, List.setIfInBounds_toArray, List.set_cons_zero, List.set_cons_succ]
          refine wpAnyH_all (rs := [6]) (by kernel_rfl) (by simp) ?_
          simp only [List.mem_cons, List.not_mem_nil, or_false]
          rintro t rfl
          refine wpOp_alX (i := 6) rfl rfl 88 rfl _ zeroWs_run [.slice none 0 0] rfl ?_
          intro wC g6 hg1 _ hg2 hg3
          replace HS := Lib.hid (HS.out.new hg3 hg1 hg2)
          clear hg1 hg2 hg3
          refine ⟨HS.out.nw, ?_⟩
          simp only [List.getElem_toArray, List.getElem_cons_zero, List.getElem_cons_succ, Act.put, List.setIfInBounds_toArray, List.set_cons_zero, List.set_cons_succ]
          refine wpAnyH_forced [7, 8] _ _ _ HS.out.nw (by kernel_rfl) (by simp) ?_
          simp only [List.map_cons, List.map_nil, Array.getD_eq_getD_getElem?, List.getElem?_toArray, List.getElem?_cons_succ, List.getElem?_cons_zero, Option.getD_some]
          have hq := HasC.store (HS.out.has 3 rfl) 0 [va] 53 va (one_val HVA.out) (by simp) (by simpa using one_oc HVA.out) infoAll
          refine wpLS_skip rfl (run_stO 53 (.tmp 5) (.tmp 15) rfl rfl rfl hq) rfl ((HS.out.setAt 3 rfl (Kept.put _ _ _) (HasC.put (HS.out.has 3 rfl) _)).nw) ?_
          have h1 := HS.out.setAt 3 rfl (Kept.put _ g5 _) (HasC.put (HS.out.has 3 rfl) [va])
          have hq2 := HasC.store (h1.has 0 rfl) 0 [vw] 88 vw (one_val HVW.out) (by simp) (by simpa using one_oc HVW.out) infoWs
          refine wpLS_skip rfl (run_stO 88 (.tmp 6) (.tmp 17) rfl rfl rfl hq2) rfl ((h1.setAt 0 rfl (Kept.put _ _ _) (HasC.put (h1.has 0 rfl) _)).nw) ?_
          have h2 := h1.setAt 0 rfl (Kept.put _ g6 _) (HasC.put (h1.has 0 rfl) [vw])
          have h3 := ((((h2.pull 2 rfl).pull 2 rfl).pull 3 rfl).pull 3 rfl)
          refine wpLS_nil ?_
          refine NoPanic.normal ?_
          have HV := Lib.hid h3
          clear hq hq2 h1 h2 h3
          go_wp2_with fail
          go_meet
          exact ⟨g5, g6, va, vw, rfl, rfl, HV⟩
        · refine wpOp_alX (i := 6) rfl rfl 88 rfl _ zeroWs_run [.slice none 0 0] rfl ?_
          intro wC g6 hg1 _ hg2 hg3
          replace HS := Lib.hid (HS.out.new hg3 hg1 hg2)
          clear hg1 hg2 hg3
          refine ⟨HS.out.nw, ?_⟩
          simp only [List.getElem_toArray, List.getElem_cons_zero, List.getElem_cons_succ, Act.put, List.setIfInBounds_toArray, List.set_cons_zero, List.set_cons_succ]
          refine wpAnyH_all (rs := [4]) (by kernel_rfl) (by simp) ?_
          simp only [List.mem_cons, List.not_mem_nil, or_false]
          rintro t rfl
          refine wpOp_call (i := 4) rfl rfl 28 #[.agg (skC s.entry (.slice na N nc)).toArray] (by go_simp) ?_
          refine (ways_any s (.slice na N nc) _ (HR.out.new (N5.out.trans HS.out.nw)) (by rw [HN.out]; omega) HB.out.b).mono ?_
          rw [HN.out]
          rintro e wB ⟨vw, rfl, hs⟩
          have HVW := Lib.hid (rowA_form (hs.rd 0 rfl))
          replace HS := Lib.hid (HS.out.call hs)
          clear hs
          refine ⟨_, rfl, HS.out.nw, ?_⟩
          simp only [List.getElem_toArray, List.getElem_cons_zero, List.getElem_cons_succ, Act.put, List.setIfInBounds_toArray, List.set_cons_zero, List.set_cons_succ]
          refine wpAnyH_forced [7, 8] _ _ _ HS.out.nw (by kernel_rfl) (by simp) ?_
          simp only [List.map_cons, List.map_nil, Array.getD_eq_getD_getElem?, List.getElem?_toArray, List.getElem?_cons_succ, List.getElem?_cons_zero, Option.getD_some]
          have hq := HasC.store (HS.out.has 3 rfl) 0 [va] 53 va (one_val HVA.out) (by simp) (by simpa using one_oc HVA.out) infoAll
          refine wpLS_skip rfl (run_stO 53 (.tmp 5) (.tmp 15) rfl rfl rfl hq) rfl ((HS.out.setAt 3 rfl (Kept.put _ _ _) (HasC.put (HS.out.has 3 rfl) _)).nw) ?_
          have h1 := HS.out.setAt 3 rfl (Kept.put _ g5 _) (HasC.put (HS.out.has 3 rfl) [va])
          have hq2 := HasC.store (h1.has 1 rfl) 0 [vw] 88 vw (one_val HVW.out) (by simp) (by simpa using one_oc HVW.out) infoWs
          refine wpLS_skip rfl (run_stO 88 (.tmp 6) (.tmp 17) rfl rfl rfl hq2) rfl ((h1.setAt 1 rfl (Kept.put _ _ _) (HasC.put (h1.has 1 rfl) _)).nw) ?_
          have h2 := h1.setAt 1 rfl (Kept.put _ g6 _) (HasC.put (h1.has 1 rfl) [vw])
          have h3 := ((((h2.pull 2 rfl).pull 1 rfl).pull 3 rfl).pull 3 rfl)
          refine wpLS_nil ?_
          refine NoPanic.normal ?_
          have HV := Lib.hid h3
          clear hq hq2 h1 h2 h3
          go_wp2_with fail
          go_meet
          exact ⟨g5, g6, va, vw, rfl, rfl, HV⟩
      · refine wpOp_alX (i := 6) rfl rfl 88 rfl _ zeroWs_run [.slice none 0 0] rfl ?_
        intro wC g6 hg1 _ hg2 hg3
        replace HS := Lib.hid (HS.out.new hg3 hg1 hg2)
        clear hg1 hg2 hg3
        refine ⟨HS.out.nw, ?_⟩
        simp only [List.getElem_toArray, List.getElem_cons_zero, List.getElem_cons_succ, Act.put, List.setIfInBounds_toArray, List.set_cons_zero, List.set_cons_succ]
        refine wpAnyH_all (rs := [2]) (by kernel_rfl) (by simp) ?_
        simp only [List.mem_cons, List.not_mem_nil, or_false]
        rintro t rfl
        refine wpOp_call (i := 2) rfl rfl 43 #[.slice fo n fc, .agg (skC s.entry (.slice na N nc)).toArray] (by go_simp) ?_
        refine (all_in fo n fc f s na N nc _ (HL.out.new (N5.out.trans HS.out.nw)) (HF.out.new (N5.out.trans HS.out.nw)) (HR.out.new (N5.out.trans HS.out.nw)) HN.out hN2 HB.out HI.out).mono ?_
        rintro e wA ⟨va, rfl, hs⟩
        have HVA := Lib.hid (rowA_form (hs.rd 0 rfl))
        replace HS := Lib.hid (HS.out.call hs)
        clear hs
        refine ⟨_, rfl, HS.out.nw, ?_⟩
        simp only [List.getElem_toArray, List.getElem_cons_zero, List.getElem_cons_succ, Act.put, List.setIfInBounds_toArray, List.set_cons_zero, List.set_cons_succ]
        refine wpAnyH_all (rs := [4]) (by kernel_rfl) (by simp) ?_
        simp only [List.mem_cons, List.not_mem_nil, or_false]
        rintro t rfl
        refine wpOp_call (i := 4) rfl rfl 28 #[.agg (skC s.entry (.slice na N nc)).toArray] (by go_simp) ?_
        refine (ways_any s (.slice na N nc) _ (HR.out.new (N5.out.trans HS.out.nw)) (by rw [HN.out]; omega) HB.out.b).mono ?_
        rw [HN.out]
        rintro e wB ⟨vw, rfl, hs⟩
        have HVW := Lib.hid (rowA_form (hs.rd 0 rfl))
        replace HS := Lib.hid (HS.out.call hs)
        clear hs
        refine ⟨_, rfl, HS.out.nw, ?_⟩
        simp only [List.getElem_toArray, List.getElem_cons_zero, List.getElem_cons_succ, Act.put, List.setIfInBounds_toArray, List.set_cons_zero, List.set_cons_succ]
        refine wpAnyH_forced [7, 8] _ _ _ HS.out.nw (by kernel_rfl) (by simp) ?_
        simp only [List.map_cons, List.map_nil, Array.getD_eq_getD_getElem?, List.getElem?_toArray, List.getElem?_cons_succ, List.getElem?_cons_zero, Option.getD_some]
        have hq := HasC.store (HS.out.has 3 rfl) 0 [va] 53 va (one_val HVA.out) (by simp) (by simpa using one_oc HVA.out) infoAll
        refine wpLS_skip rfl (run_stO 53 (.tmp 5) (.tmp 15) rfl rfl rfl hq) rfl ((HS.out.setAt 3 rfl (Kept.put _ _ _) (HasC.put (HS.out.has 3 rfl) _)).nw) ?_
        have h1 := HS.out.setAt 3 rfl (Kept.put _ g5 _) (HasC.put (HS.out.has 3 rfl) [va])
        have hq2 := HasC.store (h1.has 2 rfl) 0 [vw] 88 vw (one_val HVW.out) (by simp) (by simpa using one_oc HVW.out) infoWs
        refine wpLS_skip rfl (run_stO 88 (.tmp 6) (.tmp 17) rfl rfl rfl hq2) rfl ((h1.setAt 2 rfl (Kept.put _ _ _) (HasC.put (h1.has 2 rfl) _)).nw) ?_
        have h2 := h1.setAt 2 rfl (Kept.put _ g6 _) (HasC.put (h1.has 2 rfl) [vw])
        have h3 := ((((h2.pull 1 rfl).pull 1 rfl).pull 3 rfl).pull 3 rfl)
        refine wpLS_nil ?_
        refine NoPanic.normal ?_
        have HV := Lib.hid h3
        clear hq hq2 h1 h2 h3
        go_wp2_with fail
        go_meet
        exact ⟨g5, g6, va, vw, rfl, rfl, HV⟩
    · refine wpOp_alX (i := 6) rfl rfl 88 rfl _ zeroWs_run [.slice none 0 0] rfl ?_
      intro wC g6 hg1 _ hg2 hg3
      replace HS := Lib.hid (HS.out.new hg3 hg1 hg2)
      clear hg1 hg2 hg3
      refine ⟨HS.out.nw, ?_⟩
      simp only [List.getElem_toArray, List.getElem_cons_zero, List.getElem_cons_succ, Act.put, List.setIfInBounds_toArray, List.set_cons_zero, List.set_cons_succ]
      refine wpAnyH_all (rs := [2, 5]) (by kernel_rfl) (by simp) ?_
      simp only [List.mem_cons, List.not_mem_nil, or_false]
      rintro t (rfl | rfl)
      · refine wpOp_call (i := 2) rfl rfl 43 #[.slice fo n fc, .agg (skC s.entry (.slice na N nc)).toArray] (by go_simp) ?_
        refine (all_in fo n fc f s na N nc _ (HL.out.new (N5.out.trans HS.out.nw)) (HF.out.new (N5.out.trans HS.out.nw)) (HR.out.new (N5.out.trans HS.out.nw)) HN.out hN2 HB.out HI.out).mono ?_
        rintro e wA ⟨va, rfl, hs⟩
        have HVA := Lib.hid (rowA_form (hs.rd 0 rfl))
        replace HS := Lib.hid (HS.out.call hs)
        clear hs
        refine ⟨_, rfl, HS.out.nw, ?_⟩
        simp only [List.getElem_toArray, List.getElem_cons_zero, List.getElem_cons_succ, Act.put, List.setIfInBounds_toArray, List.set_cons_zero, List.set_cons_succ]
        refine wpAnyH_all (rs := [4, 5]) (by kernel_rfl) (by simp) ?_
        simp only [List.mem_cons, List.not_mem_nil, or_false]
        rintro t (rfl | rfl)
        · refine wpOp_call (i := 4) rfl rfl 28 #[.agg (skC s.entry (.slice na N nc)).toArray] (by go_simp) ?_
          refine (ways_any s (.slice na N nc) _ (HR.out.new (N5.out.trans HS.out.nw)) (by rw [HN.out]; omega) HB.out.b).mono ?_
          rw [HN.out]
          rintro e wB ⟨vw, rfl, hs⟩
          have HVW := Lib.hid (rowA_form (hs.rd 0 rfl))
          replace HS := Lib.hid (HS.out.call hs)
          clear hs
          refine ⟨_, rfl, HS.out.nw, ?_⟩
          simp only [List.getElem_toArray, List.getElem_cons_zero, List.getElem_cons_succ, Act.put, List.setIfInBounds_toArray, List.set_cons_zero, List.set_cons_succ]
          refine wpAnyH_all (rs := [5]) (by kernel_rfl) (by simp) ?_
          simp only [List.mem_cons, List.not_mem_nil, or_false]
          rintro t rfl
          refine wpOp_alX (i := 5) rfl rfl 53 rfl _ zeroAll_run [.slice none 0 0] rfl ?_
          intro wC g5 hg1 _ hg2 hg3
          replace HS := Lib.hid (HS.out.new hg3 hg1 hg2)
          clear hg1 hg2 hg3
          refine ⟨HS.out.nw, ?_⟩
          simp only [List.getElem_toArray, List.getElem_cons_zero, List.getElem_cons_succ, Act.put, List.setIfInBounds_toArray, List.set_cons_zero, List.set_cons_succ]
          refine wpAnyH_forced [7, 8] _ _ _ HS.out.nw (by kernel_rfl) (by simp) ?_
          simp only [List.map_cons, List.map_nil, Array.getD_eq_getD_getElem?, List.getElem?_toArray, List.getElem?_cons_succ, List.getElem?_cons_zero, Option.getD_some]
          have hq := HasC.store (HS.out.has 0 rfl) 0 [va] 53 va (one_val HVA.out) (by simp) (by simpa using one_oc HVA.out) infoAll
          refine wpLS_skip rfl (run_stO 53 (.tmp 5) (.tmp 15) rfl rfl rfl hq) rfl ((HS.out.setAt 0 rfl (Kept.put _ _ _) (HasC.put (HS.out.has 0 rfl) _)).nw) ?_
          have h1 := HS.out.setAt 0 rfl (Kept.put _ g5 _) (HasC.put (HS.out.has 0 rfl) [va])
          have hq2 := HasC.store (h1.has 3 rfl) 0 [vw] 88 vw (one_val HVW.out) (by simp) (by simpa using one_oc HVW.out) infoWs
          refine wpLS_skip rfl (run_stO 88 (.tmp 6) (.tmp 17) rfl rfl rfl hq2) rfl ((h1.setAt 3 rfl (Kept.put _ _ _) (HasC.put (h1.has 3 rfl) _)).nw) ?_
          have h2 := h1.setAt 3 rfl (Kept.put _ g6 _) (HasC.put (h1.has 3 rfl) [vw])
          have h3 := ((((h2.pull 2 rfl).pull 2 rfl).pull 2 rfl).pull 3 rfl)
          refine wpLS_nil ?_
          refine NoPanic.normal ?_
          have HV := Lib.hid h3
          clear hq hq2 h1 h2 h3
          go_wp2_with fail
          go_meet
          exact ⟨g5, g6, va, vw, rfl, rfl, HV⟩
        · refine wpOp_alX (i := 5) rfl rfl 53 rfl _ zeroAll_run [.slice none 0 0] rfl ?_
          intro wC g5 hg1 _ hg2 hg3
          replace HS := Lib.hid (HS.out.new hg3 hg1 hg2)
          clear hg1 hg2 hg3
          refine ⟨HS.out.nw, ?_⟩
          simp only [List.getElem_toArray, List.getElem_cons_zero, List.getElem_cons_succ, Act.put, List.setIfInBounds_toArray, List.set_cons_zero, List.set_cons_succ]
          refine wpAnyH_all (rs := [4]) (by kernel_rfl) (by simp) ?_
          simp only [List.mem_cons, List.not_mem_nil, or_false]
          rintro t rfl
          refine wpOp_call (i := 4) rfl rfl 28 #[.agg (skC s.entry (.slice na N nc)).toArray] (by go_simp) ?_
          refine (ways_any s (.slice na N nc) _ (HR.out.new (N5.out.trans HS.out.nw)) (by rw [HN.out]; omega) HB.out.b).mono ?_
          rw [HN.out]
          rintro e wB ⟨vw, rfl, hs⟩
          have HVW := Lib.hid (rowA_form (hs.rd 0 rfl))
          replace HS := Lib.hid (HS.out.call hs)
          clear hs
          refine ⟨_, rfl, HS.out.nw, ?_⟩
          simp only [List.getElem_toArray, List.getElem_cons_zero, List.getElem_cons_succ, Act.put, List.setIfInBounds_toArray, List.set_cons_zero, List.set_cons_succ]
          refine wpAnyH_forced [7, 8] _ _ _ HS.out.nw (by kernel_rfl) (by simp) ?_
          simp only [List.map_cons, List.map_nil, Array.getD_eq_getD_getElem?, List.getElem?_toArray, List.getElem?_cons_succ, List.getElem?_cons_zero, Option.getD_some]
          have hq := HasC.store (HS.out.has 1 rfl) 0 [va] 53 va (one_val HVA.out) (by simp) (by simpa using one_oc HVA.out) infoAll
          refine wpLS_skip rfl (run_stO 53 (.tmp 5) (.tmp 15) rfl rfl rfl hq) rfl ((HS.out.setAt 1 rfl (Kept.put _ _ _) (HasC.put (HS.out.has 1 rfl) _)).nw) ?_
          have h1 := HS.out.setAt 1 rfl (Kept.put _ g5 _) (HasC.put (HS.out.has 1 rfl) [va])
          have hq2 := HasC.store (h1.has 3 rfl) 0 [vw] 88 vw (one_val HVW.out) (by simp) (by simpa using one_oc HVW.out) infoWs
          refine wpLS_skip rfl (run_stO 88 (.tmp 6) (.tmp 17) rfl rfl rfl hq2) rfl ((h1.setAt 3 rfl (Kept.put _ _ _) (HasC.put (h1.has 3 rfl) _)).nw) ?_
          have h2 := h1.setAt 3 rfl (Kept.put _ g6 _) (HasC.put (h1.has 3 rfl) [vw])
          have h3 := ((((h2.pull 2 rfl).pull 1 rfl).pull 2 rfl).pull 3 rfl)
          refine wpLS_nil ?_
          refine NoPanic.normal ?_
          have HV := Lib.hid h3
          clear hq hq2 h1 h2 h3
          go_wp2_with fail
          go_meet
          exact ⟨g5, g6, va, vw, rfl, rfl, HV⟩
      · refine wpOp_alX (i := 5) rfl rfl 53 rfl _ zeroAll_run [.slice none 0 0] rfl ?_
        intro wC g5 hg1 _ hg2 hg3
        replace HS := Lib.hid (HS.out.new hg3 hg1 hg2)
        clear hg1 hg2 hg3
        refine ⟨HS.out.nw, ?_⟩
        simp only [List.getElem_toArray, List.getElem_cons_zero, List.getElem_cons_succ, Act.put, List.setIfInBounds_toArray, List.set_cons_zero, List.set_cons_succ]
        refine wpAnyH_all (rs := [2]) (by kernel_rfl) (by simp) ?_
        simp only [List.mem_cons, List.not_mem_nil, or_false]
        rintro t rfl
        refine wpOp_call (i := 2) rfl rfl 43 #[.slice fo n fc, .agg (skC s.entry (.slice na N nc)).toArray] (by go_simp) ?_
        refine (all_in fo n fc f s na N nc _ (HL.out.new (N5.out.trans HS.out.nw)) (HF.out.new (N5.out.trans HS.out.nw)) (HR.out.new (N5.out.trans HS.out.nw)) HN.out hN2 HB.out HI.out).mono ?_
        rintro e wA ⟨va, rfl, hs⟩
        have HVA := Lib.hid (rowA_form (hs.rd 0 rfl))
        replace HS := Lib.hid (HS.out.call hs)
        clear hs
        refine ⟨_, rfl, HS.out.nw, ?_⟩
        simp only [List.getElem_toArray, List.getElem_cons_zero, List.getElem_cons_succ, Act.put, List.setIfInBounds_toArray, List.set_cons_zero, List.set_cons_succ]
        refine wpAnyH_all (rs := [4]) (by kernel_rfl) (by simp) ?_
        simp only [List.mem_cons, List.not_mem_nil, or_false]
        rintro t rfl
        refine wpOp_call (i := 4) rfl rfl 28 #[.agg (skC s.entry (.slice na N nc)).toArray] (by go_simp) ?_
        refine (ways_any s (.slice na N nc) _ (HR.out.new (N5.out.trans HS.out.nw)) (by rw [HN.out]; omega) HB.out.b).mono ?_
        rw [HN.out]
        rintro e wB ⟨vw, rfl, hs⟩
        have HVW := Lib.hid (rowA_form (hs.rd 0 rfl))
        replace HS := Lib.hid (HS.out.call hs)
        clear hs
        refine ⟨_, rfl, HS.out.nw, ?_⟩
        simp only [List.getElem_toArray, List.getElem_cons_zero, List.getElem_cons_succ, Act.put, List.setIfInBounds_toArray, List.set_cons_zero, List.set_cons_succ]
        refine wpAnyH_forced [7, 8] _ _ _ HS.out.nw (by kernel_rfl) (by simp) ?_
        simp only [List.map_cons, List.map_nil, Array.getD_eq_getD_getElem?, List.getElem?_toArray, List.getElem?_cons_succ, List.getElem?_cons_zero, Option.getD_some]
        have hq := HasC.store (HS.out.has 2 rfl) 0 [va] 53 va (one_val HVA.out) (by simp) (by simpa using one_oc HVA.out) infoAll
        refine wpLS_skip rfl (run_stO 53 (.tmp 5) (.tmp 15) rfl rfl rfl hq) rfl ((HS.out.setAt 2 rfl (Kept.put _ _ _) (HasC.put (HS.out.has 2 rfl) _)).nw) ?_
        have h1 := HS.out.setAt 2 rfl (Kept.put _ g5 _) (HasC.put (HS.out.has 2 rfl) [va])
        have hq2 := HasC.store (h1.has 3 rfl) 0 [vw] 88 vw (one_val HVW.out) (by simp) (by simpa using one_oc HVW.out) infoWs
        refine wpLS_skip rfl (run_stO 88 (.tmp 6) (.tmp 17) rfl rfl rfl hq2) rfl ((h1.setAt 3 rfl (Kept.put _ _ _) (HasC.put (h1.has 3 rfl) _)).nw) ?_
        have h2 := h1.setAt 3 rfl (Kept.put _ g6 _) (HasC.put (h1.has 3 rfl) [vw])
        have h3 := ((((h2.pull 1 rfl).pull 1 rfl).pull 2 rfl).pull 3 rfl)
        refine wpLS_nil ?_
        refine NoPanic.normal ?_
        have HV := Lib.hid h3
        clear hq hq2 h1 h2 h3
        go_wp2_with fail
        go_meet
        exact ⟨g5, g6, va, vw, rfl, rfl, HV⟩
  case rest =>
    obtain ⟨g5, g6, va, vw, rfl, rfl, HS⟩ := hcut
    have cn := (HasC.new HB5.out HS.out.nw).cell (skC_nd _ _)
    have T1 : Hid True := Lib.hid trivial
    have T2 : Hid True := Lib.hid trivial
    have T3 : Hid True := Lib.hid trivial
    have T4 : Hid True := Lib.hid trivial
    have T5 : Hid True := Lib.hid trivial
    go_wp2_with (first
      | (clear T1; go_at_call 73; refine (unknown_any N _ (by omega)).mono ?_; rw [openT_is]; rintro e w1 ⟨ka, rfl, hs⟩; replace HS := Lib.hid (HS.out.call hs); clear hs cn)
      | (clear T2; refine wpList_alB rfl 57 rfl _ zeroFs_run [.slice none 0 0] rfl HS.out ?_; intro w2 g7 hs; replace HS := Lib.hid hs; clear hs)
      | (clear T3; refine wpList_stC1 0 rfl rfl 57 (.tmp 7) (.tmp 21) rfl g7 0 rfl (.slice (some ⟨ka, 0, none⟩) N N) rfl HS.out rfl rfl (by simp) rfl infoFs ?_; intro w3 hs; replace HS := Lib.hid hs; clear hs)
      | (clear T4; refine wpList_alB rfl 153 rfl _ zeroBy_run [.nilFunc] rfl HS.out ?_; intro w4 g8 hs; replace HS := Lib.hid hs; clear hs)
      | (clear T5; refine wpList_stC1 0 rfl rfl 153 (.tmp 8) (.tmp 22) rfl g8 0 rfl (.func (.func 74) #[] #[.pointer (some ⟨g5, 0, none⟩), .pointer (some ⟨g7, 0, none⟩), .pointer (some ⟨g6, 0, none⟩)]) rfl HS.out rfl rfl (by simp) rfl infoBy ?_; intro w5 hs; replace HS := Lib.hid hs; clear hs))
    have HS1 : Hid (Sep wa w5 [factsO (.slice (some ⟨ka, 0, none⟩) N N) (tabK N (fun _ _ => (-1, 0))), blk g7 57 [.slice (some ⟨ka, 0, none⟩) N N], blk g6 88 [vw], blk g5 53 [va], blk g8 153 [.func (.func 74) #[] #[.pointer (some ⟨g5, 0, none⟩), .pointer (some ⟨g7, 0, none⟩), .pointer (some ⟨g6, 0, none⟩)]], waysO vw (edTab N (edgesA s)), allO va (allT f s)]) := Lib.hid (((((((HS.out.pull 6 rfl).pull 6 rfl).pull 2 rfl).pull 6 rfl).pull 6 rfl).pull 5 rfl).pull 6 rfl)
    clear HS
    go_loopg [10] (sumK N (fun _ _ => (-1, 0)) + 1) (fun gm cv wr => ∃ (K : Kt) (c : Bool), cv = .bool c ∧ gm = (if c = true then sumK N K + 1 else 0) ∧ Hid (Kn f s K) ∧ Hid (c = false → ∀ n l, n < N → l < 24 → Stay f s K n l) ∧ Hid (Sep wa wr [factsO (.slice (some ⟨ka, 0, none⟩) N N) (tabK N (K)), blk g7 57 [.slice (some ⟨ka, 0, none⟩) N N], blk g6 88 [vw], blk g5 53 [va], blk g8 153 [.func (.func 74) #[] #[.pointer (some ⟨g5, 0, none⟩), .pointer (some ⟨g7, 0, none⟩), .pointer (some ⟨g6, 0, none⟩)]], waysO vw (edTab N (edgesA s)), allO va (allT f s)]))
    case atStart => exact ⟨fun _ _ => (-1, 0), true, rfl, rfl, Lib.hid (kn_open f s), Lib.hid (fun h => by cases h), HS1⟩
    case round =>
      obtain ⟨K, c, rfl, hgm, HK, HST, HT⟩ := hrel
      clear HS1
      cases c with
      | false =>
        have HFE : Hid (tabK N K = tabK N F) := Lib.hid (by
          have h1 := stay_facts HC.out (cut := cut) (K := K) (by rw [HSK.out]; exact HK.out) (by rw [HSK.out, HN.out]; exact HST.out rfl)
          have h2 := fact_eq HC.out h1 (by rw [HSK.out]; exact HFT.out)
          rw [HSK.out, HN.out] at h2
          exact h2)
        rw [HFE.out] at HT
        have c7 := HT.out.cell 1 rfl (k := 0) rfl
        clear hgm
        go_wp2_with fail
        go_ret
        refine ⟨_, rfl, ?_⟩
        exact (Sep.of_new N5.out).call (((((((HT.out.dropAt 6 (by simp)).dropAt 5 (by simp)).dropAt 4 (by simp)).dropAt 3 (by simp)).dropAt 2 (by simp)).dropAt 1 (by simp)))
      | true =>
        clear HST
        have hgm2 := hgm.trans (if_pos rfl)
        clear hgm
        have c7 := HT.out.cell 1 rfl (k := 0) rfl
        go_wp2_with fail
        go_loopw [10, 27] (fun cv nv wq => ∃ (m : Nat) (K' : Kt) (c : Bool), cv = .bool c ∧ nv = .int .i64 (m : Int) ∧ m ≤ N ∧ Hid (Kn f s K') ∧ Hid (PassK f s K m 0 c K') ∧ Hid (Sep wa wq [factsO (.slice (some ⟨ka, 0, none⟩) N N) (tabK N (K')), blk g7 57 [.slice (some ⟨ka, 0, none⟩) N N], blk g6 88 [vw], blk g5 53 [va], blk g8 153 [.func (.func 74) #[] #[.pointer (some ⟨g5, 0, none⟩), .pointer (some ⟨g7, 0, none⟩), .pointer (some ⟨g6, 0, none⟩)]], waysO vw (edTab N (edgesA s)), allO va (allT f s)])) (fun _ nv _ => N - (intOf nv).toNat)
        case atStart => exact ⟨0, K, false, rfl, rfl, by omega, HK, Lib.hid ⟨rfl, fun _ _ h => absurd h (Nat.not_lt_zero _), fun _ h => absurd h (Nat.not_lt_zero _)⟩, HT⟩
        case round =>
          obtain ⟨m, K', c, rfl, rfl, hm, HK1, HP, HU⟩ := hrel
          clear HT c7
          by_cases hmN : m < N
          · have HMN : Hid (m < s.nodes.length) := Lib.hid (by rw [HN.out]; exact hmN)
            obtain ⟨b1, o1, u1, i1, r1, d1⟩ := nest_ix (P := Tryz.prog) (HU.out.rd 0 rfl) 57 Tryz.underlying57 sizeSs (tabK_at K' hmN)
            obtain ⟨a1, c1, hu1⟩ := rowA_form d1
            rw [rowK_len] at hu1
            subst hu1
            have c7 := HU.out.cell 1 rfl (k := 0) rfl
            have y1 := r1 _ (New.refl _)
            clear r1 d1
            go_wp2_with fail
            go_loopw [10, 35] (fun cv lv wz => ∃ (l : Nat) (K' : Kt) (c : Bool), cv = .bool c ∧ lv = .int .i64 (l : Int) ∧ l ≤ 24 ∧ Hid (Kn f s K') ∧ Hid (PassK f s K m l c K') ∧ Hid (Sep wa wz [factsO (.slice (some ⟨ka, 0, none⟩) N N) (tabK N (K')), blk g7 57 [.slice (some ⟨ka, 0, none⟩) N N], blk g6 88 [vw], blk g5 53 [va], blk g8 153 [.func (.func 74) #[] #[.pointer (some ⟨g5, 0, none⟩), .pointer (some ⟨g7, 0, none⟩), .pointer (some ⟨g6, 0, none⟩)]], waysO vw (edTab N (edgesA s)), allO va (allT f s)])) (fun _ lv _ => 24 - (intOf lv).toNat)
            case atStart => exact ⟨0, K', c, rfl, rfl, by omega, HK1, HP, HU⟩
            case round =>
              clear HU c7 y1 i1 HP HK1
              obtain ⟨l, K', c, rfl, rfl, hl, HK2, HP, HY⟩ := hrel
              by_cases hl24 : l < 24
              · have hd := meet_dec HB.out HK2.out HMN.out hl24
                have HD := Lib.hid hd.2.2
                by_cases hb : meetK f s m l (edgesA s (m : Int)) K' m l = K' m l
                · have HDC : Hid ((!decide (meetK f s m l (edgesA s (m : Int)) K' m l = K' m l)) = false) := Lib.hid (by rw [decide_eq_true hb]; rfl)
                  obtain ⟨e1, e2⟩ := hd.1 hb
                  have HP2 := Lib.hid (pass_stay HP.out e2)
                  have HKE := Lib.hid e1
                  clear hd hb e1 e2
                  go_wp2_with (go_at_call 75; refine (meet_any f s K' N m l g5 g7 g6 g8 ka N va vw HN.out HB.out hmN hl24 (HLN.out _) HY.out).mono ?_; rw [HDC.out, HKE.out]; rintro e w6 ⟨rfl, hs⟩; replace HY := Lib.hid hs; clear hs)
                  go_roundw
                  case rel => exact ⟨l + 1, K', c, rfl, by go_num, by omega, HK2, HP2, HY⟩
                  case measure => simp [intOf]; omega
                · have HDC : Hid ((!decide (meetK f s m l (edgesA s (m : Int)) K' m l = K' m l)) = true) := Lib.hid (by rw [decide_eq_false hb]; rfl)
                  have HP2 := Lib.hid (pass_less HP.out (hd.2.1 hb))
                  clear hd hb
                  go_wp2_with (go_at_call 75; refine (meet_any f s K' N m l g5 g7 g6 g8 ka N va vw HN.out HB.out hmN hl24 (HLN.out _) HY.out).mono ?_; rw [HDC.out]; rintro e w6 ⟨rfl, hs⟩; replace HY := Lib.hid hs; clear hs)
                  go_roundw
                  case rel => exact ⟨l + 1, _, true, rfl, by go_num, by omega, HD, HP2, HY⟩
                  case measure => simp [intOf]; omega
              · obtain rfl : l = 24 := by omega
                have HP2 := Lib.hid (pass_next HP.out)
                go_wp2_with fail
                go_roundw
                case rel => exact ⟨m + 1, K', c, rfl, by go_num, by omega, HK2, HP2, HY⟩
                case measure => simp [intOf]; omega
          · obtain rfl : m = N := by omega
            go_wp2_with fail
            go_roundg (if c = true then sumK m K' + 1 else 0)
            case rel =>
              refine ⟨K', c, rfl, rfl, HK1, Lib.hid fun hc => ?_, HU⟩
              subst hc
              obtain ⟨h1, h2, _⟩ : K' = K ∧ _ := HP.out
              rw [h1]
              exact h2
            case measure =>
              have hp := HP.out
              unfold PassK at hp
              rw [HN.out] at hp
              cases c with
              | true =>
                rw [if_pos rfl] at hp
                rw [if_pos rfl, hgm2]
                omega
              | false =>
                rw [if_neg (by decide), hgm2]
                omega
theorem facts_any {fv : Value} {f : List I} {cut : List Bool} {F : Kt} {v : Value} {w : World} (hl : Laid w) (hf : FunAt w fv f) (hr : (chkF f).2 = 0) (hs : (nodesO v (sklA f cut).nodes).rd w) (hF : FactTab f (sklA f cut) F) :
    Calls Tryz.prog 44 #[fv, .agg (skC (sklA f cut).entry v).toArray] w fun e w' => ∃ v', e = .returned v' ∧ Sep w w' [factsO v' (tabK (sklA f cut).nodes.length F)] := by
  obtain ⟨fo, fc, rfl⟩ := hf.form
  obtain ⟨na, nc, rfl⟩ := rowA_form hs
  exact facts_in fo _ fc f cut _ F na _ nc w hl hf hs rfl (by rw [skl_len]; exact Nat.le_trans (nds_len (nodes_nds hr cut)) (chk_len hr)) (good_skl f cut) (inS_skl hr cut) hr rfl hF
theorem all_any {fv : Value} {f : List I} {cut : List Bool} {v : Value} {w : World} (hl : Laid w) (hf : FunAt w fv f) (hr : (chkF f).2 = 0) (hs : (nodesO v (sklA f cut).nodes).rd w) :
    Calls Tryz.prog 43 #[fv, .agg (skC (sklA f cut).entry v).toArray] w fun e w' => ∃ v', e = .returned v' ∧ Sep w w' [allO v' (allT f (sklA f cut))] := by
  obtain ⟨fo, fc, rfl⟩ := hf.form
  obtain ⟨na, nc, rfl⟩ := rowA_form hs
  exact all_in fo _ fc f _ na _ nc w hl hf hs rfl (by rw [skl_len]; exact Nat.le_trans (nds_len (nodes_nds hr cut)) (chk_len hr)) (good_skl f cut) (inS_skl hr cut)
end Go.Proofs.YtphopkjgfkaihaaGreatDoor
