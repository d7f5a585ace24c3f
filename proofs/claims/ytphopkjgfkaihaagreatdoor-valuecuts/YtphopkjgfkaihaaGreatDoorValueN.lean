/-
  Layer 11: the contracts of the reference's Numbers and SameFacts.
-/
import Derived.Test.YtphopkjgfkaihaaGreatDoorValueFact
namespace Go.Proofs.YtphopkjgfkaihaaGreatDoor
open Go.RowKit

abbrev numsO (v : Value) (ns : List Int) : Asn := rowA 2 1 (leafE fun a => [.int .i64 a]) v ns
theorem infoNum3 : (Tryz.prog.info? 2).map (fun i => (i.zero, i.size, i.bytes)) = some (some (.int .i64 0), 1, 8) := by kernel_rfl
theorem sizeNum : ∀ w, (sizeOf 2).run Tryz.prog w = .ok 1 w := Tryz.sizeOf2
def Nums (f : List I) (i : Nat) (ns : List Int) : Prop := ns.length ≤ i ∧ ∀ v, v ∈ ns ↔ NumOf (f.take i) v
theorem nums_0 (f : List I) : Nums f 0 [] := ⟨Nat.le_refl _, fun v => ⟨fun h => by simp at h, fun ⟨x, hx, _⟩ => by simp at hx⟩⟩
theorem numOf_next {f : List I} {i : Nat} {x : I} (hx : f[i]? = some x) (v : Int) : NumOf (f.take (i + 1)) v ↔ NumOf (f.take i) v ∨ (x.op = 1 ∧ x.n = v) := by
  unfold NumOf
  rw [List.take_add_one, hx]
  constructor
  · rintro ⟨y, hy, h⟩
    rcases List.mem_append.mp hy with hy | hy
    · exact .inl ⟨y, hy, h⟩
    · simp at hy
      subst hy
      exact .inr h
  · rintro (⟨y, hy, h⟩ | h)
    · exact ⟨y, List.mem_append.mpr (.inl hy), h⟩
    · exact ⟨x, List.mem_append.mpr (.inr (by simp)), h⟩
theorem nums_keep {f : List I} {i : Nat} {ns : List Int} (h : Nums f i ns) {x : I} (hx : f[i]? = some x) (hk : x.op ≠ 1 ∨ x.n ∈ ns) : Nums f (i + 1) ns := by
  refine ⟨Nat.le_succ_of_le h.1, fun v => ?_⟩
  rw [numOf_next hx, ← h.2]
  constructor
  · exact .inl
  · rintro (e | ⟨e1, e2⟩)
    · exact e
    · exact hk.elim (absurd e1) fun e => e2 ▸ e
theorem nums_more {f : List I} {i : Nat} {ns : List Int} (h : Nums f i ns) {x : I} (hx : f[i]? = some x) (hk : x.op = 1) : Nums f (i + 1) (ns ++ [x.n]) := by
  refine ⟨by rw [List.length_append]; exact Nat.succ_le_succ h.1, fun v => ?_⟩
  rw [numOf_next hx, ← h.2, List.mem_append]
  constructor
  · rintro (e | e)
    · exact .inl e
    · exact .inr ⟨hk, (by simpa using e : v = x.n).symm⟩
  · rintro (e | ⟨_, e⟩)
    · exact .inl e
    · exact .inr (by simp [e])
def KnownB (x : I) (ns : List Int) (k : Nat) (b : Bool) : Prop := b = true ↔ (x.op ≠ 1 ∨ x.n ∈ ns.take k)
theorem known_next {x : I} {ns : List Int} {k : Nat} {b : Bool} (h : KnownB x ns k b) {z : Int} (hz : ns[k]? = some z) : KnownB x ns (k + 1) (b || decide (z = x.n)) := by
  unfold KnownB at h ⊢
  rw [List.take_add_one, hz, Bool.or_eq_true, h, List.mem_append, decide_eq_true_iff]
  constructor
  · rintro ((e | e) | e)
    · exact .inl e
    · exact .inr (.inl e)
    · exact .inr (.inr (by simp [e]))
  · rintro (e | e | e)
    · exact .inl (.inl e)
    · exact .inl (.inr e)
    · exact .inr (by simp at e; exact e.symm)
set_option maxHeartbeats 8000000 in
set_option maxRecDepth 100000 in
theorem numbers_any (fo : Option Addr) (n fc : Nat) (f : List I) (w : World) (hf : FunAt w (.slice fo n fc) f) (hn : n ≤ 1000) :
    Calls Tryz.prog 45 #[.slice fo n fc] w fun e w' => ∃ v ns, e = .returned v ∧ Sep w w' [numsO v ns] ∧ ns.length ≤ n ∧ ∀ z, z ∈ ns ↔ NumOf f z := by
  have HF := Lib.hid hf
  have HLN : Hid (f.length = n) := Lib.hid hf.len.symm
  have HS := Lib.hid ((Sep.start w).row0 2 1 (leafE fun a => [.int .i64 a]))
  clear hf
  go_enter Tryz.func45, Tryz.ntmps45
  go_wp2_with fail
  go_loopw [3, 4] (fun ov iv wr => ∃ (i : Nat) (v : Value) (ns : List Int), v = ov ∧ iv = .int .i64 (i : Int) ∧ i ≤ n ∧ Hid (Nums f i ns) ∧ Hid (Sep w wr [numsO v ns])) (fun _ iv _ => n - (intOf iv).toNat)
  case atStart => exact ⟨0, _, [], rfl, rfl, by omega, Lib.hid (nums_0 f), HS⟩
  case round =>
    obtain ⟨i, v, ns, rfl, rfl, hi, HNS, HT⟩ := hrel
    clear HS
    by_cases hin : i < n
    · obtain ⟨fb, fi, x, hx, hix, hrg⟩ := HF.out.ix hin
      have HX := Lib.hid hx
      have HRG := Lib.hid hrg
      have y0 := hrg _ HT.out.nw 0 _ rfl
      rw [Nat.add_zero] at y0
      obtain ⟨L, HNL⟩ : ∃ L, Hid (ns.length = L) := ⟨_, Lib.hid rfl⟩
      have hLn : L ≤ n := by have h1 := HNS.out.1; rw [HNL.out] at h1; omega
      obtain ⟨na, nc, hv⟩ := rowA_form (HT.out.rd 0 rfl)
      rw [HNL.out] at hv
      subst hv
      clear hx hrg
      go_wp2_with fail
      have HK0 : Hid (KnownB x ns 0 (x.op != 1)) := Lib.hid (by unfold KnownB; simp)
      go_loopw [5, 6] (fun kv nv wq => ∃ (k : Nat) (kb : Bool), kv = .bool kb ∧ nv = .int .i64 (k : Int) ∧ k ≤ L ∧ Hid (KnownB x ns k kb) ∧ Hid (Sep w wq [numsO (.slice na L nc) ns])) (fun _ nv _ => L - (intOf nv).toNat)
      case atStart => exact ⟨0, _, rfl, rfl, by omega, HK0, HT⟩
      case round =>
        clear HT y0 HK0
        obtain ⟨k, kb, rfl, rfl, hk, HK, HT⟩ := hrel
        by_cases hkL : k < L
        · obtain ⟨z, hz⟩ : ∃ z, ns[k]? = some z := ⟨_, List.getElem?_eq_getElem (by rw [HNL.out]; exact hkL)⟩
          have HK2 := Lib.hid (known_next HK.out hz)
          obtain ⟨b2, o2, i2, r2⟩ := leaf_ix (P := Tryz.prog) (HT.out.rd 0 rfl) 67 Tryz.underlying67 sizeNum hz
          have V1 : ∀ z' : NewW wr, z'.val.cell? ⟨b2, o2, none⟩ = some (.int .i64 z) := fun z' => by
            have := r2 _ z'.property 0 _ rfl
            rw [Nat.add_zero] at this
            exact this
          have V2 : ∀ z' : NewW wr, z'.val.cell? ⟨fb, fi + 4, none⟩ = some (.int .i64 x.n) := fun z' => HRG.out _ (HT.out.nw.trans z'.property) 4 _ rfl
          clear hz r2
          cases kb with
          | true =>
            go_wp2_with fail
            have hne := newW_any wr
            refine wp_region_new (New.refl wr) (by kernel_rfl) (by kernel_rfl) ?_
            repeat (go_big_quiet_step (fail))
            refine wpQuiet_nil ?_
            intro w6 hn6
            go_wp2_with fail
            go_roundw
            case rel => exact ⟨k + 1, true, rfl, by go_num, by omega, HK2, Lib.hid (HT.out.go hn6)⟩
            case measure => simp [intOf]; omega
          | false =>
            rw [Bool.false_or] at HK2
            obtain ⟨q, HQ⟩ : ∃ q, Hid (decide (z = x.n) = q) := ⟨_, Lib.hid rfl⟩
            have hq : (z == x.n) = q := HQ.out
            rw [HQ.out] at HK2
            go_wp2_with fail
            have hne := newW_any wr
            refine wp_region_new (New.refl wr) (by kernel_rfl) (by kernel_rfl) ?_
            repeat (go_big_quiet_step (fail))
            refine wpQuiet_nil ?_
            intro w6 hn6
            go_wp2_with fail
            go_roundw
            case rel => exact ⟨k + 1, q, rfl, by go_num, by omega, HK2, Lib.hid (HT.out.go hn6)⟩
            case measure => simp [intOf]; omega
        · have HKT : Hid (ns.take k = ns) := Lib.hid (List.take_of_length_le (by rw [HNL.out]; omega))
          cases kb with
          | true =>
            have HN2 := Lib.hid (nums_keep HNS.out HX.out (by have := HK.out.mp rfl; rw [HKT.out] at this; exact this))
            go_wp2_with fail
            go_roundw
            case rel => exact ⟨i + 1, _, ns, rfl, by go_num, by omega, HN2, HT⟩
            case measure => simp [intOf]; omega
          | false =>
            have HN2 := Lib.hid (nums_more HNS.out HX.out (by
              by_cases e : x.op = 1
              · exact e
              · exact absurd (HK.out.mpr (.inl e)) (by decide)))
            have y4 := HRG.out _ HT.out.nw 4 _ rfl
            have V1 : Hid True := Lib.hid trivial
            have V2 : Hid True := Lib.hid trivial
            go_wp2_with (first
              | (clear V1; refine wpList_bsB rfl 67 2 (.tmp 45) rfl Tryz.underlying67 infoNum3 (by decide) (by decide) [.int .i64 x.n] _ rfl rfl rfl HT.out ?_; intro wc b hs; replace HT := Lib.hid hs; clear hs)
              | (at_builtin; clear V2; refine wpList_appL 1 rfl (.tmp 40) (.tmp 46) 67 2 rfl Tryz.underlying67 infoNum3 rfl (by decide) (by decide) (mk := fun a => [.int .i64 a]) (y := x.n) HT.out rfl (by rw [HNL.out]; omega) rfl rfl (HT.out.has 0 rfl) rfl (by simp [Value.oneCell']) ?_; intro v2 wy hs; replace HT := Lib.hid hs.drop; clear hs))
            go_roundw
            case rel => exact ⟨i + 1, _, _, rfl, by go_num, by omega, HN2, HT⟩
            case measure => simp [intOf]; omega
    · obtain rfl : i = n := by omega
      have HND : Hid (∀ z, z ∈ ns ↔ NumOf f z) := Lib.hid (by
        have h1 := HNS.out.2
        rw [List.take_of_length_le (by rw [HLN.out]; exact Nat.le_refl _)] at h1
        exact h1)
      go_wp2_with fail
      go_ret
      exact ⟨_, ns, rfl, HT.out, HNS.out.1, HND.out⟩
theorem neq_srS (a : Sc) (w : World) : (binOp .neq 39 (.agg (srcK a).toArray) (.agg (srcK a).toArray)).run Tryz.prog w = .ok (.bool false) w := by
  have := neq_sr a a w
  rw [decide_eq_true rfl] at this
  exact this
set_option maxHeartbeats 8000000 in
set_option maxRecDepth 100000 in
theorem same_facts (ao bo : Option Addr) (N ac bc : Nat) (K : Kt) (w : World) (ha : (factsO (.slice ao N ac) (tabK N K)).rd w) (hb : (factsO (.slice bo N bc) (tabK N K)).rd w) (hN : N ≤ 1000) :
    Calls Tryz.prog 19 #[.slice ao N ac, .slice bo N bc] w fun e w' => e = .returned (.bool true) ∧ New w w' := by
  have HA := Lib.hid ha
  have HB := Lib.hid hb
  clear ha hb
  go_enter Tryz.func19, Tryz.ntmps19
  go_wp2_with fail
  go_loopw [5] (fun iv wr => ∃ i : Nat, iv = .int .i64 (i : Int) ∧ i ≤ N ∧ Hid (New w wr)) (fun iv _ => N - (intOf iv).toNat)
  case atStart => exact ⟨0, rfl, by omega, Lib.hid (New.refl _)⟩
  case round =>
    obtain ⟨i, rfl, hi, HN⟩ := hrel
    by_cases hin : i < N
    · obtain ⟨b1, o1, u1, i1, r1, d1⟩ := nest_ix (P := Tryz.prog) HA.out 57 Tryz.underlying57 sizeSs (tabK_at K hin)
      obtain ⟨a1, c1, hu1⟩ := rowA_form d1
      rw [rowK_len] at hu1
      subst hu1
      obtain ⟨b2, o2, u2, i2, r2, d2⟩ := nest_ix (P := Tryz.prog) HB.out 57 Tryz.underlying57 sizeSs (tabK_at K hin)
      obtain ⟨a2, c2, hu2⟩ := rowA_form d2
      rw [rowK_len] at hu2
      subst hu2
      have H1 := Lib.hid r1
      have H2 := Lib.hid r2
      have D1 := Lib.hid d1
      have D2 := Lib.hid d2
      have V1 : ∀ z : NewW wr, z.val.cell? ⟨b1, o1, none⟩ = some (.slice a1 24 c1) := fun z => H1.out _ (HN.out.trans z.property)
      have V2 : ∀ z : NewW wr, z.val.cell? ⟨b2, o2, none⟩ = some (.slice a2 24 c2) := fun z => H2.out _ (HN.out.trans z.property)
      clear r1 r2 d1 d2
      go_wp2_with fail
      have hne := newW_any wr
      refine wp_region_new (New.refl wr) (by kernel_rfl) (by kernel_rfl) ?_
      repeat (go_big_quiet_step (fail))
      refine wpQuiet_nil ?_
      intro wA hnA
      have HNA := Lib.hid (HN.out.trans hnA)
      clear V1 V2 hnA hne
      go_wp2_with fail
      go_loopw [6] (fun jv wq => ∃ j : Nat, jv = .int .i64 (j : Int) ∧ j ≤ 24 ∧ Hid (New wA wq)) (fun jv _ => 24 - (intOf jv).toNat)
      case atStart => exact ⟨0, rfl, by omega, Lib.hid (New.refl _)⟩
      case round =>
        obtain ⟨j, rfl, hj, HNJ⟩ := hrel
        have y1 := H1.out _ (HNA.out.trans HNJ.out)
        by_cases hj24 : j < 24
        · obtain ⟨b3, o3, i3, r3⟩ := leaf_ix (P := Tryz.prog) D1.out 58 Tryz.underlying58 sizeSr (rowK_at K i hj24)
          obtain ⟨b4, o4, i4, r4⟩ := leaf_ix (P := Tryz.prog) D2.out 58 Tryz.underlying58 sizeSr (rowK_at K i hj24)
          obtain ⟨R, HR⟩ : ∃ R, Hid (K i j = R) := ⟨_, Lib.hid rfl⟩
          rw [HR.out] at r3 r4
          have H3 := Lib.hid r3
          have H4 := Lib.hid r4
          have hq := neq_srS R
          have NZ := Lib.hid (HNA.out.trans HNJ.out)
          have u3 := Tryz.underlying3
          have a3 := Tryz.isAgg3
          have u4 := Tryz.underlying2
          have a4 := Tryz.isAgg2
          clear r3 r4
          go_wp2_with fail
          have S0 : New wr wr.drew := (New.refl wr).drew
          refine wp_region_noPanic ?_
          refine wp_region_held_drew (S := fun w' => New wr w') (by kernel_rfl) S0 (fun _ => ?_)
          refine wpAnyH_take (i := 0) (v := .slice ao N ac) rfl (by kernel_rfl) (by kernel_rfl) (by kernel_rfl) (fun _ _ _ h => h) (Or.inl ⟨rfl, fun _ _ => by go_simp⟩) S0 ?_
          simp only [List.getElem_toArray, List.getElem_cons_zero, Act.put, List.setIfInBounds_toArray, List.set_cons_zero, List.set_cons_succ]
          refine wpAnyH_take (i := 1) (v := .int .i64 (i : Int)) rfl (by kernel_rfl) (by kernel_rfl) (by kernel_rfl) (fun _ _ _ h => h) (Or.inl ⟨rfl, fun _ _ => by go_simp⟩) S0 ?_
          simp only [List.getElem_toArray, List.getElem_cons_zero, List.getElem_cons_succ, Act.put, List.setIfInBounds_toArray, List.set_cons_zero, List.set_cons_succ]
          refine wpAnyH_take (i := 2) (v := .pointer (some ⟨b1, o1, none⟩)) rfl (by kernel_rfl) (by kernel_rfl) (by kernel_rfl) (fun _ _ _ h => h) (ixV_if rfl 57 (.tmp 38) (.tmp 39) rfl _ _ _ rfl rfl i1) S0 ?_
          simp only [List.getElem_toArray, List.getElem_cons_zero, List.getElem_cons_succ, Act.put, List.setIfInBounds_toArray, List.set_cons_zero, List.set_cons_succ]
          refine wpAnyH_take (i := 3) (v := .slice a1 24 c1) rfl (by kernel_rfl) (by kernel_rfl) (by kernel_rfl) (fun _ _ _ h => h) (ldV_if rfl 58 Tryz.isAgg58 (.tmp 40) rfl ⟨b1, o1, none⟩ rfl (fun w' h => H1.out _ (NZ.out.trans h))) S0 ?_
          simp only [List.getElem_toArray, List.getElem_cons_zero, List.getElem_cons_succ, Act.put, List.setIfInBounds_toArray, List.set_cons_zero, List.set_cons_succ]
          refine wpAnyH_take (i := 4) (v := .int .i64 (j : Int)) rfl (by kernel_rfl) (by kernel_rfl) (by kernel_rfl) (fun _ _ _ h => h) (Or.inl ⟨rfl, fun _ _ => by go_simp⟩) S0 ?_
          simp only [List.getElem_toArray, List.getElem_cons_zero, List.getElem_cons_succ, Act.put, List.setIfInBounds_toArray, List.set_cons_zero, List.set_cons_succ]
          refine wpAnyH_take (i := 5) (v := .pointer (some ⟨b3, o3, none⟩)) rfl (by kernel_rfl) (by kernel_rfl) (by kernel_rfl) (fun _ _ _ h => h) (ixV_if rfl 58 (.tmp 41) (.tmp 42) rfl _ _ _ rfl rfl i3) S0 ?_
          simp only [List.getElem_toArray, List.getElem_cons_zero, List.getElem_cons_succ, Act.put, List.setIfInBounds_toArray, List.set_cons_zero, List.set_cons_succ]
          refine wpAnyH_take (i := 6) (v := .agg (srcK R).toArray) rfl (by kernel_rfl) (by kernel_rfl) (by kernel_rfl) (fun _ _ _ h => h) (yieldsIf_load_mid (by rfl) _ _ rfl b3 o3 rfl (srcK R) _ (fun w' h => H3.out _ (NZ.out.trans h)) Tryz.underlying39 rfl infoSr) S0 ?_
          simp only [List.getElem_toArray, List.getElem_cons_zero, List.getElem_cons_succ, Act.put, List.setIfInBounds_toArray, List.set_cons_zero, List.set_cons_succ]
          refine wpAnyH_take (i := 7) (v := .slice bo N bc) rfl (by kernel_rfl) (by kernel_rfl) (by kernel_rfl) (fun _ _ _ h => h) (Or.inl ⟨rfl, fun _ _ => by go_simp⟩) S0 ?_
          simp only [List.getElem_toArray, List.getElem_cons_zero, List.getElem_cons_succ, Act.put, List.setIfInBounds_toArray, List.set_cons_zero, List.set_cons_succ]
          refine wpAnyH_take (i := 8) (v := .int .i64 (i : Int)) rfl (by kernel_rfl) (by kernel_rfl) (by kernel_rfl) (fun _ _ _ h => h) (Or.inl ⟨rfl, fun _ _ => by go_simp⟩) S0 ?_
          simp only [List.getElem_toArray, List.getElem_cons_zero, List.getElem_cons_succ, Act.put, List.setIfInBounds_toArray, List.set_cons_zero, List.set_cons_succ]
          refine wpAnyH_take (i := 9) (v := .pointer (some ⟨b2, o2, none⟩)) rfl (by kernel_rfl) (by kernel_rfl) (by kernel_rfl) (fun _ _ _ h => h) (ixV_if rfl 57 (.tmp 45) (.tmp 46) rfl _ _ _ rfl rfl i2) S0 ?_
          simp only [List.getElem_toArray, List.getElem_cons_zero, List.getElem_cons_succ, Act.put, List.setIfInBounds_toArray, List.set_cons_zero, List.set_cons_succ]
          refine wpAnyH_take (i := 10) (v := .slice a2 24 c2) rfl (by kernel_rfl) (by kernel_rfl) (by kernel_rfl) (fun _ _ _ h => h) (ldV_if rfl 58 Tryz.isAgg58 (.tmp 47) rfl ⟨b2, o2, none⟩ rfl (fun w' h => H2.out _ (NZ.out.trans h))) S0 ?_
          simp only [List.getElem_toArray, List.getElem_cons_zero, List.getElem_cons_succ, Act.put, List.setIfInBounds_toArray, List.set_cons_zero, List.set_cons_succ]
          refine wpAnyH_take (i := 11) (v := .int .i64 (j : Int)) rfl (by kernel_rfl) (by kernel_rfl) (by kernel_rfl) (fun _ _ _ h => h) (Or.inl ⟨rfl, fun _ _ => by go_simp⟩) S0 ?_
          simp only [List.getElem_toArray, List.getElem_cons_zero, List.getElem_cons_succ, Act.put, List.setIfInBounds_toArray, List.set_cons_zero, List.set_cons_succ]
          refine wpAnyH_take (i := 12) (v := .pointer (some ⟨b4, o4, none⟩)) rfl (by kernel_rfl) (by kernel_rfl) (by kernel_rfl) (fun _ _ _ h => h) (ixV_if rfl 58 (.tmp 48) (.tmp 49) rfl _ _ _ rfl rfl i4) S0 ?_
          simp only [List.getElem_toArray, List.getElem_cons_zero, List.getElem_cons_succ, Act.put, List.setIfInBounds_toArray, List.set_cons_zero, List.set_cons_succ]
          refine wpAnyH_take (i := 13) (v := .agg (srcK R).toArray) rfl (by kernel_rfl) (by kernel_rfl) (by kernel_rfl) (fun _ _ _ h => h) (yieldsIf_load_mid (by rfl) _ _ rfl b4 o4 rfl (srcK R) _ (fun w' h => H4.out _ (NZ.out.trans h)) Tryz.underlying39 rfl infoSr) S0 ?_
          simp only [List.getElem_toArray, List.getElem_cons_zero, List.getElem_cons_succ, Act.put, List.setIfInBounds_toArray, List.set_cons_zero, List.set_cons_succ]
          refine wpAnyH_forced [14] _ _ _ S0 (by kernel_rfl) (by simp) ?_
          simp only [List.map_cons, List.map_nil, Array.getD_eq_getD_getElem?, List.getElem?_toArray, List.getElem?_cons_succ, List.getElem?_cons_zero, Option.getD_some]
          refine wpLS_value rfl (.bool false) S0 (by go_simp) ?_
          refine wpLS_nil ?_
          have NF := Lib.hid S0
          refine NoPanic.normal ?_
          clear S0
          go_wp2_with fail
          go_roundw
          case rel => exact ⟨j + 1, by go_num, by omega, Lib.hid (HNJ.out.trans NF.out)⟩
          case measure => simp [intOf]; omega
        · go_wp2_with fail
          go_roundw
          case rel => exact ⟨i + 1, by go_num, by omega, Lib.hid (HNA.out.trans HNJ.out)⟩
          case measure => simp [intOf]; omega
    · go_wp2_with fail
      go_ret
      exact ⟨rfl, HN.out⟩
end Go.Proofs.YtphopkjgfkaihaaGreatDoor
