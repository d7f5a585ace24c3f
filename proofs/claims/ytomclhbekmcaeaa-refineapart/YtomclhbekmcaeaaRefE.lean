/-
  Layer 12: tables of pairs, as rows of rows; the contract of the reference's now.
-/
import Derived.Test.YtomclhbekmcaeaaRefD
import Derived.Test.YtomclhbekmcaeaaSepTwo
namespace Go.Proofs.Ytomclhbekmcaeaa
open Go.RowKit

/-! Tables of pairs. -/
abbrev bitO (v : Value) (bs : List Bool) : Asn := rowA 4 1 (leafE fun b => [.bool b]) v bs
abbrev bitsO (v : Value) (T : List (List Bool)) : Asn := rowA 31 1 (nest bitO) v T
def rowG (n : Nat) (A : Nat → Nat → Bool) (i : Nat) : List Bool := (List.range n).map (A i)
def tabG (n : Nat) (A : Nat → Nat → Bool) : List (List Bool) := (List.range n).map (rowG n A)
theorem tabG_len (n : Nat) (A : Nat → Nat → Bool) : (tabG n A).length = n := by simp [tabG]
theorem rowG_len (n : Nat) (A : Nat → Nat → Bool) (i : Nat) : (rowG n A i).length = n := by simp [rowG]
theorem tabG_at {n i : Nat} (A : Nat → Nat → Bool) (h : i < n) : (tabG n A)[i]? = some (rowG n A i) := by simp [tabG, h]
theorem rowG_at {n k : Nat} (A : Nat → Nat → Bool) (i : Nat) (h : k < n) : (rowG n A i)[k]? = some (A i k) := by simp [rowG, h]
theorem infoBt3 : (Try.prog.info? 4).map (fun i => (i.zero, i.size, i.bytes)) = some (some (.bool false), 1, 1) := by kernel_rfl
theorem infoBt1 : (Try.prog.info? 4).map (·.size) = some 1 := by kernel_rfl
theorem infoBs12 : (Try.prog.info? 31).map (fun i => (i.zero, i.size, i.bytes)) = some (some (.slice none 0 0), 1, 24) := by kernel_rfl
theorem sizeBt : ∀ w, (sizeOf 4).run Try.prog w = .ok 1 w := Try.sizeOf4
theorem sizeBs12 : ∀ w, (sizeOf 31).run Try.prog w = .ok 1 w := Try.sizeOf31
theorem bits_0 (w : World) : (leafE (fun b : Bool => [Value.bool b]) false [.bool false]).on w (fun _ => False) := rfl
/-- What is read of a table. -/
theorem tabG_ix {ta : Option Addr} {n tc i k : Nat} {A : Nat → Nat → Bool} {w : World} (h : (bitsO (.slice ta n tc) (tabG n A)).rd w) (hi : i < n) (hk : k < n) :
    ∃ b1 o1 ra rc b2 o2, (∀ w', (Instr.indexAt 32 (.slice ta n tc) (.int .i64 (i : Int))).run Try.prog w' = .ok (.pointer (some ⟨b1, o1, none⟩)) w') ∧ (∀ w', New w w' → w'.cell? ⟨b1, o1, none⟩ = some (.slice ra n rc)) ∧
      (∀ w', (Instr.indexAt 31 (.slice ra n rc) (.int .i64 (k : Int))).run Try.prog w' = .ok (.pointer (some ⟨b2, o2, none⟩)) w') ∧ ∀ w', New w w' → w'.cell? ⟨b2, o2, none⟩ = some (.bool (A i k)) := by
  obtain ⟨b1, o1, u1, i1, r1, d1⟩ := nest_ix (P := Try.prog) h 32 Try.underlying32 sizeBs12 (tabG_at A hi)
  obtain ⟨ra, rc, rfl⟩ := rowA_form d1
  rw [rowG_len] at r1 d1
  obtain ⟨b2, o2, i2, r2⟩ := leaf_ix (P := Try.prog) d1 31 Try.underlying31 sizeBt (rowG_at A i hk)
  exact ⟨b1, o1, ra, rc, b2, o2, i1, r1, i2, fun w' n => by have := r2 w' n 0 _ rfl; rwa [Nat.add_zero] at this⟩
theorem eqIn_qf (d : Nat) (a b : Rf) (w : World) : (Op.equalIn (d + 2) 46 (.agg #[.int .i64 a.1, .int .i64 a.2]) (.agg #[.int .i64 b.1, .int .i64 b.2])).run Try.prog w = .ok (decide (a = b)) w := by
  have hS : Try.prog.underlying 46 = some (.struct (Try.prog.fieldsOf 46)) := by kernel_rfl
  rw [run_equalIn_agg w (d + 1) 46 _ _ hS (by kernel_rfl)]
  simp only [Program.fieldsOf, Try.underlying46]
  have u3 := Try.underlying3
  have a3 := Try.isAgg3
  have u4 := Try.underlying2
  have a4 := Try.isAgg2
  by_cases h1 : a.1 = b.1
  · by_cases h2 : a.2 = b.2
    · have q1 : (a.1 == b.1) = true := beq_of h1
      have q2 : (a.2 == b.2) = true := beq_of h2
      rw [decide_eq_true (Prod.ext h1 h2)]
      go_simp
    · have q1 : (a.1 == b.1) = true := beq_of h1
      have q2 : (a.2 == b.2) = false := bneq_of h2
      rw [decide_eq_false (fun e => h2 (by rw [e]))]
      go_simp
  · have q1 : (a.1 == b.1) = false := bneq_of h1
    rw [decide_eq_false (fun e => h1 (by rw [e]))]
    go_simp
theorem neq_qf (a b : Rf) (w : World) : (binOp .neq 46 (.agg (refK a).toArray) (.agg (refK b).toArray)).run Try.prog w = .ok (.bool (!decide (a = b))) w := by
  show (binOp .neq 46 (.agg #[.int .i64 a.1, .int .i64 a.2]) (.agg #[.int .i64 b.1, .int .i64 b.2])).run Try.prog w = .ok (.bool (!decide (a = b))) w
  rw [run_neq_struct, show (10000 : Nat) = 9998 + 2 from rfl, eqIn_qf 9998 _ _ w]
  simp
set_option maxHeartbeats 32000000 in
set_option maxRecDepth 100000 in
theorem now_any (la : Option Addr) (n lc : Nat) (l : List Rw) (ta : Option Addr) (tc : Nat) (A : Nat → Nat → Bool) (i k : Nat) (w : World) (hr : RowsAt w (.slice la n lc) l) (ht : (bitsO (.slice ta n tc) (tabG n A)).rd w) (hi : i < n) (hk : k < n) (_hn : n ≤ 10000) (hto : ∀ x ∈ l, x.to.length ≤ 10000) :
    Calls Try.prog 21 #[.slice la n lc, .slice ta n tc, .int .i64 (i : Int), .int .i64 (k : Int)] w fun e w' => ∃ b, e = .returned (.bool b) ∧ (b = false ↔ LikeW n (fun a b => A a b = false) (rwA l i) (rwA l k)) ∧ New w w' := by
  have hl := Els.len hr
  obtain ⟨x, hx⟩ : ∃ x, l[i]? = some x := ⟨_, List.getElem?_eq_getElem (by omega)⟩
  obtain ⟨y, hy⟩ : ∃ y, l[k]? = some y := ⟨_, List.getElem?_eq_getElem (by omega)⟩
  obtain ⟨b1, o1, ra, rc, i1, g1, f1⟩ := RowsAt.ix (P := Try.prog) hr 28 Try.underlying28 sizeQw hx
  obtain ⟨b2, o2, sa, sc, i2, g2, f2⟩ := RowsAt.ix (P := Try.prog) hr 28 Try.underlying28 sizeQw hy
  have HXK := Lib.hid (rwA_at hx)
  have HYK := Lib.hid (rwA_at hy)
  have hM := hto x (List.mem_of_getElem? hx)
  obtain ⟨M, HM⟩ : ∃ M, Hid (x.to.length = M) := ⟨_, Lib.hid rfl⟩
  obtain ⟨L, HL⟩ : ∃ L, Hid (y.to.length = L) := ⟨_, Lib.hid rfl⟩
  rw [HM.out] at g1 f1 hM
  rw [HL.out] at g2 f2
  have HG1 := Lib.hid g1
  have HG2 := Lib.hid g2
  have HF1 := Lib.hid f1
  have HF2 := Lib.hid f2
  have HTB := Lib.hid ht
  have HS := Lib.hid (Sep.start w)
  clear hr ht hto hx hy g1 g2 f1 f2 hl
  by_cases hc : x.c = y.c
  case neg =>
    have q0 : (x.c != y.c) = true := by simp [hc]
    have HNO : Hid (¬ LikeW n (fun a b => A a b = false) (rwA l i) (rwA l k)) := Lib.hid fun e => hc (by have := e.c; rwa [HXK.out, HYK.out] at this)
    clear hc
    go_enter Try.func21, Try.ntmps21
    go_wp2_with fail
    have S0 : New w w.drew := (New.refl w).drew
    refine wp_region_noPanic ?_
    refine wp_region_held_drew (S := fun w' => New w w') (by kernel_rfl) S0 (fun _ => ?_)
    refine wpAnyH_take (i := 0) (v := .slice la n lc) rfl (by kernel_rfl) (by kernel_rfl) (by kernel_rfl) (fun _ _ _ h => h) (Or.inl ⟨rfl, fun _ _ => by go_simp⟩) S0 ?_
    simp only [List.getElem_toArray, List.getElem_cons_zero, Act.put, List.setIfInBounds_toArray, List.set_cons_zero, List.set_cons_succ]
    refine wpAnyH_take (i := 1) (v := .int .i64 (i : Int)) rfl (by kernel_rfl) (by kernel_rfl) (by kernel_rfl) (fun _ _ _ h => h) (Or.inl ⟨rfl, fun _ _ => by go_simp⟩) S0 ?_
    simp only [List.getElem_toArray, List.getElem_cons_zero, List.getElem_cons_succ, Act.put, List.setIfInBounds_toArray, List.set_cons_zero, List.set_cons_succ]
    refine wpAnyH_take (i := 2) (v := .pointer (some ⟨b1, o1, none⟩)) rfl (by kernel_rfl) (by kernel_rfl) (by kernel_rfl) (fun _ _ _ h => h) (ixV_if rfl 28 (.tmp 14) (.tmp 15) rfl _ _ _ rfl rfl i1) S0 ?_
    simp only [List.getElem_toArray, List.getElem_cons_zero, List.getElem_cons_succ, Act.put, List.setIfInBounds_toArray, List.set_cons_zero, List.set_cons_succ]
    refine wpAnyH_take (i := 3) (v := .agg (rwK x (.slice ra M rc)).toArray) rfl (by kernel_rfl) (by kernel_rfl) (by kernel_rfl) (fun _ _ _ h => h) (yieldsIf_load_mid (by rfl) _ _ rfl b1 o1 rfl (rwK x (.slice ra M rc)) _ (fun w' h => HG1.out _ h) Try.underlying45 rfl infoQw) S0 ?_
    simp only [List.getElem_toArray, List.getElem_cons_zero, List.getElem_cons_succ, Act.put, List.setIfInBounds_toArray, List.set_cons_zero, List.set_cons_succ]
    refine wpAnyH_take (i := 4) (v := .slice la n lc) rfl (by kernel_rfl) (by kernel_rfl) (by kernel_rfl) (fun _ _ _ h => h) (Or.inl ⟨rfl, fun _ _ => by go_simp⟩) S0 ?_
    simp only [List.getElem_toArray, List.getElem_cons_zero, List.getElem_cons_succ, Act.put, List.setIfInBounds_toArray, List.set_cons_zero, List.set_cons_succ]
    refine wpAnyH_take (i := 5) (v := .int .i64 (k : Int)) rfl (by kernel_rfl) (by kernel_rfl) (by kernel_rfl) (fun _ _ _ h => h) (Or.inl ⟨rfl, fun _ _ => by go_simp⟩) S0 ?_
    simp only [List.getElem_toArray, List.getElem_cons_zero, List.getElem_cons_succ, Act.put, List.setIfInBounds_toArray, List.set_cons_zero, List.set_cons_succ]
    refine wpAnyH_take (i := 6) (v := .pointer (some ⟨b2, o2, none⟩)) rfl (by kernel_rfl) (by kernel_rfl) (by kernel_rfl) (fun _ _ _ h => h) (ixV_if rfl 28 (.tmp 18) (.tmp 19) rfl _ _ _ rfl rfl i2) S0 ?_
    simp only [List.getElem_toArray, List.getElem_cons_zero, List.getElem_cons_succ, Act.put, List.setIfInBounds_toArray, List.set_cons_zero, List.set_cons_succ]
    refine wpAnyH_take (i := 7) (v := .agg (rwK y (.slice sa L sc)).toArray) rfl (by kernel_rfl) (by kernel_rfl) (by kernel_rfl) (fun _ _ _ h => h) (yieldsIf_load_mid (by rfl) _ _ rfl b2 o2 rfl (rwK y (.slice sa L sc)) _ (fun w' h => HG2.out _ h) Try.underlying45 rfl infoQw) S0 ?_
    simp only [List.getElem_toArray, List.getElem_cons_zero, List.getElem_cons_succ, Act.put, List.setIfInBounds_toArray, List.set_cons_zero, List.set_cons_succ]
    refine wpAnyH_new2 (i := 8) (j := 9) (o := .cells #[.int .i64 0, .slice none 0 0] 45 (0, 0)) (di := 9) (dj := 10) (m := 2) rfl rfl rfl rfl rfl rfl (run_alO _ rfl _ zeroQw_run) (run_alO _ rfl _ zeroQw_run) (by kernel_rfl) (by decide) (by decide) (fun _ h => h.alloc _) S0 ?_
    intro ga gb q1 q2 q3 q4 q5 hS
    simp only [Act.put, List.setIfInBounds_toArray, List.set_cons_zero, List.set_cons_succ]
    simp only [ptr]
    have d6 : HasC ((w.drew.alloc (.cells #[.int .i64 0, .slice none 0 0] 45 (0, 0))).alloc (.cells #[.int .i64 0, .slice none 0 0] 45 (0, 0))) ga 45 [.int .i64 0, .slice none 0 0] := two_al q1 q3
    have d7 : HasC ((w.drew.alloc (.cells #[.int .i64 0, .slice none 0 0] 45 (0, 0))).alloc (.cells #[.int .i64 0, .slice none 0 0] 45 (0, 0))) gb 45 [.int .i64 0, .slice none 0 0] := two_al q2 q4
    have hz : w.drew.heap.size = w.heap.size := rfl
    rw [hz] at q1 q2
    generalize ((w.drew.alloc (.cells #[.int .i64 0, .slice none 0 0] 45 (0, 0))).alloc (.cells #[.int .i64 0, .slice none 0 0] 45 (0, 0))) = w1 at d6 d7 hS ⊢
    clear q3 q4 hz
    refine wpAnyH_forced [10, 11] _ _ _ hS (by kernel_rfl) (by simp) ?_
    simp only [List.map_cons, List.map_nil, Array.getD_eq_getD_getElem?, List.getElem?_toArray, List.getElem?_cons_succ, List.getElem?_cons_zero, Option.getD_some]
    refine wpLS_stC rfl rfl 45 (.tmp 9) (.tmp 17) rfl ga rfl _ rfl d6 (rwK x (.slice ra M rc)) rfl rfl (rwK_one x rfl) infoQw ?_
    intro w2 b6 k6
    have nb := k6.below w q1 hS
    refine ⟨nb, ?_⟩
    refine wpLS_stC rfl rfl 45 (.tmp 10) (.tmp 21) rfl gb rfl _ rfl (HasC.kept d7 k6 (Ne.symm q5)) (rwK y (.slice sa L sc)) rfl rfl (rwK_one y rfl) infoQw ?_
    intro w3 b7 k7
    have nc := k7.below w q2 nb
    refine ⟨nc, ?_⟩
    refine wpLS_nil ?_
    refine NoPanic.normal ?_
    replace HS := Lib.hid (HS.out.two nc q1 q2 q5 (HasC.kept b6 k7 q5) b7)
    clear d6 d7 hS b6 k6 b7 k7 nb nc S0 q1 q2 q5
    have z0 := HS.out.cell 0 rfl (k := 0) rfl
    have z1 := HS.out.cell 1 rfl (k := 0) rfl
    go_wp2_with fail
    go_ret
    exact ⟨true, rfl, ⟨fun h => (by cases h), fun h => absurd h HNO.out⟩, HS.out.nw⟩
  have q0 : (x.c != y.c) = false := by simp [hc]
  by_cases hlen : M = L
  case neg =>
    have q1 : ((M : Int) != (L : Int)) = true := by simp; omega
    have HNO : Hid (¬ LikeW n (fun a b => A a b = false) (rwA l i) (rwA l k)) := Lib.hid fun e => hlen (by have := e.len; rwa [HXK.out, HYK.out, HM.out, HL.out] at this)
    clear hc hlen
    go_enter Try.func21, Try.ntmps21
    go_wp2_with fail
    have S0 : New w w.drew := (New.refl w).drew
    refine wp_region_noPanic ?_
    refine wp_region_held_drew (S := fun w' => New w w') (by kernel_rfl) S0 (fun _ => ?_)
    refine wpAnyH_take (i := 0) (v := .slice la n lc) rfl (by kernel_rfl) (by kernel_rfl) (by kernel_rfl) (fun _ _ _ h => h) (Or.inl ⟨rfl, fun _ _ => by go_simp⟩) S0 ?_
    simp only [List.getElem_toArray, List.getElem_cons_zero, Act.put, List.setIfInBounds_toArray, List.set_cons_zero, List.set_cons_succ]
    refine wpAnyH_take (i := 1) (v := .int .i64 (i : Int)) rfl (by kernel_rfl) (by kernel_rfl) (by kernel_rfl) (fun _ _ _ h => h) (Or.inl ⟨rfl, fun _ _ => by go_simp⟩) S0 ?_
    simp only [List.getElem_toArray, List.getElem_cons_zero, List.getElem_cons_succ, Act.put, List.setIfInBounds_toArray, List.set_cons_zero, List.set_cons_succ]
    refine wpAnyH_take (i := 2) (v := .pointer (some ⟨b1, o1, none⟩)) rfl (by kernel_rfl) (by kernel_rfl) (by kernel_rfl) (fun _ _ _ h => h) (ixV_if rfl 28 (.tmp 14) (.tmp 15) rfl _ _ _ rfl rfl i1) S0 ?_
    simp only [List.getElem_toArray, List.getElem_cons_zero, List.getElem_cons_succ, Act.put, List.setIfInBounds_toArray, List.set_cons_zero, List.set_cons_succ]
    refine wpAnyH_take (i := 3) (v := .agg (rwK x (.slice ra M rc)).toArray) rfl (by kernel_rfl) (by kernel_rfl) (by kernel_rfl) (fun _ _ _ h => h) (yieldsIf_load_mid (by rfl) _ _ rfl b1 o1 rfl (rwK x (.slice ra M rc)) _ (fun w' h => HG1.out _ h) Try.underlying45 rfl infoQw) S0 ?_
    simp only [List.getElem_toArray, List.getElem_cons_zero, List.getElem_cons_succ, Act.put, List.setIfInBounds_toArray, List.set_cons_zero, List.set_cons_succ]
    refine wpAnyH_take (i := 4) (v := .slice la n lc) rfl (by kernel_rfl) (by kernel_rfl) (by kernel_rfl) (fun _ _ _ h => h) (Or.inl ⟨rfl, fun _ _ => by go_simp⟩) S0 ?_
    simp only [List.getElem_toArray, List.getElem_cons_zero, List.getElem_cons_succ, Act.put, List.setIfInBounds_toArray, List.set_cons_zero, List.set_cons_succ]
    refine wpAnyH_take (i := 5) (v := .int .i64 (k : Int)) rfl (by kernel_rfl) (by kernel_rfl) (by kernel_rfl) (fun _ _ _ h => h) (Or.inl ⟨rfl, fun _ _ => by go_simp⟩) S0 ?_
    simp only [List.getElem_toArray, List.getElem_cons_zero, List.getElem_cons_succ, Act.put, List.setIfInBounds_toArray, List.set_cons_zero, List.set_cons_succ]
    refine wpAnyH_take (i := 6) (v := .pointer (some ⟨b2, o2, none⟩)) rfl (by kernel_rfl) (by kernel_rfl) (by kernel_rfl) (fun _ _ _ h => h) (ixV_if rfl 28 (.tmp 18) (.tmp 19) rfl _ _ _ rfl rfl i2) S0 ?_
    simp only [List.getElem_toArray, List.getElem_cons_zero, List.getElem_cons_succ, Act.put, List.setIfInBounds_toArray, List.set_cons_zero, List.set_cons_succ]
    refine wpAnyH_take (i := 7) (v := .agg (rwK y (.slice sa L sc)).toArray) rfl (by kernel_rfl) (by kernel_rfl) (by kernel_rfl) (fun _ _ _ h => h) (yieldsIf_load_mid (by rfl) _ _ rfl b2 o2 rfl (rwK y (.slice sa L sc)) _ (fun w' h => HG2.out _ h) Try.underlying45 rfl infoQw) S0 ?_
    simp only [List.getElem_toArray, List.getElem_cons_zero, List.getElem_cons_succ, Act.put, List.setIfInBounds_toArray, List.set_cons_zero, List.set_cons_succ]
    refine wpAnyH_new2 (i := 8) (j := 9) (o := .cells #[.int .i64 0, .slice none 0 0] 45 (0, 0)) (di := 9) (dj := 10) (m := 2) rfl rfl rfl rfl rfl rfl (run_alO _ rfl _ zeroQw_run) (run_alO _ rfl _ zeroQw_run) (by kernel_rfl) (by decide) (by decide) (fun _ h => h.alloc _) S0 ?_
    intro ga gb q1 q2 q3 q4 q5 hS
    simp only [Act.put, List.setIfInBounds_toArray, List.set_cons_zero, List.set_cons_succ]
    simp only [ptr]
    have d6 : HasC ((w.drew.alloc (.cells #[.int .i64 0, .slice none 0 0] 45 (0, 0))).alloc (.cells #[.int .i64 0, .slice none 0 0] 45 (0, 0))) ga 45 [.int .i64 0, .slice none 0 0] := two_al q1 q3
    have d7 : HasC ((w.drew.alloc (.cells #[.int .i64 0, .slice none 0 0] 45 (0, 0))).alloc (.cells #[.int .i64 0, .slice none 0 0] 45 (0, 0))) gb 45 [.int .i64 0, .slice none 0 0] := two_al q2 q4
    have hz : w.drew.heap.size = w.heap.size := rfl
    rw [hz] at q1 q2
    generalize ((w.drew.alloc (.cells #[.int .i64 0, .slice none 0 0] 45 (0, 0))).alloc (.cells #[.int .i64 0, .slice none 0 0] 45 (0, 0))) = w1 at d6 d7 hS ⊢
    clear q3 q4 hz
    refine wpAnyH_forced [10, 11] _ _ _ hS (by kernel_rfl) (by simp) ?_
    simp only [List.map_cons, List.map_nil, Array.getD_eq_getD_getElem?, List.getElem?_toArray, List.getElem?_cons_succ, List.getElem?_cons_zero, Option.getD_some]
    refine wpLS_stC rfl rfl 45 (.tmp 9) (.tmp 17) rfl ga rfl _ rfl d6 (rwK x (.slice ra M rc)) rfl rfl (rwK_one x rfl) infoQw ?_
    intro w2 b6 k6
    have nb := k6.below w q1 hS
    refine ⟨nb, ?_⟩
    refine wpLS_stC rfl rfl 45 (.tmp 10) (.tmp 21) rfl gb rfl _ rfl (HasC.kept d7 k6 (Ne.symm q5)) (rwK y (.slice sa L sc)) rfl rfl (rwK_one y rfl) infoQw ?_
    intro w3 b7 k7
    have nc := k7.below w q2 nb
    refine ⟨nc, ?_⟩
    refine wpLS_nil ?_
    refine NoPanic.normal ?_
    replace HS := Lib.hid (HS.out.two nc q1 q2 q5 (HasC.kept b6 k7 q5) b7)
    clear d6 d7 hS b6 k6 b7 k7 nb nc S0 q1 q2 q5
    have z0 := HS.out.cell 0 rfl (k := 0) rfl
    have z1 := HS.out.cell 1 rfl (k := 0) rfl
    have z2 := HS.out.cell 0 rfl (k := 1) rfl
    have z3 := HS.out.cell 1 rfl (k := 1) rfl
    go_wp2_with fail
    go_ret
    exact ⟨true, rfl, ⟨fun h => (by cases h), fun h => absurd h HNO.out⟩, HS.out.nw⟩
  subst hlen
  have HCE := Lib.hid hc
  have q1 : ((M : Int) != (M : Int)) = false := by simp
  clear hc
  go_enter Try.func21, Try.ntmps21
  go_wp2_with fail
  have S0 : New w w.drew := (New.refl w).drew
  refine wp_region_noPanic ?_
  refine wp_region_held_drew (S := fun w' => New w w') (by kernel_rfl) S0 (fun _ => ?_)
  refine wpAnyH_take (i := 0) (v := .slice la n lc) rfl (by kernel_rfl) (by kernel_rfl) (by kernel_rfl) (fun _ _ _ h => h) (Or.inl ⟨rfl, fun _ _ => by go_simp⟩) S0 ?_
  simp only [List.getElem_toArray, List.getElem_cons_zero, Act.put, List.setIfInBounds_toArray, List.set_cons_zero, List.set_cons_succ]
  refine wpAnyH_take (i := 1) (v := .int .i64 (i : Int)) rfl (by kernel_rfl) (by kernel_rfl) (by kernel_rfl) (fun _ _ _ h => h) (Or.inl ⟨rfl, fun _ _ => by go_simp⟩) S0 ?_
  simp only [List.getElem_toArray, List.getElem_cons_zero, List.getElem_cons_succ, Act.put, List.setIfInBounds_toArray, List.set_cons_zero, List.set_cons_succ]
  refine wpAnyH_take (i := 2) (v := .pointer (some ⟨b1, o1, none⟩)) rfl (by kernel_rfl) (by kernel_rfl) (by kernel_rfl) (fun _ _ _ h => h) (ixV_if rfl 28 (.tmp 14) (.tmp 15) rfl _ _ _ rfl rfl i1) S0 ?_
  simp only [List.getElem_toArray, List.getElem_cons_zero, List.getElem_cons_succ, Act.put, List.setIfInBounds_toArray, List.set_cons_zero, List.set_cons_succ]
  refine wpAnyH_take (i := 3) (v := .agg (rwK x (.slice ra M rc)).toArray) rfl (by kernel_rfl) (by kernel_rfl) (by kernel_rfl) (fun _ _ _ h => h) (yieldsIf_load_mid (by rfl) _ _ rfl b1 o1 rfl (rwK x (.slice ra M rc)) _ (fun w' h => HG1.out _ h) Try.underlying45 rfl infoQw) S0 ?_
  simp only [List.getElem_toArray, List.getElem_cons_zero, List.getElem_cons_succ, Act.put, List.setIfInBounds_toArray, List.set_cons_zero, List.set_cons_succ]
  refine wpAnyH_take (i := 4) (v := .slice la n lc) rfl (by kernel_rfl) (by kernel_rfl) (by kernel_rfl) (fun _ _ _ h => h) (Or.inl ⟨rfl, fun _ _ => by go_simp⟩) S0 ?_
  simp only [List.getElem_toArray, List.getElem_cons_zero, List.getElem_cons_succ, Act.put, List.setIfInBounds_toArray, List.set_cons_zero, List.set_cons_succ]
  refine wpAnyH_take (i := 5) (v := .int .i64 (k : Int)) rfl (by kernel_rfl) (by kernel_rfl) (by kernel_rfl) (fun _ _ _ h => h) (Or.inl ⟨rfl, fun _ _ => by go_simp⟩) S0 ?_
  simp only [List.getElem_toArray, List.getElem_cons_zero, List.getElem_cons_succ, Act.put, List.setIfInBounds_toArray, List.set_cons_zero, List.set_cons_succ]
  refine wpAnyH_take (i := 6) (v := .pointer (some ⟨b2, o2, none⟩)) rfl (by kernel_rfl) (by kernel_rfl) (by kernel_rfl) (fun _ _ _ h => h) (ixV_if rfl 28 (.tmp 18) (.tmp 19) rfl _ _ _ rfl rfl i2) S0 ?_
  simp only [List.getElem_toArray, List.getElem_cons_zero, List.getElem_cons_succ, Act.put, List.setIfInBounds_toArray, List.set_cons_zero, List.set_cons_succ]
  refine wpAnyH_take (i := 7) (v := .agg (rwK y (.slice sa M sc)).toArray) rfl (by kernel_rfl) (by kernel_rfl) (by kernel_rfl) (fun _ _ _ h => h) (yieldsIf_load_mid (by rfl) _ _ rfl b2 o2 rfl (rwK y (.slice sa M sc)) _ (fun w' h => HG2.out _ h) Try.underlying45 rfl infoQw) S0 ?_
  simp only [List.getElem_toArray, List.getElem_cons_zero, List.getElem_cons_succ, Act.put, List.setIfInBounds_toArray, List.set_cons_zero, List.set_cons_succ]
  refine wpAnyH_new2 (i := 8) (j := 9) (o := .cells #[.int .i64 0, .slice none 0 0] 45 (0, 0)) (di := 9) (dj := 10) (m := 2) rfl rfl rfl rfl rfl rfl (run_alO _ rfl _ zeroQw_run) (run_alO _ rfl _ zeroQw_run) (by kernel_rfl) (by decide) (by decide) (fun _ h => h.alloc _) S0 ?_
  intro ga gb q1 q2 q3 q4 q5 hS
  simp only [Act.put, List.setIfInBounds_toArray, List.set_cons_zero, List.set_cons_succ]
  simp only [ptr]
  have d6 : HasC ((w.drew.alloc (.cells #[.int .i64 0, .slice none 0 0] 45 (0, 0))).alloc (.cells #[.int .i64 0, .slice none 0 0] 45 (0, 0))) ga 45 [.int .i64 0, .slice none 0 0] := two_al q1 q3
  have d7 : HasC ((w.drew.alloc (.cells #[.int .i64 0, .slice none 0 0] 45 (0, 0))).alloc (.cells #[.int .i64 0, .slice none 0 0] 45 (0, 0))) gb 45 [.int .i64 0, .slice none 0 0] := two_al q2 q4
  have hz : w.drew.heap.size = w.heap.size := rfl
  rw [hz] at q1 q2
  generalize ((w.drew.alloc (.cells #[.int .i64 0, .slice none 0 0] 45 (0, 0))).alloc (.cells #[.int .i64 0, .slice none 0 0] 45 (0, 0))) = w1 at d6 d7 hS ⊢
  clear q3 q4 hz
  refine wpAnyH_forced [10, 11] _ _ _ hS (by kernel_rfl) (by simp) ?_
  simp only [List.map_cons, List.map_nil, Array.getD_eq_getD_getElem?, List.getElem?_toArray, List.getElem?_cons_succ, List.getElem?_cons_zero, Option.getD_some]
  refine wpLS_stC rfl rfl 45 (.tmp 9) (.tmp 17) rfl ga rfl _ rfl d6 (rwK x (.slice ra M rc)) rfl rfl (rwK_one x rfl) infoQw ?_
  intro w2 b6 k6
  have nb := k6.below w q1 hS
  refine ⟨nb, ?_⟩
  refine wpLS_stC rfl rfl 45 (.tmp 10) (.tmp 21) rfl gb rfl _ rfl (HasC.kept d7 k6 (Ne.symm q5)) (rwK y (.slice sa M sc)) rfl rfl (rwK_one y rfl) infoQw ?_
  intro w3 b7 k7
  have nc := k7.below w q2 nb
  refine ⟨nc, ?_⟩
  refine wpLS_nil ?_
  refine NoPanic.normal ?_
  replace HS := Lib.hid (HS.out.two nc q1 q2 q5 (HasC.kept b6 k7 q5) b7)
  clear d6 d7 hS b6 k6 b7 k7 nb nc S0 q1 q2 q5
  have z0 := HS.out.cell 0 rfl (k := 0) rfl
  have z1 := HS.out.cell 1 rfl (k := 0) rfl
  have z2 := HS.out.cell 0 rfl (k := 1) rfl
  have z3 := HS.out.cell 1 rfl (k := 1) rfl
  go_wp2_with fail
  go_loopw [11] (fun mv wr => ∃ m : Nat, mv = .int .i64 (m : Int) ∧ m ≤ M ∧ Hid (∀ j < m, ∀ (h1 : j < x.to.length) (h2 : j < y.to.length), LikeR n (fun a b => A a b = false) x.to[j] y.to[j]) ∧ Hid (Sep w wr [blk ga 45 (rwK x (.slice ra M rc)), blk gb 45 (rwK y (.slice sa M sc))])) (fun mv _ => M - (intOf mv).toNat)
  case atStart => exact ⟨0, rfl, by omega, Lib.hid (fun _ h => absurd h (Nat.not_lt_zero _)), HS⟩
  case round =>
    obtain ⟨m, rfl, hm, HLS, HT⟩ := hrel
    clear HS z0 z1 z2 z3
    have y1 := HT.out.cell 0 rfl (k := 1) rfl
    have y2 := HT.out.cell 1 rfl (k := 1) rfl
    by_cases hmM : m < M
    · obtain ⟨r, hr⟩ : ∃ r, x.to[m]? = some r := ⟨_, List.getElem?_eq_getElem (by rw [HM.out]; exact hmM)⟩
      obtain ⟨s, hs⟩ : ∃ s, y.to[m]? = some s := ⟨_, List.getElem?_eq_getElem (by rw [HL.out]; exact hmM)⟩
      obtain ⟨b3, o3, i3, g3⟩ := RefsAt.ix (P := Try.prog) HF1.out 43 Try.underlying43 sizeQf hr
      obtain ⟨b4, o4, i4, g4⟩ := RefsAt.ix (P := Try.prog) HF2.out 43 Try.underlying43 sizeQf hs
      have HG3 := Lib.hid g3
      have HG4 := Lib.hid g4
      have NT := Lib.hid HT.out.nw
      have HSTEP : Hid (LikeR n (fun a b => A a b = false) r s → Hid (∀ j < m + 1, ∀ (h1 : j < x.to.length) (h2 : j < y.to.length), LikeR n (fun a b => A a b = false) x.to[j] y.to[j])) := Lib.hid fun h => Lib.hid fun j hj h1 h2 => by
        by_cases e : j < m
        · exact HLS.out j e h1 h2
        · obtain rfl : j = m := by omega
          have e1 : x.to[j] = r := by rw [List.getElem?_eq_getElem h1] at hr; exact Option.some.inj hr
          have e2 : y.to[j] = s := by rw [List.getElem?_eq_getElem h2] at hs; exact Option.some.inj hs
          rw [e1, e2]
          exact h
      have HR9 : Hid (LikeW n (fun a b => A a b = false) (rwA l i) (rwA l k) → LikeR n (fun a b => A a b = false) r s) := Lib.hid fun e => by
        rw [HXK.out, HYK.out] at e
        have h1 : m < x.to.length := by rw [HM.out]; exact hmM
        have h2 : m < y.to.length := by rw [HL.out]; exact hmM
        have h3 := e.to m h1 h2
        have e1 : x.to[m] = r := by rw [List.getElem?_eq_getElem h1] at hr; exact Option.some.inj hr
        have e2 : y.to[m] = s := by rw [List.getElem?_eq_getElem h2] at hs; exact Option.some.inj hs
        rwa [e1, e2] at h3
      clear hr hs g3 g4
      cases ht1 : thB n r with
      | false =>
        have HT1 := Lib.hid ht1
        obtain ⟨t2, ht2⟩ : ∃ t2, thB n s = t2 := ⟨_, rfl⟩
        have HT2 := Lib.hid ht2
        clear ht1 ht2
        by_cases hrs : r = s
        · have hq := neq_qf r s
          rw [decide_eq_true hrs] at hq
          have HLK : Hid (LikeR n (fun a b => A a b = false) r s) := Lib.hid (by unfold LikeR; rw [HT1.out]; exact hrs)
          clear hrs
          go_wp2_with fail
          have S0 : New wr wr.drew := (New.refl wr).drew
          refine wp_region_noPanic ?_
          refine wp_region_held_drew (S := fun w' => New wr w') (by kernel_rfl) S0 (fun _ => ?_)
          refine wpAnyH_take (i := 0) (v := .pointer (some ⟨ga, 1, none⟩)) rfl (by kernel_rfl) (by kernel_rfl) (by kernel_rfl) (fun _ _ _ h => h) (Or.inl ⟨rfl, fun _ _ => by go_simp⟩) S0 ?_
          simp only [List.getElem_toArray, List.getElem_cons_zero, Act.put, List.setIfInBounds_toArray, List.set_cons_zero, List.set_cons_succ]
          refine wpAnyH_take (i := 1) (v := .slice ra M rc) rfl (by kernel_rfl) (by kernel_rfl) (by kernel_rfl) (fun _ _ _ h => h) (ldV_if rfl 43 Try.isAgg43 (.tmp 43) rfl ⟨ga, 1, none⟩ rfl (fun w' h => h.cell' y1)) S0 ?_
          simp only [List.getElem_toArray, List.getElem_cons_zero, List.getElem_cons_succ, Act.put, List.setIfInBounds_toArray, List.set_cons_zero, List.set_cons_succ]
          refine wpAnyH_take (i := 2) (v := .int .i64 (m : Int)) rfl (by kernel_rfl) (by kernel_rfl) (by kernel_rfl) (fun _ _ _ h => h) (Or.inl ⟨rfl, fun _ _ => by go_simp⟩) S0 ?_
          simp only [List.getElem_toArray, List.getElem_cons_zero, List.getElem_cons_succ, Act.put, List.setIfInBounds_toArray, List.set_cons_zero, List.set_cons_succ]
          refine wpAnyH_take (i := 3) (v := .pointer (some ⟨b3, o3, none⟩)) rfl (by kernel_rfl) (by kernel_rfl) (by kernel_rfl) (fun _ _ _ h => h) (ixV_if rfl 43 (.tmp 44) (.tmp 45) rfl _ _ _ rfl rfl i3) S0 ?_
          simp only [List.getElem_toArray, List.getElem_cons_zero, List.getElem_cons_succ, Act.put, List.setIfInBounds_toArray, List.set_cons_zero, List.set_cons_succ]
          refine wpAnyH_take (i := 4) (v := .agg (refK r).toArray) rfl (by kernel_rfl) (by kernel_rfl) (by kernel_rfl) (fun _ _ _ h => h) (yieldsIf_load_mid (by rfl) _ _ rfl b3 o3 rfl (refK r) _ (fun w' h => HG3.out _ (NT.out.trans h)) Try.underlying46 rfl infoQf) S0 ?_
          simp only [List.getElem_toArray, List.getElem_cons_zero, List.getElem_cons_succ, Act.put, List.setIfInBounds_toArray, List.set_cons_zero, List.set_cons_succ]
          refine wpAnyH_take (i := 5) (v := .pointer (some ⟨gb, 1, none⟩)) rfl (by kernel_rfl) (by kernel_rfl) (by kernel_rfl) (fun _ _ _ h => h) (Or.inl ⟨rfl, fun _ _ => by go_simp⟩) S0 ?_
          simp only [List.getElem_toArray, List.getElem_cons_zero, List.getElem_cons_succ, Act.put, List.setIfInBounds_toArray, List.set_cons_zero, List.set_cons_succ]
          refine wpAnyH_take (i := 6) (v := .slice sa M sc) rfl (by kernel_rfl) (by kernel_rfl) (by kernel_rfl) (fun _ _ _ h => h) (ldV_if rfl 43 Try.isAgg43 (.tmp 48) rfl ⟨gb, 1, none⟩ rfl (fun w' h => h.cell' y2)) S0 ?_
          simp only [List.getElem_toArray, List.getElem_cons_zero, List.getElem_cons_succ, Act.put, List.setIfInBounds_toArray, List.set_cons_zero, List.set_cons_succ]
          refine wpAnyH_take (i := 7) (v := .int .i64 (m : Int)) rfl (by kernel_rfl) (by kernel_rfl) (by kernel_rfl) (fun _ _ _ h => h) (Or.inl ⟨rfl, fun _ _ => by go_simp⟩) S0 ?_
          simp only [List.getElem_toArray, List.getElem_cons_zero, List.getElem_cons_succ, Act.put, List.setIfInBounds_toArray, List.set_cons_zero, List.set_cons_succ]
          refine wpAnyH_take (i := 8) (v := .pointer (some ⟨b4, o4, none⟩)) rfl (by kernel_rfl) (by kernel_rfl) (by kernel_rfl) (fun _ _ _ h => h) (ixV_if rfl 43 (.tmp 49) (.tmp 50) rfl _ _ _ rfl rfl i4) S0 ?_
          simp only [List.getElem_toArray, List.getElem_cons_zero, List.getElem_cons_succ, Act.put, List.setIfInBounds_toArray, List.set_cons_zero, List.set_cons_succ]
          refine wpAnyH_take (i := 9) (v := .agg (refK s).toArray) rfl (by kernel_rfl) (by kernel_rfl) (by kernel_rfl) (fun _ _ _ h => h) (yieldsIf_load_mid (by rfl) _ _ rfl b4 o4 rfl (refK s) _ (fun w' h => HG4.out _ (NT.out.trans h)) Try.underlying46 rfl infoQf) S0 ?_
          simp only [List.getElem_toArray, List.getElem_cons_zero, List.getElem_cons_succ, Act.put, List.setIfInBounds_toArray, List.set_cons_zero, List.set_cons_succ]
          refine wpAnyH_new2 (i := 10) (j := 11) (o := .cells #[.int .i64 0, .int .i64 0] 46 (0, 0)) (di := 12) (dj := 13) (m := 2) rfl rfl rfl rfl rfl rfl (run_alO _ rfl _ zeroQf_run) (run_alO _ rfl _ zeroQf_run) (by kernel_rfl) (by decide) (by decide) (fun _ h => h.alloc _) S0 ?_
          intro gx gy q1 q2 q3 q4 q5 hS
          simp only [Act.put, List.setIfInBounds_toArray, List.set_cons_zero, List.set_cons_succ]
          simp only [ptr]
          have d6 : HasC ((wr.drew.alloc (.cells #[.int .i64 0, .int .i64 0] 46 (0, 0))).alloc (.cells #[.int .i64 0, .int .i64 0] 46 (0, 0))) gx 46 [.int .i64 0, .int .i64 0] := two_al q1 q3
          have d7 : HasC ((wr.drew.alloc (.cells #[.int .i64 0, .int .i64 0] 46 (0, 0))).alloc (.cells #[.int .i64 0, .int .i64 0] 46 (0, 0))) gy 46 [.int .i64 0, .int .i64 0] := two_al q2 q4
          have hz : wr.drew.heap.size = wr.heap.size := rfl
          rw [hz] at q1 q2
          generalize ((wr.drew.alloc (.cells #[.int .i64 0, .int .i64 0] 46 (0, 0))).alloc (.cells #[.int .i64 0, .int .i64 0] 46 (0, 0))) = w4 at d6 d7 hS ⊢
          clear q3 q4 hz
          refine wpAnyH_forced [12, 13] _ _ _ hS (by kernel_rfl) (by simp) ?_
          simp only [List.map_cons, List.map_nil, Array.getD_eq_getD_getElem?, List.getElem?_toArray, List.getElem?_cons_succ, List.getElem?_cons_zero, Option.getD_some]
          refine wpLS_stC rfl rfl 46 (.tmp 12) (.tmp 47) rfl gx rfl _ rfl d6 (refK r) rfl rfl (refK_one r) infoQf ?_
          intro w5 b6 k6
          have nb := k6.below wr q1 hS
          refine ⟨nb, ?_⟩
          refine wpLS_stC rfl rfl 46 (.tmp 13) (.tmp 52) rfl gy rfl _ rfl (HasC.kept d7 k6 (Ne.symm q5)) (refK s) rfl rfl (refK_one s) infoQf ?_
          intro w6 b7 k7
          have nc := k7.below wr q2 nb
          refine ⟨nc, ?_⟩
          refine wpLS_nil ?_
          refine NoPanic.normal ?_
          replace HT := Lib.hid (HT.out.two nc q1 q2 q5 (HasC.kept b6 k7 q5) b7)
          clear d6 d7 hS b6 k6 b7 k7 nb nc S0 q1 q2 q5
          have A1 : Hid True := Lib.hid trivial
          have A2 : Hid True := Lib.hid trivial
          have A3 : Hid True := Lib.hid trivial
          have A4 : Hid True := Lib.hid trivial
          go_wp2_with (first
            | (clear A1; refine wpList_load_mid rfl 46 (.tmp 12) rfl gx 0 rfl (refK r) _ (HasC.all (HT.out.has 0 rfl)) Try.underlying46 rfl infoQf ?_)
            | (clear A2; go_at_call 24; refine (thing_any la n lc r _).mono ?_; rw [HT1.out]; rintro e w7 ⟨rfl, hn⟩; replace HT := Lib.hid (HT.out.go hn); clear hn)
            | (clear A3; refine wpList_load_mid rfl 46 (.tmp 12) rfl gx 0 rfl (refK r) _ (HasC.all (HT.out.has 0 rfl)) Try.underlying46 rfl infoQf ?_)
            | (clear A4; refine wpList_load_mid rfl 46 (.tmp 13) rfl gy 0 rfl (refK s) _ (HasC.all (HT.out.has 1 rfl)) Try.underlying46 rfl infoQf ?_))
          go_roundw
          case rel => exact ⟨m + 1, by go_num, by omega, HSTEP.out HLK.out, Lib.hid HT.out.drop.drop⟩
          case measure => simp [intOf]; omega
        · have hq := neq_qf r s
          rw [decide_eq_false hrs] at hq
          have HNO : Hid (¬ LikeW n (fun a b => A a b = false) (rwA l i) (rwA l k)) := Lib.hid fun e => hrs (by have h9 := HR9.out e; unfold LikeR at h9; rwa [HT1.out] at h9)
          clear hrs
          go_wp2_with fail
          have S0 : New wr wr.drew := (New.refl wr).drew
          refine wp_region_noPanic ?_
          refine wp_region_held_drew (S := fun w' => New wr w') (by kernel_rfl) S0 (fun _ => ?_)
          refine wpAnyH_take (i := 0) (v := .pointer (some ⟨ga, 1, none⟩)) rfl (by kernel_rfl) (by kernel_rfl) (by kernel_rfl) (fun _ _ _ h => h) (Or.inl ⟨rfl, fun _ _ => by go_simp⟩) S0 ?_
          simp only [List.getElem_toArray, List.getElem_cons_zero, Act.put, List.setIfInBounds_toArray, List.set_cons_zero, List.set_cons_succ]
          refine wpAnyH_take (i := 1) (v := .slice ra M rc) rfl (by kernel_rfl) (by kernel_rfl) (by kernel_rfl) (fun _ _ _ h => h) (ldV_if rfl 43 Try.isAgg43 (.tmp 43) rfl ⟨ga, 1, none⟩ rfl (fun w' h => h.cell' y1)) S0 ?_
          simp only [List.getElem_toArray, List.getElem_cons_zero, List.getElem_cons_succ, Act.put, List.setIfInBounds_toArray, List.set_cons_zero, List.set_cons_succ]
          refine wpAnyH_take (i := 2) (v := .int .i64 (m : Int)) rfl (by kernel_rfl) (by kernel_rfl) (by kernel_rfl) (fun _ _ _ h => h) (Or.inl ⟨rfl, fun _ _ => by go_simp⟩) S0 ?_
          simp only [List.getElem_toArray, List.getElem_cons_zero, List.getElem_cons_succ, Act.put, List.setIfInBounds_toArray, List.set_cons_zero, List.set_cons_succ]
          refine wpAnyH_take (i := 3) (v := .pointer (some ⟨b3, o3, none⟩)) rfl (by kernel_rfl) (by kernel_rfl) (by kernel_rfl) (fun _ _ _ h => h) (ixV_if rfl 43 (.tmp 44) (.tmp 45) rfl _ _ _ rfl rfl i3) S0 ?_
          simp only [List.getElem_toArray, List.getElem_cons_zero, List.getElem_cons_succ, Act.put, List.setIfInBounds_toArray, List.set_cons_zero, List.set_cons_succ]
          refine wpAnyH_take (i := 4) (v := .agg (refK r).toArray) rfl (by kernel_rfl) (by kernel_rfl) (by kernel_rfl) (fun _ _ _ h => h) (yieldsIf_load_mid (by rfl) _ _ rfl b3 o3 rfl (refK r) _ (fun w' h => HG3.out _ (NT.out.trans h)) Try.underlying46 rfl infoQf) S0 ?_
          simp only [List.getElem_toArray, List.getElem_cons_zero, List.getElem_cons_succ, Act.put, List.setIfInBounds_toArray, List.set_cons_zero, List.set_cons_succ]
          refine wpAnyH_take (i := 5) (v := .pointer (some ⟨gb, 1, none⟩)) rfl (by kernel_rfl) (by kernel_rfl) (by kernel_rfl) (fun _ _ _ h => h) (Or.inl ⟨rfl, fun _ _ => by go_simp⟩) S0 ?_
          simp only [List.getElem_toArray, List.getElem_cons_zero, List.getElem_cons_succ, Act.put, List.setIfInBounds_toArray, List.set_cons_zero, List.set_cons_succ]
          refine wpAnyH_take (i := 6) (v := .slice sa M sc) rfl (by kernel_rfl) (by kernel_rfl) (by kernel_rfl) (fun _ _ _ h => h) (ldV_if rfl 43 Try.isAgg43 (.tmp 48) rfl ⟨gb, 1, none⟩ rfl (fun w' h => h.cell' y2)) S0 ?_
          simp only [List.getElem_toArray, List.getElem_cons_zero, List.getElem_cons_succ, Act.put, List.setIfInBounds_toArray, List.set_cons_zero, List.set_cons_succ]
          refine wpAnyH_take (i := 7) (v := .int .i64 (m : Int)) rfl (by kernel_rfl) (by kernel_rfl) (by kernel_rfl) (fun _ _ _ h => h) (Or.inl ⟨rfl, fun _ _ => by go_simp⟩) S0 ?_
          simp only [List.getElem_toArray, List.getElem_cons_zero, List.getElem_cons_succ, Act.put, List.setIfInBounds_toArray, List.set_cons_zero, List.set_cons_succ]
          refine wpAnyH_take (i := 8) (v := .pointer (some ⟨b4, o4, none⟩)) rfl (by kernel_rfl) (by kernel_rfl) (by kernel_rfl) (fun _ _ _ h => h) (ixV_if rfl 43 (.tmp 49) (.tmp 50) rfl _ _ _ rfl rfl i4) S0 ?_
          simp only [List.getElem_toArray, List.getElem_cons_zero, List.getElem_cons_succ, Act.put, List.setIfInBounds_toArray, List.set_cons_zero, List.set_cons_succ]
          refine wpAnyH_take (i := 9) (v := .agg (refK s).toArray) rfl (by kernel_rfl) (by kernel_rfl) (by kernel_rfl) (fun _ _ _ h => h) (yieldsIf_load_mid (by rfl) _ _ rfl b4 o4 rfl (refK s) _ (fun w' h => HG4.out _ (NT.out.trans h)) Try.underlying46 rfl infoQf) S0 ?_
          simp only [List.getElem_toArray, List.getElem_cons_zero, List.getElem_cons_succ, Act.put, List.setIfInBounds_toArray, List.set_cons_zero, List.set_cons_succ]
          refine wpAnyH_new2 (i := 10) (j := 11) (o := .cells #[.int .i64 0, .int .i64 0] 46 (0, 0)) (di := 12) (dj := 13) (m := 2) rfl rfl rfl rfl rfl rfl (run_alO _ rfl _ zeroQf_run) (run_alO _ rfl _ zeroQf_run) (by kernel_rfl) (by decide) (by decide) (fun _ h => h.alloc _) S0 ?_
          intro gx gy q1 q2 q3 q4 q5 hS
          simp only [Act.put, List.setIfInBounds_toArray, List.set_cons_zero, List.set_cons_succ]
          simp only [ptr]
          have d6 : HasC ((wr.drew.alloc (.cells #[.int .i64 0, .int .i64 0] 46 (0, 0))).alloc (.cells #[.int .i64 0, .int .i64 0] 46 (0, 0))) gx 46 [.int .i64 0, .int .i64 0] := two_al q1 q3
          have d7 : HasC ((wr.drew.alloc (.cells #[.int .i64 0, .int .i64 0] 46 (0, 0))).alloc (.cells #[.int .i64 0, .int .i64 0] 46 (0, 0))) gy 46 [.int .i64 0, .int .i64 0] := two_al q2 q4
          have hz : wr.drew.heap.size = wr.heap.size := rfl
          rw [hz] at q1 q2
          generalize ((wr.drew.alloc (.cells #[.int .i64 0, .int .i64 0] 46 (0, 0))).alloc (.cells #[.int .i64 0, .int .i64 0] 46 (0, 0))) = w4 at d6 d7 hS ⊢
          clear q3 q4 hz
          refine wpAnyH_forced [12, 13] _ _ _ hS (by kernel_rfl) (by simp) ?_
          simp only [List.map_cons, List.map_nil, Array.getD_eq_getD_getElem?, List.getElem?_toArray, List.getElem?_cons_succ, List.getElem?_cons_zero, Option.getD_some]
          refine wpLS_stC rfl rfl 46 (.tmp 12) (.tmp 47) rfl gx rfl _ rfl d6 (refK r) rfl rfl (refK_one r) infoQf ?_
          intro w5 b6 k6
          have nb := k6.below wr q1 hS
          refine ⟨nb, ?_⟩
          refine wpLS_stC rfl rfl 46 (.tmp 13) (.tmp 52) rfl gy rfl _ rfl (HasC.kept d7 k6 (Ne.symm q5)) (refK s) rfl rfl (refK_one s) infoQf ?_
          intro w6 b7 k7
          have nc := k7.below wr q2 nb
          refine ⟨nc, ?_⟩
          refine wpLS_nil ?_
          refine NoPanic.normal ?_
          replace HT := Lib.hid (HT.out.two nc q1 q2 q5 (HasC.kept b6 k7 q5) b7)
          clear d6 d7 hS b6 k6 b7 k7 nb nc S0 q1 q2 q5
          have B1 : Hid True := Lib.hid trivial
          have B2 : Hid True := Lib.hid trivial
          have B3 : Hid True := Lib.hid trivial
          have B4 : Hid True := Lib.hid trivial
          go_wp2_with (first
            | (clear B1; refine wpList_load_mid rfl 46 (.tmp 12) rfl gx 0 rfl (refK r) _ (HasC.all (HT.out.has 0 rfl)) Try.underlying46 rfl infoQf ?_)
            | (clear B2; go_at_call 24; refine (thing_any la n lc r _).mono ?_; rw [HT1.out]; rintro e w7 ⟨rfl, hn⟩; replace HT := Lib.hid (HT.out.go hn); clear hn)
            | (clear B3; refine wpList_load_mid rfl 46 (.tmp 12) rfl gx 0 rfl (refK r) _ (HasC.all (HT.out.has 0 rfl)) Try.underlying46 rfl infoQf ?_)
            | (clear B4; refine wpList_load_mid rfl 46 (.tmp 13) rfl gy 0 rfl (refK s) _ (HasC.all (HT.out.has 1 rfl)) Try.underlying46 rfl infoQf ?_))
          go_ret
          exact ⟨true, rfl, ⟨fun h => (by cases h), fun h => absurd h HNO.out⟩, HT.out.nw⟩
      | true =>
        have HT1 := Lib.hid ht1
        cases ht2 : thB n s with
        | false =>
          have HT2 := Lib.hid ht2
          clear ht1 ht2
          by_cases hrs : r = s
          · have hq := neq_qf r s
            rw [decide_eq_true hrs] at hq
            have HLK : Hid (LikeR n (fun a b => A a b = false) r s) := Lib.hid (by unfold LikeR; rw [HT1.out, HT2.out]; exact hrs)
            clear hrs
            go_wp2_with fail
            have S0 : New wr wr.drew := (New.refl wr).drew
            refine wp_region_noPanic ?_
            refine wp_region_held_drew (S := fun w' => New wr w') (by kernel_rfl) S0 (fun _ => ?_)
            refine wpAnyH_take (i := 0) (v := .pointer (some ⟨ga, 1, none⟩)) rfl (by kernel_rfl) (by kernel_rfl) (by kernel_rfl) (fun _ _ _ h => h) (Or.inl ⟨rfl, fun _ _ => by go_simp⟩) S0 ?_
            simp only [List.getElem_toArray, List.getElem_cons_zero, Act.put, List.setIfInBounds_toArray, List.set_cons_zero, List.set_cons_succ]
            refine wpAnyH_take (i := 1) (v := .slice ra M rc) rfl (by kernel_rfl) (by kernel_rfl) (by kernel_rfl) (fun _ _ _ h => h) (ldV_if rfl 43 Try.isAgg43 (.tmp 43) rfl ⟨ga, 1, none⟩ rfl (fun w' h => h.cell' y1)) S0 ?_
            simp only [List.getElem_toArray, List.getElem_cons_zero, List.getElem_cons_succ, Act.put, List.setIfInBounds_toArray, List.set_cons_zero, List.set_cons_succ]
            refine wpAnyH_take (i := 2) (v := .int .i64 (m : Int)) rfl (by kernel_rfl) (by kernel_rfl) (by kernel_rfl) (fun _ _ _ h => h) (Or.inl ⟨rfl, fun _ _ => by go_simp⟩) S0 ?_
            simp only [List.getElem_toArray, List.getElem_cons_zero, List.getElem_cons_succ, Act.put, List.setIfInBounds_toArray, List.set_cons_zero, List.set_cons_succ]
            refine wpAnyH_take (i := 3) (v := .pointer (some ⟨b3, o3, none⟩)) rfl (by kernel_rfl) (by kernel_rfl) (by kernel_rfl) (fun _ _ _ h => h) (ixV_if rfl 43 (.tmp 44) (.tmp 45) rfl _ _ _ rfl rfl i3) S0 ?_
            simp only [List.getElem_toArray, List.getElem_cons_zero, List.getElem_cons_succ, Act.put, List.setIfInBounds_toArray, List.set_cons_zero, List.set_cons_succ]
            refine wpAnyH_take (i := 4) (v := .agg (refK r).toArray) rfl (by kernel_rfl) (by kernel_rfl) (by kernel_rfl) (fun _ _ _ h => h) (yieldsIf_load_mid (by rfl) _ _ rfl b3 o3 rfl (refK r) _ (fun w' h => HG3.out _ (NT.out.trans h)) Try.underlying46 rfl infoQf) S0 ?_
            simp only [List.getElem_toArray, List.getElem_cons_zero, List.getElem_cons_succ, Act.put, List.setIfInBounds_toArray, List.set_cons_zero, List.set_cons_succ]
            refine wpAnyH_take (i := 5) (v := .pointer (some ⟨gb, 1, none⟩)) rfl (by kernel_rfl) (by kernel_rfl) (by kernel_rfl) (fun _ _ _ h => h) (Or.inl ⟨rfl, fun _ _ => by go_simp⟩) S0 ?_
            simp only [List.getElem_toArray, List.getElem_cons_zero, List.getElem_cons_succ, Act.put, List.setIfInBounds_toArray, List.set_cons_zero, List.set_cons_succ]
            refine wpAnyH_take (i := 6) (v := .slice sa M sc) rfl (by kernel_rfl) (by kernel_rfl) (by kernel_rfl) (fun _ _ _ h => h) (ldV_if rfl 43 Try.isAgg43 (.tmp 48) rfl ⟨gb, 1, none⟩ rfl (fun w' h => h.cell' y2)) S0 ?_
            simp only [List.getElem_toArray, List.getElem_cons_zero, List.getElem_cons_succ, Act.put, List.setIfInBounds_toArray, List.set_cons_zero, List.set_cons_succ]
            refine wpAnyH_take (i := 7) (v := .int .i64 (m : Int)) rfl (by kernel_rfl) (by kernel_rfl) (by kernel_rfl) (fun _ _ _ h => h) (Or.inl ⟨rfl, fun _ _ => by go_simp⟩) S0 ?_
            simp only [List.getElem_toArray, List.getElem_cons_zero, List.getElem_cons_succ, Act.put, List.setIfInBounds_toArray, List.set_cons_zero, List.set_cons_succ]
            refine wpAnyH_take (i := 8) (v := .pointer (some ⟨b4, o4, none⟩)) rfl (by kernel_rfl) (by kernel_rfl) (by kernel_rfl) (fun _ _ _ h => h) (ixV_if rfl 43 (.tmp 49) (.tmp 50) rfl _ _ _ rfl rfl i4) S0 ?_
            simp only [List.getElem_toArray, List.getElem_cons_zero, List.getElem_cons_succ, Act.put, List.setIfInBounds_toArray, List.set_cons_zero, List.set_cons_succ]
            refine wpAnyH_take (i := 9) (v := .agg (refK s).toArray) rfl (by kernel_rfl) (by kernel_rfl) (by kernel_rfl) (fun _ _ _ h => h) (yieldsIf_load_mid (by rfl) _ _ rfl b4 o4 rfl (refK s) _ (fun w' h => HG4.out _ (NT.out.trans h)) Try.underlying46 rfl infoQf) S0 ?_
            simp only [List.getElem_toArray, List.getElem_cons_zero, List.getElem_cons_succ, Act.put, List.setIfInBounds_toArray, List.set_cons_zero, List.set_cons_succ]
            refine wpAnyH_new2 (i := 10) (j := 11) (o := .cells #[.int .i64 0, .int .i64 0] 46 (0, 0)) (di := 12) (dj := 13) (m := 2) rfl rfl rfl rfl rfl rfl (run_alO _ rfl _ zeroQf_run) (run_alO _ rfl _ zeroQf_run) (by kernel_rfl) (by decide) (by decide) (fun _ h => h.alloc _) S0 ?_
            intro gx gy q1 q2 q3 q4 q5 hS
            simp only [Act.put, List.setIfInBounds_toArray, List.set_cons_zero, List.set_cons_succ]
            simp only [ptr]
            have d6 : HasC ((wr.drew.alloc (.cells #[.int .i64 0, .int .i64 0] 46 (0, 0))).alloc (.cells #[.int .i64 0, .int .i64 0] 46 (0, 0))) gx 46 [.int .i64 0, .int .i64 0] := two_al q1 q3
            have d7 : HasC ((wr.drew.alloc (.cells #[.int .i64 0, .int .i64 0] 46 (0, 0))).alloc (.cells #[.int .i64 0, .int .i64 0] 46 (0, 0))) gy 46 [.int .i64 0, .int .i64 0] := two_al q2 q4
            have hz : wr.drew.heap.size = wr.heap.size := rfl
            rw [hz] at q1 q2
            generalize ((wr.drew.alloc (.cells #[.int .i64 0, .int .i64 0] 46 (0, 0))).alloc (.cells #[.int .i64 0, .int .i64 0] 46 (0, 0))) = w4 at d6 d7 hS ⊢
            clear q3 q4 hz
            refine wpAnyH_forced [12, 13] _ _ _ hS (by kernel_rfl) (by simp) ?_
            simp only [List.map_cons, List.map_nil, Array.getD_eq_getD_getElem?, List.getElem?_toArray, List.getElem?_cons_succ, List.getElem?_cons_zero, Option.getD_some]
            refine wpLS_stC rfl rfl 46 (.tmp 12) (.tmp 47) rfl gx rfl _ rfl d6 (refK r) rfl rfl (refK_one r) infoQf ?_
            intro w5 b6 k6
            have nb := k6.below wr q1 hS
            refine ⟨nb, ?_⟩
            refine wpLS_stC rfl rfl 46 (.tmp 13) (.tmp 52) rfl gy rfl _ rfl (HasC.kept d7 k6 (Ne.symm q5)) (refK s) rfl rfl (refK_one s) infoQf ?_
            intro w6 b7 k7
            have nc := k7.below wr q2 nb
            refine ⟨nc, ?_⟩
            refine wpLS_nil ?_
            refine NoPanic.normal ?_
            replace HT := Lib.hid (HT.out.two nc q1 q2 q5 (HasC.kept b6 k7 q5) b7)
            clear d6 d7 hS b6 k6 b7 k7 nb nc S0 q1 q2 q5
            have A1 : Hid True := Lib.hid trivial
            have A2 : Hid True := Lib.hid trivial
            have A3 : Hid True := Lib.hid trivial
            have A4 : Hid True := Lib.hid trivial
            have A5 : Hid True := Lib.hid trivial
            have A6 : Hid True := Lib.hid trivial
            go_wp2_with (first
              | (clear A1; refine wpList_load_mid rfl 46 (.tmp 12) rfl gx 0 rfl (refK r) _ (HasC.all (HT.out.has 0 rfl)) Try.underlying46 rfl infoQf ?_)
              | (clear A2; go_at_call 24; refine (thing_any la n lc r _).mono ?_; rw [HT1.out]; rintro e w7 ⟨rfl, hn⟩; replace HT := Lib.hid (HT.out.go hn); clear hn)
              | (clear A3; refine wpList_ldAG rfl 46 (.tmp 13) rfl gy 0 rfl (refK s) _ (HasC.all (HT.out.has 1 rfl)) Try.underlying46 rfl infoQf ?_)
              | (clear A4; go_at_call 24; refine (thing_any la n lc s _).mono ?_; rw [HT2.out]; rintro e w8 ⟨rfl, hn⟩; replace HT := Lib.hid (HT.out.go hn); clear hn)
              | (clear A5; refine wpList_load_mid rfl 46 (.tmp 12) rfl gx 0 rfl (refK r) _ (HasC.all (HT.out.has 0 rfl)) Try.underlying46 rfl infoQf ?_)
              | (clear A6; refine wpList_load_mid rfl 46 (.tmp 13) rfl gy 0 rfl (refK s) _ (HasC.all (HT.out.has 1 rfl)) Try.underlying46 rfl infoQf ?_))
            go_roundw
            case rel => exact ⟨m + 1, by go_num, by omega, HSTEP.out HLK.out, Lib.hid HT.out.drop.drop⟩
            case measure => simp [intOf]; omega
          · have hq := neq_qf r s
            rw [decide_eq_false hrs] at hq
            have HNO : Hid (¬ LikeW n (fun a b => A a b = false) (rwA l i) (rwA l k)) := Lib.hid fun e => hrs (by have h9 := HR9.out e; unfold LikeR at h9; rwa [HT1.out, HT2.out] at h9)
            clear hrs
            go_wp2_with fail
            have S0 : New wr wr.drew := (New.refl wr).drew
            refine wp_region_noPanic ?_
            refine wp_region_held_drew (S := fun w' => New wr w') (by kernel_rfl) S0 (fun _ => ?_)
            refine wpAnyH_take (i := 0) (v := .pointer (some ⟨ga, 1, none⟩)) rfl (by kernel_rfl) (by kernel_rfl) (by kernel_rfl) (fun _ _ _ h => h) (Or.inl ⟨rfl, fun _ _ => by go_simp⟩) S0 ?_
            simp only [List.getElem_toArray, List.getElem_cons_zero, Act.put, List.setIfInBounds_toArray, List.set_cons_zero, List.set_cons_succ]
            refine wpAnyH_take (i := 1) (v := .slice ra M rc) rfl (by kernel_rfl) (by kernel_rfl) (by kernel_rfl) (fun _ _ _ h => h) (ldV_if rfl 43 Try.isAgg43 (.tmp 43) rfl ⟨ga, 1, none⟩ rfl (fun w' h => h.cell' y1)) S0 ?_
            simp only [List.getElem_toArray, List.getElem_cons_zero, List.getElem_cons_succ, Act.put, List.setIfInBounds_toArray, List.set_cons_zero, List.set_cons_succ]
            refine wpAnyH_take (i := 2) (v := .int .i64 (m : Int)) rfl (by kernel_rfl) (by kernel_rfl) (by kernel_rfl) (fun _ _ _ h => h) (Or.inl ⟨rfl, fun _ _ => by go_simp⟩) S0 ?_
            simp only [List.getElem_toArray, List.getElem_cons_zero, List.getElem_cons_succ, Act.put, List.setIfInBounds_toArray, List.set_cons_zero, List.set_cons_succ]
            refine wpAnyH_take (i := 3) (v := .pointer (some ⟨b3, o3, none⟩)) rfl (by kernel_rfl) (by kernel_rfl) (by kernel_rfl) (fun _ _ _ h => h) (ixV_if rfl 43 (.tmp 44) (.tmp 45) rfl _ _ _ rfl rfl i3) S0 ?_
            simp only [List.getElem_toArray, List.getElem_cons_zero, List.getElem_cons_succ, Act.put, List.setIfInBounds_toArray, List.set_cons_zero, List.set_cons_succ]
            refine wpAnyH_take (i := 4) (v := .agg (refK r).toArray) rfl (by kernel_rfl) (by kernel_rfl) (by kernel_rfl) (fun _ _ _ h => h) (yieldsIf_load_mid (by rfl) _ _ rfl b3 o3 rfl (refK r) _ (fun w' h => HG3.out _ (NT.out.trans h)) Try.underlying46 rfl infoQf) S0 ?_
            simp only [List.getElem_toArray, List.getElem_cons_zero, List.getElem_cons_succ, Act.put, List.setIfInBounds_toArray, List.set_cons_zero, List.set_cons_succ]
            refine wpAnyH_take (i := 5) (v := .pointer (some ⟨gb, 1, none⟩)) rfl (by kernel_rfl) (by kernel_rfl) (by kernel_rfl) (fun _ _ _ h => h) (Or.inl ⟨rfl, fun _ _ => by go_simp⟩) S0 ?_
            simp only [List.getElem_toArray, List.getElem_cons_zero, List.getElem_cons_succ, Act.put, List.setIfInBounds_toArray, List.set_cons_zero, List.set_cons_succ]
            refine wpAnyH_take (i := 6) (v := .slice sa M sc) rfl (by kernel_rfl) (by kernel_rfl) (by kernel_rfl) (fun _ _ _ h => h) (ldV_if rfl 43 Try.isAgg43 (.tmp 48) rfl ⟨gb, 1, none⟩ rfl (fun w' h => h.cell' y2)) S0 ?_
            simp only [List.getElem_toArray, List.getElem_cons_zero, List.getElem_cons_succ, Act.put, List.setIfInBounds_toArray, List.set_cons_zero, List.set_cons_succ]
            refine wpAnyH_take (i := 7) (v := .int .i64 (m : Int)) rfl (by kernel_rfl) (by kernel_rfl) (by kernel_rfl) (fun _ _ _ h => h) (Or.inl ⟨rfl, fun _ _ => by go_simp⟩) S0 ?_
            simp only [List.getElem_toArray, List.getElem_cons_zero, List.getElem_cons_succ, Act.put, List.setIfInBounds_toArray, List.set_cons_zero, List.set_cons_succ]
            refine wpAnyH_take (i := 8) (v := .pointer (some ⟨b4, o4, none⟩)) rfl (by kernel_rfl) (by kernel_rfl) (by kernel_rfl) (fun _ _ _ h => h) (ixV_if rfl 43 (.tmp 49) (.tmp 50) rfl _ _ _ rfl rfl i4) S0 ?_
            simp only [List.getElem_toArray, List.getElem_cons_zero, List.getElem_cons_succ, Act.put, List.setIfInBounds_toArray, List.set_cons_zero, List.set_cons_succ]
            refine wpAnyH_take (i := 9) (v := .agg (refK s).toArray) rfl (by kernel_rfl) (by kernel_rfl) (by kernel_rfl) (fun _ _ _ h => h) (yieldsIf_load_mid (by rfl) _ _ rfl b4 o4 rfl (refK s) _ (fun w' h => HG4.out _ (NT.out.trans h)) Try.underlying46 rfl infoQf) S0 ?_
            simp only [List.getElem_toArray, List.getElem_cons_zero, List.getElem_cons_succ, Act.put, List.setIfInBounds_toArray, List.set_cons_zero, List.set_cons_succ]
            refine wpAnyH_new2 (i := 10) (j := 11) (o := .cells #[.int .i64 0, .int .i64 0] 46 (0, 0)) (di := 12) (dj := 13) (m := 2) rfl rfl rfl rfl rfl rfl (run_alO _ rfl _ zeroQf_run) (run_alO _ rfl _ zeroQf_run) (by kernel_rfl) (by decide) (by decide) (fun _ h => h.alloc _) S0 ?_
            intro gx gy q1 q2 q3 q4 q5 hS
            simp only [Act.put, List.setIfInBounds_toArray, List.set_cons_zero, List.set_cons_succ]
            simp only [ptr]
            have d6 : HasC ((wr.drew.alloc (.cells #[.int .i64 0, .int .i64 0] 46 (0, 0))).alloc (.cells #[.int .i64 0, .int .i64 0] 46 (0, 0))) gx 46 [.int .i64 0, .int .i64 0] := two_al q1 q3
            have d7 : HasC ((wr.drew.alloc (.cells #[.int .i64 0, .int .i64 0] 46 (0, 0))).alloc (.cells #[.int .i64 0, .int .i64 0] 46 (0, 0))) gy 46 [.int .i64 0, .int .i64 0] := two_al q2 q4
            have hz : wr.drew.heap.size = wr.heap.size := rfl
            rw [hz] at q1 q2
            generalize ((wr.drew.alloc (.cells #[.int .i64 0, .int .i64 0] 46 (0, 0))).alloc (.cells #[.int .i64 0, .int .i64 0] 46 (0, 0))) = w4 at d6 d7 hS ⊢
            clear q3 q4 hz
            refine wpAnyH_forced [12, 13] _ _ _ hS (by kernel_rfl) (by simp) ?_
            simp only [List.map_cons, List.map_nil, Array.getD_eq_getD_getElem?, List.getElem?_toArray, List.getElem?_cons_succ, List.getElem?_cons_zero, Option.getD_some]
            refine wpLS_stC rfl rfl 46 (.tmp 12) (.tmp 47) rfl gx rfl _ rfl d6 (refK r) rfl rfl (refK_one r) infoQf ?_
            intro w5 b6 k6
            have nb := k6.below wr q1 hS
            refine ⟨nb, ?_⟩
            refine wpLS_stC rfl rfl 46 (.tmp 13) (.tmp 52) rfl gy rfl _ rfl (HasC.kept d7 k6 (Ne.symm q5)) (refK s) rfl rfl (refK_one s) infoQf ?_
            intro w6 b7 k7
            have nc := k7.below wr q2 nb
            refine ⟨nc, ?_⟩
            refine wpLS_nil ?_
            refine NoPanic.normal ?_
            replace HT := Lib.hid (HT.out.two nc q1 q2 q5 (HasC.kept b6 k7 q5) b7)
            clear d6 d7 hS b6 k6 b7 k7 nb nc S0 q1 q2 q5
            have B1 : Hid True := Lib.hid trivial
            have B2 : Hid True := Lib.hid trivial
            have B3 : Hid True := Lib.hid trivial
            have B4 : Hid True := Lib.hid trivial
            have B5 : Hid True := Lib.hid trivial
            have B6 : Hid True := Lib.hid trivial
            go_wp2_with (first
              | (clear B1; refine wpList_load_mid rfl 46 (.tmp 12) rfl gx 0 rfl (refK r) _ (HasC.all (HT.out.has 0 rfl)) Try.underlying46 rfl infoQf ?_)
              | (clear B2; go_at_call 24; refine (thing_any la n lc r _).mono ?_; rw [HT1.out]; rintro e w7 ⟨rfl, hn⟩; replace HT := Lib.hid (HT.out.go hn); clear hn)
              | (clear B3; refine wpList_ldAG rfl 46 (.tmp 13) rfl gy 0 rfl (refK s) _ (HasC.all (HT.out.has 1 rfl)) Try.underlying46 rfl infoQf ?_)
              | (clear B4; go_at_call 24; refine (thing_any la n lc s _).mono ?_; rw [HT2.out]; rintro e w8 ⟨rfl, hn⟩; replace HT := Lib.hid (HT.out.go hn); clear hn)
              | (clear B5; refine wpList_load_mid rfl 46 (.tmp 12) rfl gx 0 rfl (refK r) _ (HasC.all (HT.out.has 0 rfl)) Try.underlying46 rfl infoQf ?_)
              | (clear B6; refine wpList_load_mid rfl 46 (.tmp 13) rfl gy 0 rfl (refK s) _ (HasC.all (HT.out.has 1 rfl)) Try.underlying46 rfl infoQf ?_))
            go_ret
            exact ⟨true, rfl, ⟨fun h => (by cases h), fun h => absurd h HNO.out⟩, HT.out.nw⟩
        | true =>
          have HT2 := Lib.hid ht2
          obtain ⟨a, ha⟩ : ∃ a : Nat, r.2 = (a : Int) := ⟨r.2.toNat, by have := th_iff.mp ht1; omega⟩
          obtain ⟨b, hb⟩ : ∃ b : Nat, s.2 = (b : Int) := ⟨s.2.toNat, by have := th_iff.mp ht2; omega⟩
          have han : a < n := by have := th_iff.mp ht1; omega
          have hbn : b < n := by have := th_iff.mp ht2; omega
          obtain ⟨c1, p1, xa, xc, c2, p2, i5, r5, i6, r6⟩ := tabG_ix HTB.out han hbn
          rw [← ha] at i5
          rw [← hb] at i6
          have HAB : Hid (A r.2.toNat s.2.toNat = A a b) := Lib.hid (by rw [ha, hb]; rfl)
          have H5 := Lib.hid r5
          have H6 := Lib.hid r6
          clear r5 r6 ha hb ht1 ht2
          obtain ⟨q, HQ⟩ : ∃ q, Hid (A a b = q) := ⟨_, Lib.hid rfl⟩
          rw [HQ.out] at HAB H6
          cases q with
          | false =>
            have HLK : Hid (LikeR n (fun a b => A a b = false) r s) := Lib.hid (by unfold LikeR; rw [HT1.out, HT2.out]; exact HAB.out)
            go_wp2_with fail
            have S0 : New wr wr.drew := (New.refl wr).drew
            refine wp_region_noPanic ?_
            refine wp_region_held_drew (S := fun w' => New wr w') (by kernel_rfl) S0 (fun _ => ?_)
            refine wpAnyH_take (i := 0) (v := .pointer (some ⟨ga, 1, none⟩)) rfl (by kernel_rfl) (by kernel_rfl) (by kernel_rfl) (fun _ _ _ h => h) (Or.inl ⟨rfl, fun _ _ => by go_simp⟩) S0 ?_
            simp only [List.getElem_toArray, List.getElem_cons_zero, Act.put, List.setIfInBounds_toArray, List.set_cons_zero, List.set_cons_succ]
            refine wpAnyH_take (i := 1) (v := .slice ra M rc) rfl (by kernel_rfl) (by kernel_rfl) (by kernel_rfl) (fun _ _ _ h => h) (ldV_if rfl 43 Try.isAgg43 (.tmp 43) rfl ⟨ga, 1, none⟩ rfl (fun w' h => h.cell' y1)) S0 ?_
            simp only [List.getElem_toArray, List.getElem_cons_zero, List.getElem_cons_succ, Act.put, List.setIfInBounds_toArray, List.set_cons_zero, List.set_cons_succ]
            refine wpAnyH_take (i := 2) (v := .int .i64 (m : Int)) rfl (by kernel_rfl) (by kernel_rfl) (by kernel_rfl) (fun _ _ _ h => h) (Or.inl ⟨rfl, fun _ _ => by go_simp⟩) S0 ?_
            simp only [List.getElem_toArray, List.getElem_cons_zero, List.getElem_cons_succ, Act.put, List.setIfInBounds_toArray, List.set_cons_zero, List.set_cons_succ]
            refine wpAnyH_take (i := 3) (v := .pointer (some ⟨b3, o3, none⟩)) rfl (by kernel_rfl) (by kernel_rfl) (by kernel_rfl) (fun _ _ _ h => h) (ixV_if rfl 43 (.tmp 44) (.tmp 45) rfl _ _ _ rfl rfl i3) S0 ?_
            simp only [List.getElem_toArray, List.getElem_cons_zero, List.getElem_cons_succ, Act.put, List.setIfInBounds_toArray, List.set_cons_zero, List.set_cons_succ]
            refine wpAnyH_take (i := 4) (v := .agg (refK r).toArray) rfl (by kernel_rfl) (by kernel_rfl) (by kernel_rfl) (fun _ _ _ h => h) (yieldsIf_load_mid (by rfl) _ _ rfl b3 o3 rfl (refK r) _ (fun w' h => HG3.out _ (NT.out.trans h)) Try.underlying46 rfl infoQf) S0 ?_
            simp only [List.getElem_toArray, List.getElem_cons_zero, List.getElem_cons_succ, Act.put, List.setIfInBounds_toArray, List.set_cons_zero, List.set_cons_succ]
            refine wpAnyH_take (i := 5) (v := .pointer (some ⟨gb, 1, none⟩)) rfl (by kernel_rfl) (by kernel_rfl) (by kernel_rfl) (fun _ _ _ h => h) (Or.inl ⟨rfl, fun _ _ => by go_simp⟩) S0 ?_
            simp only [List.getElem_toArray, List.getElem_cons_zero, List.getElem_cons_succ, Act.put, List.setIfInBounds_toArray, List.set_cons_zero, List.set_cons_succ]
            refine wpAnyH_take (i := 6) (v := .slice sa M sc) rfl (by kernel_rfl) (by kernel_rfl) (by kernel_rfl) (fun _ _ _ h => h) (ldV_if rfl 43 Try.isAgg43 (.tmp 48) rfl ⟨gb, 1, none⟩ rfl (fun w' h => h.cell' y2)) S0 ?_
            simp only [List.getElem_toArray, List.getElem_cons_zero, List.getElem_cons_succ, Act.put, List.setIfInBounds_toArray, List.set_cons_zero, List.set_cons_succ]
            refine wpAnyH_take (i := 7) (v := .int .i64 (m : Int)) rfl (by kernel_rfl) (by kernel_rfl) (by kernel_rfl) (fun _ _ _ h => h) (Or.inl ⟨rfl, fun _ _ => by go_simp⟩) S0 ?_
            simp only [List.getElem_toArray, List.getElem_cons_zero, List.getElem_cons_succ, Act.put, List.setIfInBounds_toArray, List.set_cons_zero, List.set_cons_succ]
            refine wpAnyH_take (i := 8) (v := .pointer (some ⟨b4, o4, none⟩)) rfl (by kernel_rfl) (by kernel_rfl) (by kernel_rfl) (fun _ _ _ h => h) (ixV_if rfl 43 (.tmp 49) (.tmp 50) rfl _ _ _ rfl rfl i4) S0 ?_
            simp only [List.getElem_toArray, List.getElem_cons_zero, List.getElem_cons_succ, Act.put, List.setIfInBounds_toArray, List.set_cons_zero, List.set_cons_succ]
            refine wpAnyH_take (i := 9) (v := .agg (refK s).toArray) rfl (by kernel_rfl) (by kernel_rfl) (by kernel_rfl) (fun _ _ _ h => h) (yieldsIf_load_mid (by rfl) _ _ rfl b4 o4 rfl (refK s) _ (fun w' h => HG4.out _ (NT.out.trans h)) Try.underlying46 rfl infoQf) S0 ?_
            simp only [List.getElem_toArray, List.getElem_cons_zero, List.getElem_cons_succ, Act.put, List.setIfInBounds_toArray, List.set_cons_zero, List.set_cons_succ]
            refine wpAnyH_new2 (i := 10) (j := 11) (o := .cells #[.int .i64 0, .int .i64 0] 46 (0, 0)) (di := 12) (dj := 13) (m := 2) rfl rfl rfl rfl rfl rfl (run_alO _ rfl _ zeroQf_run) (run_alO _ rfl _ zeroQf_run) (by kernel_rfl) (by decide) (by decide) (fun _ h => h.alloc _) S0 ?_
            intro gx gy q1 q2 q3 q4 q5 hS
            simp only [Act.put, List.setIfInBounds_toArray, List.set_cons_zero, List.set_cons_succ]
            simp only [ptr]
            have d6 : HasC ((wr.drew.alloc (.cells #[.int .i64 0, .int .i64 0] 46 (0, 0))).alloc (.cells #[.int .i64 0, .int .i64 0] 46 (0, 0))) gx 46 [.int .i64 0, .int .i64 0] := two_al q1 q3
            have d7 : HasC ((wr.drew.alloc (.cells #[.int .i64 0, .int .i64 0] 46 (0, 0))).alloc (.cells #[.int .i64 0, .int .i64 0] 46 (0, 0))) gy 46 [.int .i64 0, .int .i64 0] := two_al q2 q4
            have hz : wr.drew.heap.size = wr.heap.size := rfl
            rw [hz] at q1 q2
            generalize ((wr.drew.alloc (.cells #[.int .i64 0, .int .i64 0] 46 (0, 0))).alloc (.cells #[.int .i64 0, .int .i64 0] 46 (0, 0))) = w4 at d6 d7 hS ⊢
            clear q3 q4 hz
            refine wpAnyH_forced [12, 13] _ _ _ hS (by kernel_rfl) (by simp) ?_
            simp only [List.map_cons, List.map_nil, Array.getD_eq_getD_getElem?, List.getElem?_toArray, List.getElem?_cons_succ, List.getElem?_cons_zero, Option.getD_some]
            refine wpLS_stC rfl rfl 46 (.tmp 12) (.tmp 47) rfl gx rfl _ rfl d6 (refK r) rfl rfl (refK_one r) infoQf ?_
            intro w5 b6 k6
            have nb := k6.below wr q1 hS
            refine ⟨nb, ?_⟩
            refine wpLS_stC rfl rfl 46 (.tmp 13) (.tmp 52) rfl gy rfl _ rfl (HasC.kept d7 k6 (Ne.symm q5)) (refK s) rfl rfl (refK_one s) infoQf ?_
            intro w6 b7 k7
            have nc := k7.below wr q2 nb
            refine ⟨nc, ?_⟩
            refine wpLS_nil ?_
            refine NoPanic.normal ?_
            replace HT := Lib.hid (HT.out.two nc q1 q2 q5 (HasC.kept b6 k7 q5) b7)
            clear d6 d7 hS b6 k6 b7 k7 nb nc S0 q1 q2 q5
            have C1 : Hid True := Lib.hid trivial
            have C2 : Hid True := Lib.hid trivial
            have C3 : Hid True := Lib.hid trivial
            have C4 : Hid True := Lib.hid trivial
            go_wp2_with (first
              | (clear C1; refine wpList_load_mid rfl 46 (.tmp 12) rfl gx 0 rfl (refK r) _ (HasC.all (HT.out.has 0 rfl)) Try.underlying46 rfl infoQf ?_)
              | (clear C2; go_at_call 24; refine (thing_any la n lc r _).mono ?_; rw [HT1.out]; rintro e w7 ⟨rfl, hn⟩; replace HT := Lib.hid (HT.out.go hn); clear hn)
              | (clear C3; refine wpList_ldAG rfl 46 (.tmp 13) rfl gy 0 rfl (refK s) _ (HasC.all (HT.out.has 1 rfl)) Try.underlying46 rfl infoQf ?_)
              | (clear C4; go_at_call 24; refine (thing_any la n lc s _).mono ?_; rw [HT2.out]; rintro e w8 ⟨rfl, hn⟩; replace HT := Lib.hid (HT.out.go hn); clear hn))
            have V1 : ∀ z : NewW w8, z.val.cell? ⟨gx, 1, none⟩ = some (.int .i64 r.2) := fun z => z.property.cell' (HT.out.cell 0 rfl (k := 1) rfl)
            have V2 : ∀ z : NewW w8, z.val.cell? ⟨gy, 1, none⟩ = some (.int .i64 s.2) := fun z => z.property.cell' (HT.out.cell 1 rfl (k := 1) rfl)
            have V3 : ∀ z : NewW w8, z.val.cell? ⟨c1, p1, none⟩ = some (.slice xa n xc) := fun z => H5.out _ (HT.out.nw.trans z.property)
            have V4 : ∀ z : NewW w8, z.val.cell? ⟨c2, p2, none⟩ = some (.bool false) := fun z => H6.out _ (HT.out.nw.trans z.property)
            go_wp2_with fail
            have hne := newW_any w8
            refine wp_region_new (New.refl w8) (by kernel_rfl) (by kernel_rfl) ?_
            repeat (go_big_quiet_step (fail))
            refine wpQuiet_nil ?_
            intro w9 hn9
            replace HT := Lib.hid (HT.out.go hn9)
            clear V1 V2 V3 V4 hn9 hne
            go_wp2_with fail
            go_roundw
            case rel => exact ⟨m + 1, by go_num, by omega, HSTEP.out HLK.out, Lib.hid HT.out.drop.drop⟩
            case measure => simp [intOf]; omega
          | true =>
            have HNO : Hid (¬ LikeW n (fun a b => A a b = false) (rwA l i) (rwA l k)) := Lib.hid fun e => (by have h9 := HR9.out e; unfold LikeR at h9; rw [HT1.out, HT2.out] at h9; have h8 : A r.2.toNat s.2.toNat = false := h9; rw [HAB.out] at h8; cases h8)
            go_wp2_with fail
            have S0 : New wr wr.drew := (New.refl wr).drew
            refine wp_region_noPanic ?_
            refine wp_region_held_drew (S := fun w' => New wr w') (by kernel_rfl) S0 (fun _ => ?_)
            refine wpAnyH_take (i := 0) (v := .pointer (some ⟨ga, 1, none⟩)) rfl (by kernel_rfl) (by kernel_rfl) (by kernel_rfl) (fun _ _ _ h => h) (Or.inl ⟨rfl, fun _ _ => by go_simp⟩) S0 ?_
            simp only [List.getElem_toArray, List.getElem_cons_zero, Act.put, List.setIfInBounds_toArray, List.set_cons_zero, List.set_cons_succ]
            refine wpAnyH_take (i := 1) (v := .slice ra M rc) rfl (by kernel_rfl) (by kernel_rfl) (by kernel_rfl) (fun _ _ _ h => h) (ldV_if rfl 43 Try.isAgg43 (.tmp 43) rfl ⟨ga, 1, none⟩ rfl (fun w' h => h.cell' y1)) S0 ?_
            simp only [List.getElem_toArray, List.getElem_cons_zero, List.getElem_cons_succ, Act.put, List.setIfInBounds_toArray, List.set_cons_zero, List.set_cons_succ]
            refine wpAnyH_take (i := 2) (v := .int .i64 (m : Int)) rfl (by kernel_rfl) (by kernel_rfl) (by kernel_rfl) (fun _ _ _ h => h) (Or.inl ⟨rfl, fun _ _ => by go_simp⟩) S0 ?_
            simp only [List.getElem_toArray, List.getElem_cons_zero, List.getElem_cons_succ, Act.put, List.setIfInBounds_toArray, List.set_cons_zero, List.set_cons_succ]
            refine wpAnyH_take (i := 3) (v := .pointer (some ⟨b3, o3, none⟩)) rfl (by kernel_rfl) (by kernel_rfl) (by kernel_rfl) (fun _ _ _ h => h) (ixV_if rfl 43 (.tmp 44) (.tmp 45) rfl _ _ _ rfl rfl i3) S0 ?_
            simp only [List.getElem_toArray, List.getElem_cons_zero, List.getElem_cons_succ, Act.put, List.setIfInBounds_toArray, List.set_cons_zero, List.set_cons_succ]
            refine wpAnyH_take (i := 4) (v := .agg (refK r).toArray) rfl (by kernel_rfl) (by kernel_rfl) (by kernel_rfl) (fun _ _ _ h => h) (yieldsIf_load_mid (by rfl) _ _ rfl b3 o3 rfl (refK r) _ (fun w' h => HG3.out _ (NT.out.trans h)) Try.underlying46 rfl infoQf) S0 ?_
            simp only [List.getElem_toArray, List.getElem_cons_zero, List.getElem_cons_succ, Act.put, List.setIfInBounds_toArray, List.set_cons_zero, List.set_cons_succ]
            refine wpAnyH_take (i := 5) (v := .pointer (some ⟨gb, 1, none⟩)) rfl (by kernel_rfl) (by kernel_rfl) (by kernel_rfl) (fun _ _ _ h => h) (Or.inl ⟨rfl, fun _ _ => by go_simp⟩) S0 ?_
            simp only [List.getElem_toArray, List.getElem_cons_zero, List.getElem_cons_succ, Act.put, List.setIfInBounds_toArray, List.set_cons_zero, List.set_cons_succ]
            refine wpAnyH_take (i := 6) (v := .slice sa M sc) rfl (by kernel_rfl) (by kernel_rfl) (by kernel_rfl) (fun _ _ _ h => h) (ldV_if rfl 43 Try.isAgg43 (.tmp 48) rfl ⟨gb, 1, none⟩ rfl (fun w' h => h.cell' y2)) S0 ?_
            simp only [List.getElem_toArray, List.getElem_cons_zero, List.getElem_cons_succ, Act.put, List.setIfInBounds_toArray, List.set_cons_zero, List.set_cons_succ]
            refine wpAnyH_take (i := 7) (v := .int .i64 (m : Int)) rfl (by kernel_rfl) (by kernel_rfl) (by kernel_rfl) (fun _ _ _ h => h) (Or.inl ⟨rfl, fun _ _ => by go_simp⟩) S0 ?_
            simp only [List.getElem_toArray, List.getElem_cons_zero, List.getElem_cons_succ, Act.put, List.setIfInBounds_toArray, List.set_cons_zero, List.set_cons_succ]
            refine wpAnyH_take (i := 8) (v := .pointer (some ⟨b4, o4, none⟩)) rfl (by kernel_rfl) (by kernel_rfl) (by kernel_rfl) (fun _ _ _ h => h) (ixV_if rfl 43 (.tmp 49) (.tmp 50) rfl _ _ _ rfl rfl i4) S0 ?_
            simp only [List.getElem_toArray, List.getElem_cons_zero, List.getElem_cons_succ, Act.put, List.setIfInBounds_toArray, List.set_cons_zero, List.set_cons_succ]
            refine wpAnyH_take (i := 9) (v := .agg (refK s).toArray) rfl (by kernel_rfl) (by kernel_rfl) (by kernel_rfl) (fun _ _ _ h => h) (yieldsIf_load_mid (by rfl) _ _ rfl b4 o4 rfl (refK s) _ (fun w' h => HG4.out _ (NT.out.trans h)) Try.underlying46 rfl infoQf) S0 ?_
            simp only [List.getElem_toArray, List.getElem_cons_zero, List.getElem_cons_succ, Act.put, List.setIfInBounds_toArray, List.set_cons_zero, List.set_cons_succ]
            refine wpAnyH_new2 (i := 10) (j := 11) (o := .cells #[.int .i64 0, .int .i64 0] 46 (0, 0)) (di := 12) (dj := 13) (m := 2) rfl rfl rfl rfl rfl rfl (run_alO _ rfl _ zeroQf_run) (run_alO _ rfl _ zeroQf_run) (by kernel_rfl) (by decide) (by decide) (fun _ h => h.alloc _) S0 ?_
            intro gx gy q1 q2 q3 q4 q5 hS
            simp only [Act.put, List.setIfInBounds_toArray, List.set_cons_zero, List.set_cons_succ]
            simp only [ptr]
            have d6 : HasC ((wr.drew.alloc (.cells #[.int .i64 0, .int .i64 0] 46 (0, 0))).alloc (.cells #[.int .i64 0, .int .i64 0] 46 (0, 0))) gx 46 [.int .i64 0, .int .i64 0] := two_al q1 q3
            have d7 : HasC ((wr.drew.alloc (.cells #[.int .i64 0, .int .i64 0] 46 (0, 0))).alloc (.cells #[.int .i64 0, .int .i64 0] 46 (0, 0))) gy 46 [.int .i64 0, .int .i64 0] := two_al q2 q4
            have hz : wr.drew.heap.size = wr.heap.size := rfl
            rw [hz] at q1 q2
            generalize ((wr.drew.alloc (.cells #[.int .i64 0, .int .i64 0] 46 (0, 0))).alloc (.cells #[.int .i64 0, .int .i64 0] 46 (0, 0))) = w4 at d6 d7 hS ⊢
            clear q3 q4 hz
            refine wpAnyH_forced [12, 13] _ _ _ hS (by kernel_rfl) (by simp) ?_
            simp only [List.map_cons, List.map_nil, Array.getD_eq_getD_getElem?, List.getElem?_toArray, List.getElem?_cons_succ, List.getElem?_cons_zero, Option.getD_some]
            refine wpLS_stC rfl rfl 46 (.tmp 12) (.tmp 47) rfl gx rfl _ rfl d6 (refK r) rfl rfl (refK_one r) infoQf ?_
            intro w5 b6 k6
            have nb := k6.below wr q1 hS
            refine ⟨nb, ?_⟩
            refine wpLS_stC rfl rfl 46 (.tmp 13) (.tmp 52) rfl gy rfl _ rfl (HasC.kept d7 k6 (Ne.symm q5)) (refK s) rfl rfl (refK_one s) infoQf ?_
            intro w6 b7 k7
            have nc := k7.below wr q2 nb
            refine ⟨nc, ?_⟩
            refine wpLS_nil ?_
            refine NoPanic.normal ?_
            replace HT := Lib.hid (HT.out.two nc q1 q2 q5 (HasC.kept b6 k7 q5) b7)
            clear d6 d7 hS b6 k6 b7 k7 nb nc S0 q1 q2 q5
            have D1 : Hid True := Lib.hid trivial
            have D2 : Hid True := Lib.hid trivial
            have D3 : Hid True := Lib.hid trivial
            have D4 : Hid True := Lib.hid trivial
            go_wp2_with (first
              | (clear D1; refine wpList_load_mid rfl 46 (.tmp 12) rfl gx 0 rfl (refK r) _ (HasC.all (HT.out.has 0 rfl)) Try.underlying46 rfl infoQf ?_)
              | (clear D2; go_at_call 24; refine (thing_any la n lc r _).mono ?_; rw [HT1.out]; rintro e w7 ⟨rfl, hn⟩; replace HT := Lib.hid (HT.out.go hn); clear hn)
              | (clear D3; refine wpList_ldAG rfl 46 (.tmp 13) rfl gy 0 rfl (refK s) _ (HasC.all (HT.out.has 1 rfl)) Try.underlying46 rfl infoQf ?_)
              | (clear D4; go_at_call 24; refine (thing_any la n lc s _).mono ?_; rw [HT2.out]; rintro e w8 ⟨rfl, hn⟩; replace HT := Lib.hid (HT.out.go hn); clear hn))
            have V1 : ∀ z : NewW w8, z.val.cell? ⟨gx, 1, none⟩ = some (.int .i64 r.2) := fun z => z.property.cell' (HT.out.cell 0 rfl (k := 1) rfl)
            have V2 : ∀ z : NewW w8, z.val.cell? ⟨gy, 1, none⟩ = some (.int .i64 s.2) := fun z => z.property.cell' (HT.out.cell 1 rfl (k := 1) rfl)
            have V3 : ∀ z : NewW w8, z.val.cell? ⟨c1, p1, none⟩ = some (.slice xa n xc) := fun z => H5.out _ (HT.out.nw.trans z.property)
            have V4 : ∀ z : NewW w8, z.val.cell? ⟨c2, p2, none⟩ = some (.bool true) := fun z => H6.out _ (HT.out.nw.trans z.property)
            go_wp2_with fail
            have hne := newW_any w8
            refine wp_region_new (New.refl w8) (by kernel_rfl) (by kernel_rfl) ?_
            repeat (go_big_quiet_step (fail))
            refine wpQuiet_nil ?_
            intro w9 hn9
            replace HT := Lib.hid (HT.out.go hn9)
            clear V1 V2 V3 V4 hn9 hne
            go_wp2_with fail
            go_ret
            exact ⟨true, rfl, ⟨fun h => (by cases h), fun h => absurd h HNO.out⟩, HT.out.nw⟩
    · have HLW : Hid (LikeW n (fun a b => A a b = false) (rwA l i) (rwA l k)) := Lib.hid (by
        rw [HXK.out, HYK.out]
        exact ⟨HCE.out, by rw [HM.out, HL.out], fun j h1 h2 => HLS.out j (by rw [HM.out] at h1; omega) h1 h2⟩)
      go_wp2_with fail
      go_ret
      exact ⟨false, rfl, ⟨fun _ => HLW.out, fun _ => rfl⟩, HT.out.nw⟩
end Go.Proofs.Ytomclhbekmcaeaa
