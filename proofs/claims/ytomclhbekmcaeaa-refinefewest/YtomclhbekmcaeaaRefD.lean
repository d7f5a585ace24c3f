/-
  Layer 12: the contracts of the reference's thing, and of the law's as; two new blocks of a separated world.
-/
import Derived.Test.YtomclhbekmcaeaaRefC
import Derived.Test.YtomclhbekmcaeaaSepLate
namespace Go.Proofs.Ytomclhbekmcaeaa
open Go.RowKit

theorem Sep.two {w0 w w' : World} {l : List Asn} (h : Sep w0 w l) (n : New w w') {x y : Nat} {tx ty : TypeId} {cx cy : List Value} (hx : w.heap.size ≤ x) (hy : w.heap.size ≤ y) (hxy : x ≠ y) (Hx : HasC w' x tx cx) (Hy : HasC w' y ty cy) : Sep w0 w' (blk x tx cx :: blk y ty cy :: l) := by
  have k : Sep w w' [blk x tx cx, blk y ty cy] := ⟨n, fun g => g = x ∨ g = y,
    ⟨fun g => g = x, fun g => g = y, ⟨Hx, rfl⟩, ⟨fun g => g = y, fun _ => False, ⟨Hy, rfl⟩, trivial, fun _ _ h => h, fun _ h => h, fun _ h => h.elim⟩, fun g e1 e2 => hxy (e1.symm.trans e2), fun _ h => .inl h, fun _ h => .inr h⟩,
    fun g hg => by
      rcases hg with rfl | rfl
      · exact ⟨hx, Hx.lt⟩
      · exact ⟨hy, Hy.lt⟩⟩
  exact h.call k
theorem run_bdO2 {op : Oper} {act : Act} {w : World} (T : TypeId) (i j : Nat) (x y : Operand) (ho : op.op = .build T #[(i, x), (j, y)]) {a b v : Value} (hx : act.eval x = a) (hy : act.eval y = b) (hb : ∀ w, (Instr.build T #[(i, a), (j, b)]).run Try.prog w = .ok v w) : (execOp act.eval op).run Try.prog w = .ok (.value v) w := by
  unfold execOp
  simp only [ho, List.map_toArray, List.map_cons, List.map_nil, hx, hy, hb, Sem.run_bind, Sem.run_pure, Result.andThen_ok]
theorem infoQf : (Try.prog.info? 46).map (·.size) = some 2 := by kernel_rfl
theorem infoQw : (Try.prog.info? 45).map (·.size) = some 2 := by kernel_rfl
theorem infoQf3 : (Try.prog.info? 46).map (fun i => (i.zero, i.size, i.bytes)) = some (some (.agg #[.int .i64 0, .int .i64 0]), 2, 16) := by kernel_rfl
theorem infoQw3 : (Try.prog.info? 45).map (fun i => (i.zero, i.size, i.bytes)) = some (some (.agg #[.int .i64 0, .slice none 0 0]), 2, 32) := by kernel_rfl
theorem infoQfs : (Try.prog.info? 43).map (·.size) = some 1 := by kernel_rfl
theorem sizeQf : ∀ w, (sizeOf 46).run Try.prog w = .ok 2 w := Try.sizeOf46
theorem sizeQw : ∀ w, (sizeOf 45).run Try.prog w = .ok 2 w := Try.sizeOf45
theorem zeroQw_run (w : World) : (zeroValue 45).run Try.prog w = .ok (.agg (rwK noRw (.slice none 0 0)).toArray) w := Try.zeroValue45 w
theorem zeroQf_run (w : World) : (zeroValue 46).run Try.prog w = .ok (.agg (refK (0, 0)).toArray) w := Try.zeroValue46 w
theorem build_Qw (x : Rw) (w : World) : (Instr.build 45 #[(0, .int .i64 x.c)]).run Try.prog w = .ok (.agg (rwK x (.slice none 0 0)).toArray) w := run_build w _ _ _ (by kernel_rfl)
theorem build_Qf (r : Rf) (w : World) : (Instr.build 46 #[(0, .int .i64 r.1), (1, .int .i64 r.2)]).run Try.prog w = .ok (.agg (refK r).toArray) w := run_build w _ _ _ (by kernel_rfl)
set_option maxHeartbeats 4000000 in
set_option maxRecDepth 100000 in
theorem thing_any (la : Option Addr) (n lc : Nat) (r : Rf) (w : World) :
    Calls Try.prog 24 #[.slice la n lc, .agg #[.int .i64 r.1, .int .i64 r.2]] w fun e w' => e = .returned (.bool (thB n r)) ∧ New w w' := by
  have HS := Lib.hid (Sep.start w)
  unfold thB
  by_cases h0 : r.1 = 0
  · have q0 : (r.1 == 0) = true := beq_of h0
    by_cases h1 : 0 ≤ r.2
    · have d1 : decide (0 ≤ r.2) = true := decide_eq_true h1
      by_cases h2 : r.2 < (n : Int)
      · have d2 : decide (r.2 < (n : Int)) = true := decide_eq_true h2
        rw [decide_eq_true ⟨h0, h1, h2⟩]
        clear h0 h1 h2
        have T1 : Hid True := Lib.hid trivial
        go_enter Try.func24, Try.ntmps24
        go_wp2_with (clear T1; refine wpList_boxB rfl 46 (.tmp 1) rfl (refK r) rfl HS.out ?_; intro wa g3 hs; replace HS := Lib.hid hs; have c0 := HS.out.cell 0 rfl (k := 0) rfl; have c1 := HS.out.cell 0 rfl (k := 1) rfl; clear hs)
        go_ret
        exact ⟨rfl, HS.out.nw⟩
      · have d2 : decide (r.2 < (n : Int)) = false := decide_eq_false h2
        rw [decide_eq_false (fun e => h2 e.2.2)]
        clear h0 h1 h2
        have T1 : Hid True := Lib.hid trivial
        go_enter Try.func24, Try.ntmps24
        go_wp2_with (clear T1; refine wpList_boxB rfl 46 (.tmp 1) rfl (refK r) rfl HS.out ?_; intro wa g3 hs; replace HS := Lib.hid hs; have c0 := HS.out.cell 0 rfl (k := 0) rfl; have c1 := HS.out.cell 0 rfl (k := 1) rfl; clear hs)
        go_ret
        exact ⟨rfl, HS.out.nw⟩
    · have d1 : decide (0 ≤ r.2) = false := decide_eq_false h1
      rw [decide_eq_false (fun e => h1 e.2.1)]
      clear h0 h1
      have T1 : Hid True := Lib.hid trivial
      go_enter Try.func24, Try.ntmps24
      go_wp2_with (clear T1; refine wpList_boxB rfl 46 (.tmp 1) rfl (refK r) rfl HS.out ?_; intro wa g3 hs; replace HS := Lib.hid hs; have c0 := HS.out.cell 0 rfl (k := 0) rfl; have c1 := HS.out.cell 0 rfl (k := 1) rfl; clear hs)
      go_ret
      exact ⟨rfl, HS.out.nw⟩
  · have q0 : (r.1 == 0) = false := bneq_of h0
    rw [decide_eq_false (fun e => h0 e.1)]
    clear h0
    have T1 : Hid True := Lib.hid trivial
    go_enter Try.func24, Try.ntmps24
    go_wp2_with (clear T1; refine wpList_boxB rfl 46 (.tmp 1) rfl (refK r) rfl HS.out ?_; intro wa g3 hs; replace HS := Lib.hid hs; have c0 := HS.out.cell 0 rfl (k := 0) rfl; have c1 := HS.out.cell 0 rfl (k := 1) rfl; clear hs)
    go_ret
    exact ⟨rfl, HS.out.nw⟩
set_option maxHeartbeats 16000000 in
set_option maxRecDepth 100000 in
theorem asRows_any (la : Option Addr) (n lc : Nat) (l : List Rw) (w : World) (hr : RowsAt w (.slice la n lc) l) (hn : n ≤ 10000) (hto : ∀ x ∈ l, x.to.length ≤ 10000) :
    Calls Try.prog 13 #[.slice la n lc] w fun e w' => ∃ v, e = .returned v ∧ Sep w w' [rowsO 45 46 v l] := by
  have hl := Els.len hr
  have HX := Lib.hid hr
  have HN := Lib.hid hl
  have HTO := Lib.hid hto
  have HS := Lib.hid ((Sep.start w).row0 45 2 (rwE12 46))
  clear hr hl hto
  go_enter Try.func13, Try.ntmps13
  go_wp2_with fail
  go_loopw [3, 4] (fun ov iv wr => ∃ (k : Nat) (vo : Value), vo = ov ∧ iv = .int .i64 (k : Int) ∧ k ≤ n ∧ Hid (Sep w wr [rowsO 45 46 vo (l.take k)])) (fun _ iv _ => n - (intOf iv).toNat)
  case atStart => exact ⟨0, _, rfl, rfl, by omega, HS⟩
  case round =>
    obtain ⟨k, vo, rfl, rfl, hk, HT⟩ := hrel
    clear HS
    by_cases hkn : k < n
    · obtain ⟨x, hx⟩ : ∃ x, l[k]? = some x := ⟨_, List.getElem?_eq_getElem (by rw [HN.out]; exact hkn)⟩
      obtain ⟨b, o, ra, rc, hix, hrg, hrf⟩ := RowsAt.ix (P := Try.prog) HX.out 22 Try.underlying22 sizeRw hx
      have hM := HTO.out x (List.mem_of_getElem? hx)
      have HXS : Hid (l.take k ++ [x] = l.take (k + 1)) := Lib.hid (by rw [List.take_add_one, hx]; rfl)
      have HLK : Hid ((l.take k).length ≤ 100000) := Lib.hid (by rw [List.length_take]; omega)
      obtain ⟨M, HM0⟩ : ∃ M, Hid (x.to.length = M) := ⟨_, Lib.hid rfl⟩
      rw [HM0.out] at hrg hrf hM
      have HG := Lib.hid hrg
      have HRF := Lib.hid hrf
      have c0 := hrg _ HT.out.nw 0 _ rfl
      rw [Nat.add_zero] at c0
      clear hx hrg hrf
      have A1 : Hid True := Lib.hid trivial
      have A2 : Hid True := Lib.hid trivial
      have A3 : Hid True := Lib.hid trivial
      go_wp2_with (first
        | (clear A1; refine wpList_bd1 (a := .int .i64 x.c) rfl 45 0 (.tmp 17) rfl rfl (build_Qw x) ?_)
        | (clear A2; refine wpList_alB rfl 45 rfl _ zeroQw_run _ rfl HT.out ?_; intro w1 g5 hs; replace HT := Lib.hid hs; clear hs c0)
        | (clear A3; refine wpList_stSW 0 rfl rfl 45 (.tmp 5) (.tmp 18) rfl g5 rfl _ rfl HT.out rfl (rwK x (.slice none 0 0)) rfl rfl (rwK_one x rfl) infoQw ?_; intro w2 hs; replace HT := Lib.hid hs; clear hs))
      go_loopw [6] (fun jv wq => ∃ (j : Nat) (u : Value), jv = .int .i64 (j : Int) ∧ j ≤ M ∧ Hid (Sep w wq [blk g5 45 (rwK x u), refsO 46 u (x.to.take j), rowsO 45 46 vo (l.take k)])) (fun jv _ => M - (intOf jv).toNat)
      case atStart => exact ⟨0, .slice none 0 0, rfl, by omega, Lib.hid ((HT.out.row0 46 2 (leafE refK)).pull 1 rfl)⟩
      case round =>
        obtain ⟨j, u, rfl, hj, HU⟩ := hrel
        clear HT
        have c1 := HG.out _ HU.out.nw 1 _ rfl
        by_cases hjM : j < M
        · obtain ⟨r, hr⟩ : ∃ r, x.to[j]? = some r := ⟨_, List.getElem?_eq_getElem (by rw [HM0.out]; exact hjM)⟩
          obtain ⟨b3, o3, hix3, hrg3⟩ := RefsAt.ix (P := Try.prog) HRF.out 36 Try.underlying36 sizeRf hr
          have HG3 := Lib.hid hrg3
          have HO : Hid (x.to.take j ++ [r] = x.to.take (j + 1)) := Lib.hid (by rw [List.take_add_one, hr]; rfl)
          have HLO : Hid ((x.to.take j).length ≤ 100000) := Lib.hid (by rw [List.length_take]; omega)
          obtain ⟨oa, oc, hvo⟩ := rowA_form (HU.out.rd 1 rfl)
          obtain ⟨L, HL⟩ : ∃ L, Hid ((x.to.take j).length = L) := ⟨_, Lib.hid rfl⟩
          rw [HL.out] at hvo
          subst hvo
          clear hr hrg3
          go_wp2_with fail
          have hS := HU.out.go ((New.refl wr).drew)
          have S0 : wr.drew.cell? ⟨g5, 1, none⟩ = some (.slice oa L oc) ∧ New w wr.drew := ⟨HU.out.cell 0 rfl (k := 1) rfl, hS.nw⟩
          refine wp_region_noPanic ?_
          refine region_late (k := 24) (S := fun w' => w'.cell? ⟨g5, 1, none⟩ = some (.slice oa L oc) ∧ New w w') (by kernel_rfl) S0 (fun _ => ?_)
          refine late_take (i := 0) (v := .pointer (some ⟨g5, 1, none⟩)) rfl (by kernel_rfl) (by kernel_rfl) (by kernel_rfl) (by kernel_rfl) (fun _ _ _ h => h) (Or.inl ⟨rfl, fun _ _ => by go_simp⟩) S0 ?_
          simp only [List.getElem_toArray, List.getElem_cons_zero, Act.put, List.setIfInBounds_toArray, List.set_cons_zero, List.set_cons_succ]
          refine late_take (i := 1) (v := .slice oa L oc) rfl (by kernel_rfl) (by kernel_rfl) (by kernel_rfl) (by kernel_rfl) (fun _ _ _ h => h) (ldV_if rfl 43 Try.isAgg43 (.tmp 29) rfl ⟨g5, 1, none⟩ rfl (fun w' h => h.1)) S0 ?_
          simp only [List.getElem_toArray, List.getElem_cons_zero, List.getElem_cons_succ, Act.put, List.setIfInBounds_toArray, List.set_cons_zero, List.set_cons_succ]
          refine late_take (i := 2) (v := .slice la n lc) rfl (by kernel_rfl) (by kernel_rfl) (by kernel_rfl) (by kernel_rfl) (fun _ _ _ h => h) (Or.inl ⟨rfl, fun _ _ => by go_simp⟩) S0 ?_
          simp only [List.getElem_toArray, List.getElem_cons_zero, List.getElem_cons_succ, Act.put, List.setIfInBounds_toArray, List.set_cons_zero, List.set_cons_succ]
          refine late_take (i := 3) (v := .int .i64 (k : Int)) rfl (by kernel_rfl) (by kernel_rfl) (by kernel_rfl) (by kernel_rfl) (fun _ _ _ h => h) (Or.inl ⟨rfl, fun _ _ => by go_simp⟩) S0 ?_
          simp only [List.getElem_toArray, List.getElem_cons_zero, List.getElem_cons_succ, Act.put, List.setIfInBounds_toArray, List.set_cons_zero, List.set_cons_succ]
          refine late_take (i := 4) (v := .pointer (some ⟨b, o, none⟩)) rfl (by kernel_rfl) (by kernel_rfl) (by kernel_rfl) (by kernel_rfl) (fun _ _ _ h => h) (ixV_if rfl 22 (.tmp 31) (.tmp 32) rfl _ _ _ rfl rfl hix) S0 ?_
          simp only [List.getElem_toArray, List.getElem_cons_zero, List.getElem_cons_succ, Act.put, List.setIfInBounds_toArray, List.set_cons_zero, List.set_cons_succ]
          refine late_take (i := 5) (v := .pointer (some ⟨b, o + 1, none⟩)) rfl (by kernel_rfl) (by kernel_rfl) (by kernel_rfl) (by kernel_rfl) (fun _ _ _ h => h) (Or.inl ⟨rfl, fun _ _ => by go_simp⟩) S0 ?_
          simp only [List.getElem_toArray, List.getElem_cons_zero, List.getElem_cons_succ, Act.put, List.setIfInBounds_toArray, List.set_cons_zero, List.set_cons_succ]
          refine late_take (i := 6) (v := .slice ra M rc) rfl (by kernel_rfl) (by kernel_rfl) (by kernel_rfl) (by kernel_rfl) (fun _ _ _ h => h) (ldV_if rfl 36 Try.isAgg36 (.tmp 34) rfl ⟨b, o + 1, none⟩ rfl (fun w' h => HG.out w' h.2 1 _ rfl)) S0 ?_
          simp only [List.getElem_toArray, List.getElem_cons_zero, List.getElem_cons_succ, Act.put, List.setIfInBounds_toArray, List.set_cons_zero, List.set_cons_succ]
          refine late_take (i := 7) (v := .int .i64 (j : Int)) rfl (by kernel_rfl) (by kernel_rfl) (by kernel_rfl) (by kernel_rfl) (fun _ _ _ h => h) (Or.inl ⟨rfl, fun _ _ => by go_simp⟩) S0 ?_
          simp only [List.getElem_toArray, List.getElem_cons_zero, List.getElem_cons_succ, Act.put, List.setIfInBounds_toArray, List.set_cons_zero, List.set_cons_succ]
          refine late_take (i := 8) (v := .pointer (some ⟨b3, o3, none⟩)) rfl (by kernel_rfl) (by kernel_rfl) (by kernel_rfl) (by kernel_rfl) (fun _ _ _ h => h) (ixV_if rfl 36 (.tmp 35) (.tmp 36) rfl _ _ _ rfl rfl hix3) S0 ?_
          simp only [List.getElem_toArray, List.getElem_cons_zero, List.getElem_cons_succ, Act.put, List.setIfInBounds_toArray, List.set_cons_zero, List.set_cons_succ]
          refine late_take (i := 9) (v := .pointer (some ⟨b3, o3, none⟩)) rfl (by kernel_rfl) (by kernel_rfl) (by kernel_rfl) (by kernel_rfl) (fun _ _ _ h => h) (Or.inl ⟨rfl, fun _ _ => by go_simp⟩) S0 ?_
          simp only [List.getElem_toArray, List.getElem_cons_zero, List.getElem_cons_succ, Act.put, List.setIfInBounds_toArray, List.set_cons_zero, List.set_cons_succ]
          refine late_take (i := 10) (v := .int .i64 r.1) rfl (by kernel_rfl) (by kernel_rfl) (by kernel_rfl) (by kernel_rfl) (fun _ _ _ h => h) (ldV_if rfl 3 Try.isAgg3 (.tmp 38) rfl ⟨b3, o3, none⟩ rfl (fun w' h => (by have := HG3.out w' h.2 0 _ rfl; rwa [Nat.add_zero] at this))) S0 ?_
          simp only [List.getElem_toArray, List.getElem_cons_zero, List.getElem_cons_succ, Act.put, List.setIfInBounds_toArray, List.set_cons_zero, List.set_cons_succ]
          refine late_take (i := 11) (v := .slice la n lc) rfl (by kernel_rfl) (by kernel_rfl) (by kernel_rfl) (by kernel_rfl) (fun _ _ _ h => h) (Or.inl ⟨rfl, fun _ _ => by go_simp⟩) S0 ?_
          simp only [List.getElem_toArray, List.getElem_cons_zero, List.getElem_cons_succ, Act.put, List.setIfInBounds_toArray, List.set_cons_zero, List.set_cons_succ]
          refine late_take (i := 12) (v := .int .i64 (k : Int)) rfl (by kernel_rfl) (by kernel_rfl) (by kernel_rfl) (by kernel_rfl) (fun _ _ _ h => h) (Or.inl ⟨rfl, fun _ _ => by go_simp⟩) S0 ?_
          simp only [List.getElem_toArray, List.getElem_cons_zero, List.getElem_cons_succ, Act.put, List.setIfInBounds_toArray, List.set_cons_zero, List.set_cons_succ]
          refine late_take (i := 13) (v := .pointer (some ⟨b, o, none⟩)) rfl (by kernel_rfl) (by kernel_rfl) (by kernel_rfl) (by kernel_rfl) (fun _ _ _ h => h) (ixV_if rfl 22 (.tmp 40) (.tmp 41) rfl _ _ _ rfl rfl hix) S0 ?_
          simp only [List.getElem_toArray, List.getElem_cons_zero, List.getElem_cons_succ, Act.put, List.setIfInBounds_toArray, List.set_cons_zero, List.set_cons_succ]
          refine late_take (i := 14) (v := .pointer (some ⟨b, o + 1, none⟩)) rfl (by kernel_rfl) (by kernel_rfl) (by kernel_rfl) (by kernel_rfl) (fun _ _ _ h => h) (Or.inl ⟨rfl, fun _ _ => by go_simp⟩) S0 ?_
          simp only [List.getElem_toArray, List.getElem_cons_zero, List.getElem_cons_succ, Act.put, List.setIfInBounds_toArray, List.set_cons_zero, List.set_cons_succ]
          refine late_take (i := 15) (v := .slice ra M rc) rfl (by kernel_rfl) (by kernel_rfl) (by kernel_rfl) (by kernel_rfl) (fun _ _ _ h => h) (ldV_if rfl 36 Try.isAgg36 (.tmp 43) rfl ⟨b, o + 1, none⟩ rfl (fun w' h => HG.out w' h.2 1 _ rfl)) S0 ?_
          simp only [List.getElem_toArray, List.getElem_cons_zero, List.getElem_cons_succ, Act.put, List.setIfInBounds_toArray, List.set_cons_zero, List.set_cons_succ]
          refine late_take (i := 16) (v := .int .i64 (j : Int)) rfl (by kernel_rfl) (by kernel_rfl) (by kernel_rfl) (by kernel_rfl) (fun _ _ _ h => h) (Or.inl ⟨rfl, fun _ _ => by go_simp⟩) S0 ?_
          simp only [List.getElem_toArray, List.getElem_cons_zero, List.getElem_cons_succ, Act.put, List.setIfInBounds_toArray, List.set_cons_zero, List.set_cons_succ]
          refine late_take (i := 17) (v := .pointer (some ⟨b3, o3, none⟩)) rfl (by kernel_rfl) (by kernel_rfl) (by kernel_rfl) (by kernel_rfl) (fun _ _ _ h => h) (ixV_if rfl 36 (.tmp 44) (.tmp 45) rfl _ _ _ rfl rfl hix3) S0 ?_
          simp only [List.getElem_toArray, List.getElem_cons_zero, List.getElem_cons_succ, Act.put, List.setIfInBounds_toArray, List.set_cons_zero, List.set_cons_succ]
          refine late_take (i := 18) (v := .pointer (some ⟨b3, o3 + 1, none⟩)) rfl (by kernel_rfl) (by kernel_rfl) (by kernel_rfl) (by kernel_rfl) (fun _ _ _ h => h) (Or.inl ⟨rfl, fun _ _ => by go_simp⟩) S0 ?_
          simp only [List.getElem_toArray, List.getElem_cons_zero, List.getElem_cons_succ, Act.put, List.setIfInBounds_toArray, List.set_cons_zero, List.set_cons_succ]
          refine late_take (i := 19) (v := .int .i64 r.2) rfl (by kernel_rfl) (by kernel_rfl) (by kernel_rfl) (by kernel_rfl) (fun _ _ _ h => h) (ldV_if rfl 2 Try.isAgg2 (.tmp 47) rfl ⟨b3, o3 + 1, none⟩ rfl (fun w' h => HG3.out w' h.2 1 _ rfl)) S0 ?_
          simp only [List.getElem_toArray, List.getElem_cons_zero, List.getElem_cons_succ, Act.put, List.setIfInBounds_toArray, List.set_cons_zero, List.set_cons_succ]
          refine late_forced [20, 21, 22, 23, 24] _ _ _ (by kernel_rfl) ?_
          refine LL_val rfl rfl (run_bdO2 46 0 1 (.tmp 39) (.tmp 48) rfl rfl rfl (build_Qf r)) S0 ?_
          simp only [List.getElem_toArray, List.getElem_cons_zero, List.getElem_cons_succ, Act.put, List.setIfInBounds_toArray, List.set_cons_zero, List.set_cons_succ]
          have hb := hS.new (g := wr.drew.heap.size) (cs := refK r) (ty := 46) (alloc_new _ _) (Nat.le_refl _) (HasC.box wr.drew _ _)
          have hbl := hb.has 0 rfl
          refine LL_val rfl rfl (run_bsB 43 46 (.tmp 49) rfl Try.underlying43 infoQf3 (by decide) (by decide) (refK r) (.agg (refK r).toArray) rfl rfl rfl) ⟨(alloc_new _ _).cell' S0.1, S0.2.trans (alloc_new _ _)⟩ ?_
          simp only [List.getElem_toArray, List.getElem_cons_zero, List.getElem_cons_succ, Act.put, List.setIfInBounds_toArray, List.set_cons_zero, List.set_cons_succ]
          generalize wr.drew.alloc (.cells (refK r).toArray 46) = w3 at hb hbl ⊢
          obtain ⟨v', w4, hr, hd⟩ := run_appA (ty := 43) (P := Try.prog) (T := 43) (e := 46) Try.underlying43 infoQf3 rfl (by decide) (by decide) (E := leafE refK) (y := r) (cs := refK r) ((hb.pull 2 rfl).say rfl) HLO.out hbl rfl (refK_one r)
          rw [HO.out] at hd
          obtain ⟨oa', oc', hv'⟩ := rowA_form (hd.rd 0 rfl)
          obtain ⟨M2, HM2⟩ : ∃ M2, Hid ((x.to.take (j + 1)).length = M2) := ⟨_, Lib.hid rfl⟩
          rw [HM2.out] at hv'
          have S2 : w4.cell? ⟨g5, 1, none⟩ = some (.slice oa L oc) ∧ New w w4 := ⟨hd.cell 2 rfl (k := 1) rfl, hd.nw⟩
          refine LL_val rfl rfl (run_appO (.tmp 30) (.tmp 50) 43 rfl rfl rfl hr) S2 ?_
          simp only [List.getElem_toArray, List.getElem_cons_zero, List.getElem_cons_succ, Act.put, List.setIfInBounds_toArray, List.set_cons_zero, List.set_cons_succ]
          refine LL_val (v := .pointer (some ⟨g5, 1, none⟩)) rfl rfl (by unfold execOp; simp only [Act.eval]; go_simp) S2 ?_
          simp only [List.getElem_toArray, List.getElem_cons_zero, List.getElem_cons_succ, Act.put, List.setIfInBounds_toArray, List.set_cons_zero, List.set_cons_succ]
          subst hv'
          have hst : (Instr.storeAt 43 (.pointer (some ⟨g5, 1, none⟩)) (.slice oa' M2 oc')).run Try.prog w4 = .ok () (putO w4 g5 (.cells (rwK x (.slice oa' M2 oc')).toArray 45 (0, 0))) := HasC.store (hd.has 2 rfl) 1 [.slice oa' M2 oc'] 43 (.slice oa' M2 oc') rfl (by simp [rwK]) (by simp [Value.oneCell']) infoQfs
          refine LL_skip rfl rfl rfl (run_stO 43 (.tmp 52) (.tmp 51) rfl rfl rfl hst) (fun h => absurd rfl h) ?_
          have hfin := hd.setAt 2 rfl (Kept.put w4 g5 (.cells (rwK x (.slice oa' M2 oc')).toArray 45 (0, 0))) (HasC.put (hd.has 2 rfl) _)
          clear hst
          generalize putO w4 g5 (.cells (rwK x (.slice oa' M2 oc')).toArray 45 (0, 0)) = w5 at hfin ⊢
          have HV := Lib.hid ((hfin.dropAt 1 (by simp)).pull 1 rfl)
          refine NoPanic.normal ?_
          clear hfin hd hr hb hbl hS HU hix3 S0 S2 c1
          go_wp2
          go_roundw
          case rel => exact ⟨j + 1, _, by go_num, by omega, HV⟩
          case measure => simp [intOf]; omega
        · have HFR : Hid (x.to.take j = x.to) := Lib.hid (List.take_of_length_le (by rw [HM0.out]; omega))
          rw [HFR.out] at HU
          have HV : Hid (Sep w wr [blk g5 45 (rwK x u), refsO 46 u x.to, rowsO 45 46 vo (l.take k)]) := HU
          obtain ⟨oa, oc, hvo⟩ := rowA_form (HV.out.rd 1 rfl)
          rw [HM0.out] at hvo
          subst hvo
          clear HU
          have B1 : Hid True := Lib.hid trivial
          have B2 : Hid True := Lib.hid trivial
          have B3 : Hid True := Lib.hid trivial
          go_wp2_with (first
            | (clear B1; refine wpList_load_mid rfl 45 (.tmp 5) rfl g5 0 rfl (rwK x (.slice oa M oc)) _ (HasC.all (HV.out.has 0 rfl)) Try.underlying45 rfl infoQw ?_)
            | (clear B2; refine wpList_bsB rfl 28 45 (.tmp 54) rfl Try.underlying28 infoQw3 (by decide) (by decide) (rwK x (.slice oa M oc)) _ rfl rfl rfl HV.out ?_; intro w5 b5 hs; have HBB := Lib.hid (hs.has 0 rfl); replace HV := Lib.hid (hs.pull 2 rfl).rowOf; clear hs)
            | (at_builtin; clear B3; refine wpList_appI 2 rfl (.tmp 53) (.tmp 55) 28 45 rfl Try.underlying28 infoQw3 rfl (by decide) (by decide) (E := rwE12 46) (y := x) (cs := rwK x (.slice oa M oc)) HV.out rfl HLK.out rfl rfl HBB.out rfl (rwK_one x rfl) ?_; intro v2 w6 hs; rw [HXS.out] at hs; replace HV := Lib.hid hs; clear hs))
          go_roundw
          case rel => exact ⟨k + 1, _, rfl, by go_num, by omega, Lib.hid HV.out.drop.drop⟩
          case measure => simp [intOf]; omega
    · have HXD : Hid (l.take k = l) := Lib.hid (List.take_of_length_le (by rw [HN.out]; omega))
      rw [HXD.out] at HT
      go_wp2_with fail
      go_ret
      exact ⟨_, rfl, HT.out⟩
end Go.Proofs.Ytomclhbekmcaeaa
