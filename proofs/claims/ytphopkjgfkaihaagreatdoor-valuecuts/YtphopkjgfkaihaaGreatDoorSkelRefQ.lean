/-
  Layer 10: the contracts of the reference's froms and where.
  Layer 10: the contracts of the reference's way and Places.
-/
import Derived.Test.YtphopkjgfkaihaaGreatDoorSkelAll
import Derived.Test.YtphopkjgfkaihaaGreatDoorSepLate
import Derived.Test.YtphopkjgfkaihaaGreatDoorRefPaths
namespace Go.Proofs.YtphopkjgfkaihaaGreatDoor
open Go.RowKit

set_option maxHeartbeats 4000000 in
set_option maxRecDepth 100000 in
theorem froms_any (fa : Option Addr) (n fc : Nat) (f : List I) (ca : Option Addr) (m cc : Nat) (cut : List Bool) (q : Nat) (w : World) (hf : FunAt w (.slice fa n fc) f) (hc : RowAt w (.slice ca m cc) (cut.map .bool)) (hi : InF f (q : Int)) :
    Calls Tryz.prog 41 #[.slice fa n fc, .slice ca m cc, .int .i64 (q : Int)] w fun e w' => ∃ v, e = .returned v ∧ Sep w w' [intsA v (fromsA f cut (q : Int))] := by
  have hn := hf.len
  have HM : Hid (m = cut.length) := Lib.hid (by rw [hc.len, List.length_map])
  have hqn : q < n := by have := hi.2.2; omega
  have hq : q ≤ 200 := by have := chk_len hi.1; have := hi.2.2; omega
  obtain ⟨b, o, x, hx, hix, hrg⟩ := hf.ix hqn
  have HX : Hid (insA f (q : Int) = x) := Lib.hid (by
    unfold insA
    rw [Int.toNat_natCast, List.getD_eq_getElem?_getD, hx]
    rfl)
  have c0 : w.cell? ⟨b, o, none⟩ = some (.int .i64 x.op) := by have := hrg w (New.refl w) 0 _ rfl; simpa using this
  have c5 : w.cell? ⟨b, o + 5, none⟩ = some (.int .i64 x.t) := hrg w (New.refl w) 5 _ rfl
  clear hrg hx hn
  by_cases h18 : x.op = 18
  · have q18 : (x.op == 18) = true := beq_of h18
    have hz : fromsA f cut (q : Int) = [] := by unfold fromsA; rw [HX.out, if_pos (.inl h18)]
    rw [hz]
    clear hz h18 HX
    go_enter Tryz.func41, Tryz.ntmps41
    go_wp2
    go_ret
    exact ⟨_, rfl, (Sep.start _).row0 _ _ _⟩
  · have q18 : (x.op == 18) = false := bneq_of h18
    replace h18 := Lib.hid h18
    by_cases hqm : q < m
    · obtain ⟨a, y, hy0, hiy, hcy⟩ := hc.ix 23 Tryz.underlying23 Tryz.sizeOf4 hqm
      have dqm : decide ((q : Int) < (m : Int)) = true := decide_eq_true (by omega)
      rw [List.getElem?_map] at hy0
      obtain ⟨y, hy, rfl⟩ := Option.map_eq_some_iff.mp hy0
      have cy := hcy w (New.refl w)
      clear hcy hy0
      cases y with
      | true =>
        have hz : fromsA f cut (q : Int) = [] := by unfold fromsA; rw [if_pos (.inr (ct_at (by rw [← HM.out]; exact hqm) hy))]
        rw [hz]
        clear hz hy HX
        go_enter Tryz.func41, Tryz.ntmps41
        go_wp2
        go_ret
        exact ⟨_, rfl, (Sep.start _).row0 _ _ _⟩
      | false =>
        have hz2 : ctA cut (q : Int) = false := ct_at (by rw [← HM.out]; exact hqm) hy
        clear hy
        by_cases h17 : x.op = 17
        · have q17 : (x.op == 17) = true := beq_of h17
          have hz : fromsA f cut (q : Int) = [x.t, (q : Int) + 1] := by unfold fromsA; rw [HX.out, if_neg (by rw [hz2]; simp [h18.out]), if_pos h17]
          rw [hz]
          clear hz h17 hz2 HX
          go_enter Tryz.func41, Tryz.ntmps41
          go_wp2
          go_ret
          exact ⟨_, rfl, (Sep.start w).lit (alloc_new _ _) (Nat.le_refl _) (HasC.box w _ _) (fun _ => rfl) rfl (by unfold maxLen; simp)⟩
        · have q17 : (x.op == 17) = false := bneq_of h17
          have hz : fromsA f cut (q : Int) = [(q : Int) + 1] := by unfold fromsA; rw [HX.out, if_neg (by rw [hz2]; simp [h18.out]), if_neg h17]
          rw [hz]
          clear hz h17 hz2 HX
          go_enter Tryz.func41, Tryz.ntmps41
          go_wp2
          go_ret
          exact ⟨_, rfl, (Sep.start w).lit (alloc_new _ _) (Nat.le_refl _) (HasC.box w _ _) (fun _ => rfl) rfl (by unfold maxLen; simp)⟩
    · have dqm : decide ((q : Int) < (m : Int)) = false := decide_eq_false (by omega)
      have hz2 : ctA cut (q : Int) = false := ct_no (by rw [← HM.out]; exact hqm)
      by_cases h17 : x.op = 17
      · have q17 : (x.op == 17) = true := beq_of h17
        have hz : fromsA f cut (q : Int) = [x.t, (q : Int) + 1] := by unfold fromsA; rw [HX.out, if_neg (by rw [hz2]; simp [h18.out]), if_pos h17]
        rw [hz]
        clear hz h17 hz2 HX
        go_enter Tryz.func41, Tryz.ntmps41
        go_wp2
        go_ret
        exact ⟨_, rfl, (Sep.start w).lit (alloc_new _ _) (Nat.le_refl _) (HasC.box w _ _) (fun _ => rfl) rfl (by unfold maxLen; simp)⟩
      · have q17 : (x.op == 17) = false := bneq_of h17
        have hz : fromsA f cut (q : Int) = [(q : Int) + 1] := by unfold fromsA; rw [HX.out, if_neg (by rw [hz2]; simp [h18.out]), if_neg h17]
        rw [hz]
        clear hz h17 hz2 HX
        go_enter Tryz.func41, Tryz.ntmps41
        go_wp2
        go_ret
        exact ⟨_, rfl, (Sep.start w).lit (alloc_new _ _) (Nat.le_refl _) (HasC.box w _ _) (fun _ => rfl) rfl (by unfold maxLen; simp)⟩
theorem idx_least : ∀ {ps : List Int} {q : Int} {k : Nat}, ps[k]? = some q → (∀ j < k, ps[j]? ≠ some q) → ps.idxOf q = k
  | [], _, _, h, _ => by simp at h
  | p :: ps, q, 0, h, _ => by
    simp at h
    simp [h]
  | p :: ps, q, k + 1, h, hn => by
    have h0 : p ≠ q := fun e => hn 0 (by omega) (by simp [e])
    have hb : (p == q) = false := by simpa using h0
    rw [List.idxOf_cons, hb, cond_false, idx_least (k := k) (by simpa using h) fun j hj => by have := hn (j + 1) (by omega); simpa using this]
theorem idx_none : ∀ {ps : List Int} {q : Int}, (∀ j < ps.length, ps[j]? ≠ some q) → ps.idxOf q = ps.length
  | [], _, _ => by simp
  | p :: ps, q, hn => by
    have h0 : p ≠ q := fun e => hn 0 (by simp) (by simp [e])
    have hb : (p == q) = false := by simpa using h0
    rw [List.idxOf_cons, hb, cond_false, idx_none (ps := ps) (fun j hj => by have := hn (j + 1) (by simpa using hj); simpa using this), List.length_cons]
set_option maxHeartbeats 2000000 in
set_option maxRecDepth 100000 in
theorem where_any (v : Value) (ps : List Int) (q : Int) (w : World) (h : (intsA v ps).rd w) (hl : ps.length ≤ 100000) :
    Calls Tryz.prog 72 #[v, .int .i64 q] w fun e w' => e = .returned (.int .i64 ((ps.idxOf q : Nat) : Int)) ∧ New w w' := by
  obtain ⟨ao, cap, hv⟩ := rowA_form h
  obtain ⟨N, HN⟩ : ∃ N, Hid (ps.length = N) := ⟨_, Lib.hid rfl⟩
  rw [HN.out] at hv hl
  subst hv
  have HR := Lib.hid h
  clear h
  go_enter Tryz.func72, Tryz.ntmps72
  go_wp2
  go_loop [5] (fun iv => ∃ k : Nat, iv = .int .i64 (k : Int) ∧ k ≤ N ∧ Hid (∀ j < k, ps[j]? ≠ some q)) (fun iv => N - (intOf iv).toNat)
  case atStart => exact ⟨0, rfl, by omega, Lib.hid (fun j hj => absurd hj (Nat.not_lt_zero _))⟩
  case round =>
    obtain ⟨k, rfl, hk, HK⟩ := hrel
    by_cases hkN : k < N
    · obtain ⟨r, hr⟩ : ∃ r, ps[k]? = some r := ⟨_, List.getElem?_eq_getElem (by rw [HN.out]; exact hkN)⟩
      obtain ⟨b, o, hix, hrg⟩ := leaf_ix (P := Tryz.prog) HR.out 101 Tryz.underlying101 sizeInt hr
      have c0 := hrg w (New.refl w) 0 _ rfl
      rw [Nat.add_zero] at c0
      clear hrg
      by_cases hq : r = q
      · have hb : (r == q) = true := by simpa using hq
        have HX : Hid (ps.idxOf q = k) := Lib.hid (idx_least (by rw [hr, hq]) HK.out)
        clear hr hq
        go_wp2
        go_ret
        rw [HX.out]
        exact ⟨rfl, New.refl _⟩
      · have hb : (r == q) = false := by simpa using hq
        have HX : Hid (∀ j < k + 1, ps[j]? ≠ some q) := Lib.hid (fun j hj => by
          rcases Nat.lt_or_ge j k with h | h
          · exact HK.out j h
          · rw [show j = k by omega, hr]
            intro e
            exact hq (Option.some.inj e))
        clear hr hq
        go_wp2
        go_round
        case rel => exact ⟨k + 1, by go_num, by omega, HX⟩
        case measure => simp [intOf]; omega
    · have HX : Hid (ps.idxOf q = N) := Lib.hid (by rw [← HN.out]; exact idx_none fun j hj => HK.out j (by rw [HN.out] at hj; omega))
      go_wp2
      go_ret
      rw [HX.out]
      exact ⟨rfl, New.refl _⟩
end Go.Proofs.YtphopkjgfkaihaaGreatDoor
namespace Go.Proofs.YtphopkjgfkaihaaGreatDoor
open Go.RowKit

/-- A table of sources in a block of the call's own. -/
def tabA (k : Nat) (t : Tb) : Asn := ⟨fun w F => RwE w 113 k 24 (fun i => rcells (t i)) ∧ F k, fun ⟨⟨cs, h1, h2, h3⟩, b⟩ h => ⟨⟨cs, (h k b).trans h1, h2, h3⟩, b⟩⟩
theorem tabA_el {k cap : Nat} {t : Tb} {w : World} (h : (tabA k t).rd w) : ElAt w (.slice (some ⟨k, 0, none⟩) 24 cap) 24 (fun i => rcells (t i)) :=
  let ⟨_, a, _⟩ := h
  a.1.el (fun _ => rfl) cap
theorem refFromS (ao : Option Addr) (n cap : Nat) (f : List I) (p : Int) (w : World) (hf : FunAt w (.slice ao n cap) f) (hi : InF f p) :
    Calls Tryz.prog 71 #[.slice ao n cap, .int .i64 p] w fun e w' => ∃ kt ct, e = .returned (.agg #[.int .i64 (toA f p), .slice (some ⟨kt, 0, none⟩) 24 ct, .int .i64 (stP (pthA f p))]) ∧ Sep w w' [tabA kt (tblA f p)] :=
  (refFromK_in ao n cap f p _ w hf hi (pth_wy hi)).mono fun _ _ ⟨kr, rc, h1, h2, h3, h4⟩ => ⟨kr, rc, h1, (Sep.start w).add (F := fun g => g = kr) h3 ⟨h2, rfl⟩ fun g e => by
    subst e
    exact ⟨h4, h2.lt⟩⟩
def roC (to : Int) (v : Value) : List Value := [.int .i64 to, v]
theorem infoRo : (Tryz.prog.info? 45).map (·.size) = some 2 := by kernel_rfl
theorem zeroRo_run (w : World) : (zeroValue 45).run Tryz.prog w = .ok (.agg (roC 0 (.slice none 0 0)).toArray) w := Tryz.zeroValue45 w
theorem build_Ro (to : Int) (ao : Option Addr) (m cap : Nat) (w : World) : (Instr.build 45 #[(0, .int .i64 to), (1, .slice ao m cap)]).run Tryz.prog w = .ok (.agg (roC to (.slice ao m cap)).toArray) w := run_build w _ _ _ (by kernel_rfl)
theorem resRo (fn : Func) {p : Tmp} (h : fn.results = #[.cell p 45]) (tmps : Array Value) (w : World) (g : Nat) (to : Int) (v : Value) (hp : tmps.getD p undef = .pointer (some ⟨g, 0, none⟩)) (hg : HasC w g 45 (roC to v)) :
    (results fn tmps).run Tryz.prog w = .ok (.agg #[.int .i64 to, v]) w :=
  results_cell_row h tmps w g _ _ _ _ hp hg Tryz.underlying45 rfl infoRo
set_option maxHeartbeats 4000000 in
set_option maxRecDepth 100000 in
theorem way_any (fv : Value) (f : List I) (pv : Value) (ps : List Int) (p : Int) (w : World) (hf : FunAt w fv f) (hp : (intsA pv ps).rd w) (hi : InF f p) (hl : ps.length ≤ 100000) :
    Calls Tryz.prog 40 #[fv, pv, .int .i64 p] w fun e w' => ∃ kt ct, e = .returned (.agg #[.int .i64 (wyA f ps p).1, .slice (some ⟨kt, 0, none⟩) 24 ct]) ∧ Sep w w' [tabA kt (tblA f p)] := by
  have HP := Lib.hid hp
  have HL := Lib.hid hl
  have HF := Lib.hid hf
  have HI := Lib.hid hi
  obtain ⟨fo, fc, rfl⟩ := hf.form
  obtain ⟨n, HN⟩ : ∃ n, Hid (f.length = n) := ⟨_, Lib.hid rfl⟩
  rw [HN.out] at HF ⊢
  obtain ⟨to, hto⟩ : ∃ to, toA f p = to := ⟨_, rfl⟩
  obtain ⟨tb, HTB⟩ : ∃ tb, Hid (tblA f p = tb) := ⟨_, Lib.hid rfl⟩
  obtain ⟨st, HST⟩ : ∃ st, Hid (stP (pthA f p) = st) := ⟨_, Lib.hid rfl⟩
  have HS := Lib.hid (Sep.start w)
  have hw : (wyA f ps p).1 = if toA f p < 0 then -1 else ((ps.idxOf (toA f p) : Nat) : Int) := rfl
  rw [hto] at hw
  rw [hw, HTB.out]
  have HTO := Lib.hid hto
  have T1 : Hid True := Lib.hid trivial
  have T2 : Hid True := Lib.hid trivial
  have T3 : Hid True := Lib.hid trivial
  have T4 : Hid True := Lib.hid trivial
  have T5 : Hid True := Lib.hid trivial
  have T6 : Hid True := Lib.hid trivial
  clear hf hp hi hl hto hw
  rcases Int.lt_or_le to 0 with ht | ht
  · rw [if_pos ht]
    have d0 : decide (to < 0) = true := decide_eq_true ht
    go_enter Tryz.func40, Tryz.ntmps40
    go_wp2_with (first
      | (clear T1; refine wpList_alB rfl 45 rfl _ zeroRo_run _ rfl HS.out ?_; intro wa g6 hs; replace HS := Lib.hid hs; clear hs)
      | (clear T2; go_at_call 71; refine (refFromS fo n fc f p _ (HF.out.new HS.out.nw) HI.out).mono ?_; rw [HTO.out, HTB.out, HST.out]; rintro e wb ⟨kt, ct, rfl, hs⟩; replace HS := Lib.hid (HS.out.call hs); clear hs)
      | (clear T3; refine wpList_alB rfl 149 rfl _ zeroRp_run _ rfl HS.out ?_; intro wc gp hs; replace HS := Lib.hid hs; clear hs)
      | (clear T4; refine wpList_stSW 0 rfl rfl 149 (.tmp 7) (.tmp 10) rfl gp rfl _ rfl HS.out rfl (rpC to (.slice (some ⟨kt, 0, none⟩) 24 ct) st) rfl rfl (rpC_one rfl) infoRp ?_; intro wd hs; replace HS := Lib.hid hs; have c0 := HS.out.cell 0 rfl (k := 0) rfl; have c1 := HS.out.cell 0 rfl (k := 1) rfl; clear hs)
      | (clear T5; refine wpList_bd2 (a := .int .i64 (-1)) (b := .slice (some ⟨kt, 0, none⟩) 24 ct) rfl 45 0 1 (.const (.int .i64 (-1))) (.tmp 15) rfl rfl rfl (build_Ro (-1) _ _ _) ?_)
      | (clear T6; refine wpList_stSW 2 rfl rfl 45 (.tmp 6) (.tmp 16) rfl g6 rfl _ rfl HS.out rfl (roC (-1) (.slice (some ⟨kt, 0, none⟩) 24 ct)) rfl rfl (by simp [roC, Value.oneCell']) infoRo ?_; intro we hs; replace HS := Lib.hid hs; clear hs c0 c1))
    exact bodyPost_ret (resRo _ rfl _ _ g6 _ _ rfl (HS.out.has 2 rfl)) rfl ⟨kt, ct, rfl, HS.out.drop.dropAt 1 (by simp)⟩
  · obtain ⟨ix, HX⟩ : ∃ ix : Int, Hid (((ps.idxOf to : Nat) : Int) = ix) := ⟨_, Lib.hid rfl⟩
    rw [if_neg (by omega), HX.out]
    have d0 : decide (to < 0) = false := decide_eq_false (by omega)
    go_enter Tryz.func40, Tryz.ntmps40
    go_wp2_with (first
      | (clear T1; refine wpList_alB rfl 45 rfl _ zeroRo_run _ rfl HS.out ?_; intro wa g6 hs; replace HS := Lib.hid hs; clear hs)
      | (clear T2; go_at_call 71; refine (refFromS fo n fc f p _ (HF.out.new HS.out.nw) HI.out).mono ?_; rw [HTO.out, HTB.out, HST.out]; rintro e wb ⟨kt, ct, rfl, hs⟩; replace HS := Lib.hid (HS.out.call hs); clear hs)
      | (clear T3; refine wpList_alB rfl 149 rfl _ zeroRp_run _ rfl HS.out ?_; intro wc gp hs; replace HS := Lib.hid hs; clear hs)
      | (clear T4; refine wpList_stSW 0 rfl rfl 149 (.tmp 7) (.tmp 10) rfl gp rfl _ rfl HS.out rfl (rpC to (.slice (some ⟨kt, 0, none⟩) 24 ct) st) rfl rfl (rpC_one rfl) infoRp ?_; intro wd hs; replace HS := Lib.hid hs; have c0 := HS.out.cell 0 rfl (k := 0) rfl; have c1 := HS.out.cell 0 rfl (k := 1) rfl; clear hs))
    have S0 : Hid (New wd wd.drew) := Lib.hid ((New.refl wd).drew)
    have C0 := Lib.hid c0
    have C1 := Lib.hid c1
    clear c0 c1
    refine wp_region_noPanic ?_
    refine region_late (k := 7) (S := fun w' => New wd w') (by kernel_rfl) S0.out (fun _ => ?_)
    refine late_take (i := 0) (v := pv) rfl (by kernel_rfl) (by kernel_rfl) (by kernel_rfl) (by kernel_rfl) (fun _ _ _ h => h) (Or.inl ⟨rfl, fun _ _ => by go_simp⟩) S0.out ?_
    simp only [List.getElem_toArray, List.getElem_cons_zero, Act.put, List.setIfInBounds_toArray, List.set_cons_zero, List.set_cons_succ]
    refine late_take (i := 1) (v := .pointer (some ⟨gp, 0, none⟩)) rfl (by kernel_rfl) (by kernel_rfl) (by kernel_rfl) (by kernel_rfl) (fun _ _ _ h => h) (Or.inl ⟨rfl, fun _ _ => by go_simp⟩) S0.out ?_
    simp only [List.getElem_toArray, List.getElem_cons_zero, List.getElem_cons_succ, Act.put, List.setIfInBounds_toArray, List.set_cons_zero, List.set_cons_succ]
    refine late_take (i := 2) (v := .int .i64 to) rfl (by kernel_rfl) (by kernel_rfl) (by kernel_rfl) (by kernel_rfl) (fun _ _ _ h => h) (ldV_if rfl 3 Tryz.isAgg3 (.tmp 18) rfl ⟨gp, 0, none⟩ rfl (fun w' h => h.cell' C0.out)) S0.out ?_
    simp only [List.getElem_toArray, List.getElem_cons_zero, List.getElem_cons_succ, Act.put, List.setIfInBounds_toArray, List.set_cons_zero, List.set_cons_succ]
    refine late_take (i := 4) (v := .pointer (some ⟨gp, 1, none⟩)) rfl (by kernel_rfl) (by kernel_rfl) (by kernel_rfl) (by kernel_rfl) (fun _ _ _ h => h) (Or.inl ⟨rfl, fun _ _ => by go_simp⟩) S0.out ?_
    simp only [List.getElem_toArray, List.getElem_cons_zero, List.getElem_cons_succ, Act.put, List.setIfInBounds_toArray, List.set_cons_zero, List.set_cons_succ]
    refine late_take (i := 5) (v := .slice (some ⟨kt, 0, none⟩) 24 ct) rfl (by kernel_rfl) (by kernel_rfl) (by kernel_rfl) (by kernel_rfl) (fun _ _ _ h => h) (ldV_if rfl 43 Tryz.isAgg43 (.tmp 21) rfl ⟨gp, 1, none⟩ rfl (fun w' h => h.cell' C1.out)) S0.out ?_
    simp only [List.getElem_toArray, List.getElem_cons_zero, List.getElem_cons_succ, Act.put, List.setIfInBounds_toArray, List.set_cons_zero, List.set_cons_succ]
    refine late_forced [3, 6, 7] _ _ _ (by kernel_rfl) ?_
    refine LL_call rfl rfl 72 #[pv, .int .i64 to] (by go_simp) ?_
    refine (where_any pv ps to _ (HP.out.new (HS.out.nw.trans S0.out)) HL.out).mono ?_
    rw [HX.out]
    rintro e we ⟨rfl, hn⟩
    replace HS := Lib.hid ((HS.out.go S0.out).go hn)
    have N1 := Lib.hid (S0.out.trans hn)
    clear hn
    refine ⟨_, rfl, N1.out, ?_⟩
    simp only [List.getElem_toArray, List.getElem_cons_zero, List.getElem_cons_succ, Act.put, List.setIfInBounds_toArray, List.set_cons_zero, List.set_cons_succ]
    refine LL_val (v := .agg (roC ix (.slice (some ⟨kt, 0, none⟩) 24 ct)).toArray) rfl rfl (by unfold execOp; simp only [Act.eval]; simp [build_Ro]) N1.out ?_
    simp only [List.getElem_toArray, List.getElem_cons_zero, List.getElem_cons_succ, Act.put, List.setIfInBounds_toArray, List.set_cons_zero, List.set_cons_succ]
    have hH := HS.out.has 2 rfl
    refine LL_skip rfl rfl rfl (run_stC 45 (.tmp 6) (.tmp 23) rfl g6 rfl _ rfl hH (roC ix (.slice (some ⟨kt, 0, none⟩) 24 ct)) rfl rfl (by simp [roC, Value.oneCell']) infoRo) (fun h => absurd rfl h) ?_
    have hS2 := HS.out.setAt 2 rfl (Kept.put we g6 (.cells (roC ix (.slice (some ⟨kt, 0, none⟩) 24 ct)).toArray 45 (0, 0))) (HasC.put hH _)
    generalize putO we g6 (.cells (roC ix (.slice (some ⟨kt, 0, none⟩) 24 ct)).toArray 45 (0, 0)) = wz at hS2 ⊢
    replace HS := Lib.hid hS2
    clear hS2 hH
    refine NoPanic.normal ?_
    go_wp2
    exact bodyPost_ret (resRo _ rfl _ _ g6 _ _ rfl (HS.out.has 2 rfl)) rfl ⟨kt, ct, rfl, HS.out.drop.dropAt 1 (by simp)⟩
end Go.Proofs.YtphopkjgfkaihaaGreatDoor
