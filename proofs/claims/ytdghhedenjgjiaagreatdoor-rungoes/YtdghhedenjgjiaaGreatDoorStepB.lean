/-
  The contracts of step.number, step.copied, step.known and step.Right: for every argument.
-/
import Derived.Test.YtdghhedenjgjiaaGreatDoorStepA
import Derived.Test.YtdghhedenjgjiaaGreatDoorStepMath
import Derived.Test.YtdghhedenjgjiaaGreatDoorInsU
import Derived.Test.YtdghhedenjgjiaaGreatDoorAsmB
import Derived.Test.YtdghhedenjgjiaaGreatDoorHeapC
namespace Go.Proofs.YtdghhedenjgjiaaGreatDoor
open Go.RowKit

theorem ret_bool {b d : Bool} (h : b = d) : Ending.returned (.bool b) = .returned (.bool d) := by rw [h]
theorem number_any (v : Int) (w : World) :
    Calls Tryz.prog 54 #[.int .i64 v] w fun e w' => e = .returned (.agg #[.bool true, .int .i64 v]) ∧ New w w' := by
  go_enter Tryz.func54, Tryz.ntmps54
  go_wp2_with (first
    | (refine wpList_alX rfl _ rfl _ zeroD_run _ rfl ?_; intro w1 g1 hg1 hl1 H1 hn1)
    | (refine wpList_stDd rfl rfl (.tmp 2) (.tmp 4) rfl g1 rfl (true, v) rfl H1 ?_; intro w2 H2 k2))
  exact bodyPost_ret (results_cell_row rfl _ _ g1 _ _ _ _ rfl H2 Tryz.underlying24 rfl infoWd) rfl ⟨rfl, k2.below _ hg1 hn1⟩
theorem number_from {w0 : World} (v : Int) (w : World) (h : New w0 w) :
    Calls Tryz.prog 54 #[.int .i64 v] w fun e w' => e = .returned (.agg #[.bool true, .int .i64 v]) ∧ New w0 w' :=
  (number_any v w).mono fun _ _ ⟨he, hw⟩ => ⟨he, h.trans hw⟩

theorem ret_v {v u : Value} (h : v = u) : Ending.returned v = .returned u := by rw [h]
set_option maxHeartbeats 1000000 in
theorem copied_in (zs : List Int) (ao : Option Addr) (n cap : Nat) (w : World) (h : Hp w (.slice ao n cap) zs) (h16 : n ≤ 16) :
    Calls Tryz.prog 34 #[.slice ao n cap] w fun e w' => ∃ v, e = .returned v ∧ Hp w' v zs ∧ New w w' ∧ Fresh w.heap.size v zs := by
  have HN : Hid (n = zs.length) := Lib.hid (by have := RowAt.len h; rwa [List.length_map] at this)
  have HS := Lib.hid h.src
  obtain ⟨i0, hi0, hz0, hz1, hz2⟩ := info_parts info64
  have HZ : Hid ((madeCells #[Value.int .i64 0] n).toList.length = (zs.map (Value.int .i64)).length) := Lib.hid (by rw [Array.length_toList, size_madeCells, List.length_map]; exact HN.out)
  clear h
  go_enter Tryz.func34, Tryz.ntmps34
  go_wp2_with (first
    | (at_make; refine wpList_make_row _ rfl (.tmp 5) (.tmp 5) 26 rfl 2 i0 (.int .i64 0) Tryz.underlying26 hi0 hz0 hz1 rfl .i64 .i64 n rfl rfl (by rw [hz2]; omega) (by omega) ?_)
    | (refine wpList_copy_splice rfl (.tmp 7) (.tmp 8) 26 26 rfl 2 Tryz.underlying26 size64 _ _ _ _ _ _ rfl rfl w.heap.size 0 (madeCells #[.int .i64 0] n).toList 2 (by rw [Array.toArray_toList]; exact alloc_at rfl _) (zs.map (Value.int .i64)) (by rw [List.length_map, ← HN.out]; exact (Nat.min_self _).symm) (fun hp => ⟨rfl, (HS.out hp).imp fun ad ⟨e1, e2⟩ => ⟨e1, fun j v hj => e2 j v hj _ (alloc_new _ _)⟩⟩) (by rw [HZ.out, Nat.zero_add]; exact Nat.le_refl _) (ints_oneCell _ _) w.heap.size w (alloc_new _ _) (Nat.le_refl _) ?_; intro w2 HG2 hB2; have HB : Hid (Blk w2 w.heap.size zs) := Lib.hid (by have := HG2.out; rw [splice_all _ _ HZ.out] at this; exact this); clear HG2))
  go_ret
  exact ⟨_, rfl, HB.out.hp HN.out _, hB2, .inr ⟨_, _, _, _, rfl, Nat.le_refl _⟩⟩
theorem copied_any {zs : List Int} {s : Sl} {w : World} (h : Hp w (.slice s.ao s.n s.c) zs) (h16 : s.n ≤ 16) :
    Calls Tryz.prog 34 #[.slice s.ao s.n s.c] w fun e w' => ∃ s' : Sl, e = .returned (.slice s'.ao s'.n s'.c) ∧ Hp w' (.slice s'.ao s'.n s'.c) zs ∧ New w w' ∧ Fresh w.heap.size (.slice s'.ao s'.n s'.c) zs := by
  refine (copied_in zs s.ao s.n s.c w h h16).mono ?_
  rintro e w' ⟨v, rfl, hv, hn, hf⟩
  obtain ⟨ao, cap, rfl⟩ := hv.form
  exact ⟨⟨ao, zs.length, cap⟩, rfl, hv, hn, hf⟩

theorem own_rowAt {w : World} {base e n : Nat} {v : Value} {cs : List Value} (h : w.ownsRow base e 1 v n cs) : RowAt w v cs := by
  obtain ⟨hl, h | ⟨g, cap, cur, rfl, _, hg, _, _, hs, ht⟩⟩ := h
  · obtain ⟨rfl, rfl⟩ := h
    obtain rfl : cs = [] := by
      apply List.eq_nil_of_length_eq_zero
      simpa using hl
    exact ⟨none, 0, rfl, fun _ hi => absurd hi (Nat.not_lt_zero _)⟩
  · have hn : n = cs.length := by simpa using hl.symm
    subst hn
    refine ⟨some ⟨g, 0, none⟩, cap, rfl, fun i hi => ⟨g, 0, rfl, ?_⟩⟩
    have e : cur[i]? = cs[i]? := by
      rw [← ht, Nat.mul_one, List.getElem?_take, if_pos hi, Array.getElem?_toList]
    rw [Nat.zero_add]
    unfold World.cell?
    rw [List.getElem?_eq_getElem hi] at e
    simp [hg, e]
/-- What is used are places. -/
theorem uses_three (x : I) : usesL x = [x.a, x.b] ∨ usesL x = [x.a] ∨ usesL x = [] := by
  rw [uses_class]
  split
  · exact .inl rfl
  · split
    · exact .inr (.inl rfl)
    · exact .inr (.inr rfl)
theorem uses_places {x : I} (h : 0 ≤ x.a ∧ x.a < 24 ∧ 0 ≤ x.b ∧ x.b < 24) : ∀ (k : Nat) (y : Int), (usesL x)[k]? = some y → ∃ j : Nat, j < 24 ∧ y = (j : Int) := by
  intro k y hy
  have hm : y ∈ usesL x := List.mem_of_getElem? hy
  have hab : y = x.a ∨ y = x.b := by
    rcases uses_three x with e | e | e <;> rw [e] at hm <;> simp at hm
    · exact hm
    · exact .inl hm
  rcases hab with rfl | rfl
  · exact ⟨x.a.toNat, by omega, by omega⟩
  · exact ⟨x.b.toNat, by omega, by omega⟩
theorem uses_few (x : I) : (usesL x).length ≤ 2 := by
  rw [uses_class]
  split
  · simp
  · split <;> simp
theorem knw_all {x : I} {l : Ws} (h : ∀ k (hk : k < (usesL x).length), (l (usesL x)[k].toNat).1 = true) : knwB x l = true := by
  unfold knwB
  rw [List.all_eq_true]
  intro y hy
  obtain ⟨k, hk, rfl⟩ := List.mem_iff_getElem.mp hy
  exact h k hk
theorem knw_no {x : I} {l : Ws} {k : Nat} (hk : k < (usesL x).length) (h : (l (usesL x)[k].toNat).1 = false) : knwB x l = false := by
  unfold knwB
  rw [List.all_eq_false]
  exact ⟨_, List.getElem_mem hk, by rw [h]; decide⟩
set_option maxHeartbeats 2000000 in
set_option maxRecDepth 100000 in
theorem knowns_any (l : Ws) (s : Sl) (p q : Int) (x : I) (hx : 0 ≤ x.a ∧ x.a < 24 ∧ 0 ≤ x.b ∧ x.b < 24) (w : World) (hl : Laid w) :
    Calls Tryz.prog 35 #[.agg (cellsS l s p q).toArray, .agg #[.int .i64 (x).op, .int .i64 (x).d, .int .i64 (x).a, .int .i64 (x).b, .int .i64 (x).n, .int .i64 (x).t]] w fun e w' => e = .returned (.bool (knwB x l)) ∧ New w w' := by
  have HL := Lib.hid hl
  have HP := Lib.hid (uses_places hx)
  have HU := Lib.hid (fun w (hl : Laid w) => uses_any x.op x.d x.a x.b x.n x.t w hl)
  clear hx hl
  go_enter Tryz.func35, Tryz.ntmps35
  go_wp2_with (first
    | (refine wpList_boxX rfl 28 (.tmp 0) rfl (cellsS l s p q) rfl ?_; intro w1 g1 hg1 hl1 H1 hn1)
    | (refine wpList_boxX rfl 72 (.tmp 1) rfl [.int .i64 x.op, .int .i64 x.d, .int .i64 x.a, .int .i64 x.b, .int .i64 x.n, .int .i64 x.t] rfl ?_; intro w2 g2 hg2 hl2 H2 hn2)
    | (refine wpList_ldI rfl (.tmp 3) rfl g2 rfl (show Has w2 g2 x from H2) ?_)
    | (go_at_call 53; refine (HU.out _ (HL.out.new (hn1.trans hn2))).mono ?_; rintro e w3 ⟨v, rfl, hv, hn3⟩; obtain ⟨ao, cap, hvs, hv2⟩ := own_rowAt hv; subst hvs; rw [List.length_map]))
  have HR : Hid (RowAt w3 (.slice ao (usesL x).length cap) ((usesL x).map (Value.int .i64))) := Lib.hid ⟨ao, cap, by rw [List.length_map], hv2⟩
  have HS := Lib.hid ((H1.new hn2).new hn3)
  have HN := Lib.hid ((hn1.trans hn2).trans hn3)
  clear hv hv2
  obtain ⟨m, HM⟩ : ∃ m, Hid ((usesL x).length = m) := ⟨_, Lib.hid rfl⟩
  rw [HM.out] at HR ⊢
  have hm : m ≤ 2 := by rw [← HM.out]; exact uses_few x
  go_loop [10] (fun kv => ∃ k : Nat, kv = .int .i64 k ∧ k ≤ m ∧ Hid (∀ i (hi : i < (usesL x).length), i < k → (l (usesL x)[i].toNat).1 = true)) (fun kv => m - (intOf kv).toNat)
  case atStart => exact ⟨0, rfl, by omega, Lib.hid (fun i _ hi => absurd hi (Nat.not_lt_zero _))⟩
  case round =>
    obtain ⟨k, rfl, hk, HB⟩ := hrel
    by_cases hlt : k < m
    · have hlt' : (k : Int) < (m : Int) := by omega
      obtain ⟨a, v, e, hix, hcell⟩ := RowAt.ix HR.out 79 Tryz.underlying79 Tryz.sizeOf3 (i := k) hlt
      have hc := hcell w3 (New.refl _)
      obtain ⟨j, hj, ej⟩ := HP.out k _ (List.getElem?_eq_getElem (by rw [HM.out]; exact hlt))
      have ev : v = .int .i64 (j : Int) := by
        rw [List.getElem?_map, List.getElem?_eq_getElem (by rw [HM.out]; exact hlt), ej] at e
        exact (Option.some.inj e).symm
      subst ev
      have hw := HasS.is HS.out hj
      have HE := Lib.hid ej
      have hj0 : (j : Int) < 24 := by omega
      clear e hcell ej
      cases hq : (l j).1 with
      | true =>
        rw [hq] at hw
        have HQ := Lib.hid hq
        clear hq
        go_wp2
        go_round
        case rel => exact ⟨k + 1, by go_num, hlt, Lib.hid (fun i hi h1 => by
          by_cases e : i = k
          · subst e; rw [HE.out]; exact HQ.out
          · exact HB.out i hi (by omega))⟩
        case measure => simp [intOf]; omega
      | false =>
        rw [hq] at hw
        have HQ : Hid (knwB x l = false) := Lib.hid (knw_no (by rw [HM.out]; exact hlt) (by rw [HE.out]; exact hq))
        clear hq
        go_wp2
        go_ret
        exact ⟨ret_bool HQ.out.symm, HN.out⟩
    · have hlt' : ¬ (k : Int) < (m : Int) := by omega
      have HQ : Hid (knwB x l = true) := Lib.hid (knw_all (fun i hi => HB.out i hi (by rw [HM.out] at hi; omega)))
      go_wp2
      go_ret
      exact ⟨ret_bool HQ.out.symm, HN.out⟩

/-! step.Right. -/
theorem right_no {f : List I} {s : Mc} {b : Bool} (h : mcB f s = b) : Ending.returned (.bool b) = .returned (.bool (mcB f s)) := by rw [h]
set_option maxHeartbeats 4000000 in
set_option maxRecDepth 100000 in
theorem stepRight_in (ao : Option Addr) (n cap : Nat) (f : List I) (m : Mc) (s : Sl) (w : World) (hl : Laid w) (hf : FunAt w (.slice ao n cap) f) (hn : n = f.length) (hh : s.n = m.h.length) :
    Calls Tryz.prog 15 #[.slice ao n cap, .agg (cellsS m.l s m.p m.q).toArray] w fun e w' => e = .returned (.bool (mcB f m)) ∧ New w w' := by
  obtain ⟨l, zs, p, q⟩ := m
  obtain ⟨so, sn, sc⟩ := s
  have HL := Lib.hid hl
  have HF := Lib.hid hf
  have HN := Lib.hid hn
  have HH : Hid (sn = zs.length) := Lib.hid hh
  clear hl hf hn hh
  have Q4 : Hid (decide (sn ≤ 16) = decide (sn ≤ 16)) := Lib.hid rfl
  by_cases c1 : (chkF f).2 = 0
  · have q1 : ((chkF f).2 == 0) = true := beq_of c1
    have C1 := Lib.hid c1
    clear c1
    by_cases c2 : p < 0
    · have E := Lib.hid (mc_not (f := f) (s := ⟨l, zs, p, q⟩) (by rintro ⟨_, h, _⟩; simp at h; omega))
      go_enter Tryz.func15, Tryz.ntmps15
      go_wp2_with (first
        | (refine wpList_boxX rfl 28 (.tmp 1) rfl (cellsS l ⟨so, sn, sc⟩ p q) rfl ?_; intro w1 g1 hg1 hl1 H1 hn1; have HS := Lib.hid H1; clear H1)
        | (go_at_call 37; refine (asmRight_any _ f _ (HL.out.new hn1) (HF.out.new hn1)).mono ?_; rw [q1]; rintro e w2 ⟨rfl, hn2⟩; have HS2 : Hid (HasS w2 g1 l ⟨so, sn, sc⟩ p q) := Lib.hid (HasC.new HS.out hn2); have k1 := HasS.hp HS2.out; have k2 := HasS.at HS2.out; have k3 := HasS.ask HS2.out)
        | (go_at_call 38; refine (hpRight_is _ _ _ _ Q4.out).mono ?_; rintro e w3 ⟨rfl, rfl⟩)
        | (refine wpList_ldAr rfl (.tmp 33) rfl g1 rfl HS2.out ?_))
      go_ret
      exact ⟨right_no E.out, hn1.trans hn2⟩
    · by_cases c3 : (n : Int) ≤ p
      · have E := Lib.hid (mc_not (f := f) (s := ⟨l, zs, p, q⟩) (by rintro ⟨_, _, h, _⟩; have := HN.out; simp at h; omega))
        go_enter Tryz.func15, Tryz.ntmps15
        go_wp2_with (first
          | (refine wpList_boxX rfl 28 (.tmp 1) rfl (cellsS l ⟨so, sn, sc⟩ p q) rfl ?_; intro w1 g1 hg1 hl1 H1 hn1; have HS := Lib.hid H1; clear H1)
          | (go_at_call 37; refine (asmRight_any _ f _ (HL.out.new hn1) (HF.out.new hn1)).mono ?_; rw [q1]; rintro e w2 ⟨rfl, hn2⟩; have HS2 : Hid (HasS w2 g1 l ⟨so, sn, sc⟩ p q) := Lib.hid (HasC.new HS.out hn2); have k1 := HasS.hp HS2.out; have k2 := HasS.at HS2.out; have k3 := HasS.ask HS2.out)
          | (go_at_call 38; refine (hpRight_is _ _ _ _ Q4.out).mono ?_; rintro e w3 ⟨rfl, rfl⟩)
          | (refine wpList_ldAr rfl (.tmp 33) rfl g1 rfl HS2.out ?_))
        go_ret
        exact ⟨right_no E.out, hn1.trans hn2⟩
      · by_cases c4 : sn ≤ 16
        · replace Q4 : Hid (decide (sn ≤ 16) = true) := Lib.hid (decide_eq_true c4)
          by_cases c5 : q < 0
          · have E := Lib.hid (mc_not (f := f) (s := ⟨l, zs, p, q⟩) (by rintro ⟨_, _, _, _, h, _⟩; simp at h; omega))
            go_enter Tryz.func15, Tryz.ntmps15
            go_wp2_with (first
              | (refine wpList_boxX rfl 28 (.tmp 1) rfl (cellsS l ⟨so, sn, sc⟩ p q) rfl ?_; intro w1 g1 hg1 hl1 H1 hn1; have HS := Lib.hid H1; clear H1)
              | (go_at_call 37; refine (asmRight_any _ f _ (HL.out.new hn1) (HF.out.new hn1)).mono ?_; rw [q1]; rintro e w2 ⟨rfl, hn2⟩; have HS2 : Hid (HasS w2 g1 l ⟨so, sn, sc⟩ p q) := Lib.hid (HasC.new HS.out hn2); have k1 := HasS.hp HS2.out; have k2 := HasS.at HS2.out; have k3 := HasS.ask HS2.out)
              | (go_at_call 38; refine (hpRight_is _ _ _ _ Q4.out).mono ?_; rintro e w3 ⟨rfl, rfl⟩)
              | (refine wpList_ldAr rfl (.tmp 33) rfl g1 rfl HS2.out ?_))
            go_ret
            exact ⟨right_no E.out, hn1.trans hn2⟩
          · go_enter Tryz.func15, Tryz.ntmps15
            go_wp2_with (first
              | (refine wpList_boxX rfl 28 (.tmp 1) rfl (cellsS l ⟨so, sn, sc⟩ p q) rfl ?_; intro w1 g1 hg1 hl1 H1 hn1; have HS := Lib.hid H1; clear H1)
              | (go_at_call 37; refine (asmRight_any _ f _ (HL.out.new hn1) (HF.out.new hn1)).mono ?_; rw [q1]; rintro e w2 ⟨rfl, hn2⟩; have HS2 : Hid (HasS w2 g1 l ⟨so, sn, sc⟩ p q) := Lib.hid (HasC.new HS.out hn2); have k1 := HasS.hp HS2.out; have k2 := HasS.at HS2.out; have k3 := HasS.ask HS2.out)
              | (go_at_call 38; refine (hpRight_is _ _ _ _ Q4.out).mono ?_; rintro e w3 ⟨rfl, rfl⟩)
              | (refine wpList_ldAr rfl (.tmp 33) rfl g1 rfl HS2.out ?_))
            go_loopw [35] (fun kv wr => ∃ k : Nat, kv = .int .i64 k ∧ k ≤ 24 ∧ Hid (∀ i < k, wdB (l i) = true) ∧ New w wr) (fun kv wr => 24 - (intOf kv).toNat)
            case atStart => exact ⟨0, rfl, by omega, Lib.hid (fun i hi => absurd hi (Nat.not_lt_zero _)), hn1.trans hn2⟩
            case round =>
              obtain ⟨k, rfl, hk, HO, hn⟩ := hrel
              by_cases hk24 : k < 24
              · have hx := fun w => run_ixW l k hk24 w
                have hk24' : (k : Int) < 24 := by omega
                obtain ⟨⟨is, v⟩, hw⟩ : ∃ x : Wd, l k = x := ⟨_, rfl⟩
                rw [hw] at hx
                have HW := Lib.hid hw
                clear hw
                by_cases hok : is = false ∧ v ≠ 0
                · obtain ⟨rfl, hv⟩ := hok
                  have qv : (v != 0) = true := by simpa using hv
                  have E := Lib.hid (mc_not (f := f) (s := ⟨l, zs, p, q⟩) (by rintro ⟨_, _, _, _, _, h⟩; have h2 : wdB (l k) = true := words_at h hk24; rw [HW.out] at h2; simp [wdB] at h2; exact hv h2))
                  clear hv
                  go_wp2_with (first
                    | (refine wpList_alX rfl _ rfl _ zeroD_run _ rfl ?_; intro w4 g4 hg4 hl4 H4 hn4; have HD := Lib.hid H4; clear H4)
                    | (refine wpList_stDd rfl rfl (.tmp 6) (.tmp 37) rfl g4 rfl (false, v) rfl HD.out ?_; intro w5 H5 k5; have j1 := HasD.is H5; have j2 := HasD.num H5; have HD5 := Lib.hid H5; clear H5))
                  go_ret
                  exact ⟨right_no E.out, k5.below _ (Nat.le_trans hn.size hg4) (hn.trans hn4)⟩
                · have hwd : wdB (l k) = true := by
                    rw [HW.out]
                    cases is with
                    | true => rfl
                    | false => simp [wdB]; by_cases e : v = 0
                               · exact e
                               · exact absurd ⟨rfl, e⟩ hok
                  have HA : Hid (∀ i < k + 1, wdB (l i) = true) := Lib.hid (fun i hi => by
                    by_cases e : i = k
                    · rw [e]; exact hwd
                    · exact HO.out i (by omega))
                  have qv : is = true ∨ (is = false ∧ (v != 0) = false) := by
                    cases is with
                    | true => exact .inl rfl
                    | false => exact .inr ⟨rfl, by simpa using fun e => hok ⟨rfl, e⟩⟩
                  clear hok hwd
                  rcases qv with rfl | ⟨rfl, qv⟩
                  all_goals
                    go_wp2_with (first
                      | (refine wpList_alX rfl _ rfl _ zeroD_run _ rfl ?_; intro w4 g4 hg4 hl4 H4 hn4; have HD := Lib.hid H4; clear H4)
                      | (refine wpList_stDd rfl rfl (.tmp 6) (.tmp 37) rfl g4 rfl (_, v) rfl HD.out ?_; intro w5 H5 k5; have j1 := HasD.is H5; have j2 := HasD.num H5; have HD5 := Lib.hid H5; clear H5))
                    go_roundw
                    case rel => exact ⟨k + 1, by go_num, hk24, Lib.hid HA.out, k5.below _ (Nat.le_trans hn.size hg4) (hn.trans hn4)⟩
                    case measure => simp [intOf]; omega
              · obtain rfl : k = 24 := by omega
                have E : Hid (mcB f ⟨l, zs, p, q⟩ = true) := Lib.hid (mc_iff.mpr ⟨C1.out, by simp; omega, by have := HN.out; simp; omega, by have := HH.out; simp; omega, by simp; omega, words_mk HO.out⟩)
                go_wp2
                go_ret
                exact ⟨right_no E.out, hn⟩
        · replace Q4 : Hid (decide (sn ≤ 16) = false) := Lib.hid (decide_eq_false c4)
          have E := Lib.hid (mc_not (f := f) (s := ⟨l, zs, p, q⟩) (by rintro ⟨_, _, _, h, _⟩; have := HH.out; simp at h; omega))
          go_enter Tryz.func15, Tryz.ntmps15
          go_wp2_with (first
            | (refine wpList_boxX rfl 28 (.tmp 1) rfl (cellsS l ⟨so, sn, sc⟩ p q) rfl ?_; intro w1 g1 hg1 hl1 H1 hn1; have HS := Lib.hid H1; clear H1)
            | (go_at_call 37; refine (asmRight_any _ f _ (HL.out.new hn1) (HF.out.new hn1)).mono ?_; rw [q1]; rintro e w2 ⟨rfl, hn2⟩; have HS2 : Hid (HasS w2 g1 l ⟨so, sn, sc⟩ p q) := Lib.hid (HasC.new HS.out hn2); have k1 := HasS.hp HS2.out; have k2 := HasS.at HS2.out; have k3 := HasS.ask HS2.out)
            | (go_at_call 38; refine (hpRight_is _ _ _ _ Q4.out).mono ?_; rintro e w3 ⟨rfl, rfl⟩)
            | (refine wpList_ldAr rfl (.tmp 33) rfl g1 rfl HS2.out ?_))
          go_ret
          exact ⟨right_no E.out, hn1.trans hn2⟩
  · have q1 : ((chkF f).2 == 0) = false := bneq_of c1
    have E := Lib.hid (mc_not (f := f) (s := ⟨l, zs, p, q⟩) (by rintro ⟨h, _⟩; exact c1 h))
    go_enter Tryz.func15, Tryz.ntmps15
    go_wp2_with (first
      | (refine wpList_boxX rfl 28 (.tmp 1) rfl (cellsS l ⟨so, sn, sc⟩ p q) rfl ?_; intro w1 g1 hg1 hl1 H1 hn1; have HS := Lib.hid H1; clear H1)
      | (go_at_call 37; refine (asmRight_any _ f _ (HL.out.new hn1) (HF.out.new hn1)).mono ?_; rw [q1]; rintro e w2 ⟨rfl, hn2⟩; have HS2 : Hid (HasS w2 g1 l ⟨so, sn, sc⟩ p q) := Lib.hid (HasC.new HS.out hn2); have k1 := HasS.hp HS2.out; have k2 := HasS.at HS2.out; have k3 := HasS.ask HS2.out)
      | (go_at_call 38; refine (hpRight_is _ _ _ _ Q4.out).mono ?_; rintro e w3 ⟨rfl, rfl⟩)
      | (refine wpList_ldAr rfl (.tmp 33) rfl g1 rfl HS2.out ?_))
    go_ret
    exact ⟨right_no E.out, hn1.trans hn2⟩
theorem stepRight_any (v : Value) (f : List I) (m : Mc) (s : Sl) (w : World) (hl : Laid w) (hf : FunAt w v f) (hh : Hp w (.slice s.ao s.n s.c) m.h) :
    Calls Tryz.prog 15 #[v, .agg (cellsS m.l s m.p m.q).toArray] w fun e w' => e = .returned (.bool (mcB f m)) ∧ New w w' := by
  obtain ⟨ao, cap, rfl⟩ := hf.form
  exact stepRight_in ao _ cap f m s w hl hf rfl (by have := RowAt.len hh; rwa [List.length_map] at this)
end Go.Proofs.YtdghhedenjgjiaaGreatDoor
