/-
  Layer 12: the contract of the law's stands: what has one class leads to the same classes and marks.
-/
import Derived.Test.YtomclhbekmcaeaaRefD
import Derived.Test.YtomclhbekmcaeaaQuietAg
import Derived.Deep.CutRange
namespace Go.Proofs.Ytomclhbekmcaeaa
open Go.RowKit

/-- What has one class has one colour, and leads to the same classes and marks. -/
def StandsR (l : List Rw) (cs : List Int) : Prop := ∀ i k, i < l.length → k < i → cs.getD i 0 = cs.getD k 0 → LikeW l.length (fun a b => cs.getD a 0 = cs.getD b 0) (rwA l i) (rwA l k)
/-- As far as this. -/
def StandsT (l : List Rw) (cs : List Int) (i k : Nat) : Prop := ∀ a b, (a < i ∨ a = i ∧ b < k) → b < a → cs.getD a 0 = cs.getD b 0 → LikeW l.length (fun a b => cs.getD a 0 = cs.getD b 0) (rwA l a) (rwA l b)
theorem stands_0 (l : List Rw) (cs : List Int) : StandsT l cs 0 0 := fun a b h => by omega
theorem stands_k {l : List Rw} {cs : List Int} {i k : Nat} (h : StandsT l cs i k) (hn : cs.getD i 0 = cs.getD k 0 → LikeW l.length (fun a b => cs.getD a 0 = cs.getD b 0) (rwA l i) (rwA l k)) : StandsT l cs i (k + 1) := by
  intro a b hab hba e
  by_cases c : a = i ∧ b = k
  · obtain ⟨rfl, rfl⟩ := c
    exact hn e
  · exact h a b (by omega) hba e
theorem stands_i {l : List Rw} {cs : List Int} {i : Nat} (h : StandsT l cs i i) : StandsT l cs (i + 1) 0 := fun a b hab hba e => h a b (by omega) hba e
set_option maxHeartbeats 32000000 in
set_option maxRecDepth 100000 in
theorem stands_any (la : Option Addr) (n lc : Nat) (l : List Rw) (ca : Option Addr) (cc : Nat) (cs : List Int) (w : World) (hr : RowsAt w (.slice la n lc) l) (hc : RowAt w (.slice ca n cc) (cs.map (.int .i64))) (hn : n ≤ 10000) (hto : ∀ x ∈ l, x.to.length ≤ 10000) :
    Calls Try.prog 16 #[.slice la n lc, .slice ca n cc] w fun e w' => ∃ b, e = .returned (.bool b) ∧ (b = true ↔ StandsR l cs) ∧ New w w' := by
  have hl := Els.len hr
  have HX := Lib.hid hr
  have HC := Lib.hid hc
  have HN := Lib.hid hl
  have HTO := Lib.hid hto
  clear hr hc hl hto
  go_enter Try.func16, Try.ntmps16
  go_wp2_with fail
  go_loopw [5] (fun iv wr => ∃ i : Nat, iv = .int .i64 (i : Int) ∧ i ≤ n ∧ Hid (StandsT l cs i 0) ∧ Hid (New w wr)) (fun iv _ => n - (intOf iv).toNat)
  case atStart => exact ⟨0, rfl, by omega, Lib.hid (stands_0 l cs), Lib.hid (New.refl w)⟩
  case round =>
    obtain ⟨i, rfl, hi, HI, HW⟩ := hrel
    by_cases hin : i < n
    · obtain ⟨x, hx⟩ : ∃ x, l[i]? = some x := ⟨_, List.getElem?_eq_getElem (by rw [HN.out]; exact hin)⟩
      obtain ⟨b1, o1, ra, rc, i1, g1, f1⟩ := RowsAt.ix (P := Try.prog) HX.out 22 Try.underlying22 sizeRw hx
      have HXK := Lib.hid (rwA_at hx)
      have hM := HTO.out x (List.mem_of_getElem? hx)
      obtain ⟨M, HM⟩ : ∃ M, Hid (x.to.length = M) := ⟨_, Lib.hid rfl⟩
      rw [HM.out] at g1 f1 hM
      have HG1 := Lib.hid g1
      have HF1 := Lib.hid f1
      obtain ⟨c1, j1, e1⟩ := int_ix HC.out hin
      obtain ⟨ci, HCI⟩ : ∃ ci, Hid (cs.getD i 0 = ci) := ⟨_, Lib.hid rfl⟩
      rw [HCI.out] at e1
      have HE1 := Lib.hid e1
      clear hx g1 f1 e1
      go_wp2_with fail
      go_loopw [6] (fun kv wq => ∃ k : Nat, kv = .int .i64 (k : Int) ∧ k ≤ i ∧ Hid (StandsT l cs i k) ∧ Hid (New w wq)) (fun kv _ => i - (intOf kv).toNat)
      case atStart => exact ⟨0, rfl, by omega, HI, HW⟩
      case round =>
        clear HI HW
        obtain ⟨k, rfl, hk, HI, HW⟩ := hrel
        by_cases hki : k < i
        · obtain ⟨y, hy⟩ : ∃ y, l[k]? = some y := ⟨_, List.getElem?_eq_getElem (by rw [HN.out]; omega)⟩
          obtain ⟨b2, o2, sa, sc, i2, g2, f2⟩ := RowsAt.ix (P := Try.prog) HX.out 22 Try.underlying22 sizeRw hy
          have HYK := Lib.hid (rwA_at hy)
          obtain ⟨L, HL⟩ : ∃ L, Hid (y.to.length = L) := ⟨_, Lib.hid rfl⟩
          rw [HL.out] at g2 f2
          have HG2 := Lib.hid g2
          have HF2 := Lib.hid f2
          obtain ⟨c2, j2, e2⟩ := int_ix HC.out (show k < n by omega)
          obtain ⟨ck, HCK⟩ : ∃ ck, Hid (cs.getD k 0 = ck) := ⟨_, Lib.hid rfl⟩
          rw [HCK.out] at e2
          have V1 : ∀ z : NewW wr, z.val.cell? c1 = some (.int .i64 ci) := fun z => HE1.out _ (HW.out.trans z.property)
          have V2 : ∀ z : NewW wr, z.val.cell? c2 = some (.int .i64 ck) := fun z => e2 _ (HW.out.trans z.property)
          clear hy g2 f2 e2
          by_cases hcc : ci = ck
          case neg =>
            have q0 : (ci != ck) = true := by simp [hcc]
            have HI2 := Lib.hid (stands_k HI.out fun e => absurd (by rw [← HCI.out, ← HCK.out]; exact e) hcc)
            clear hcc
            go_wp2_with fail
            have hne := newW_any wr
            refine wp_region_new (New.refl wr) (by kernel_rfl) (by kernel_rfl) ?_
            repeat (go_big_quiet_step (fail))
            refine wpQuiet_nil ?_
            intro w6 hn6
            go_wp2_with fail
            go_roundw
            case rel => exact ⟨k + 1, by go_num, by omega, HI2, Lib.hid (HW.out.trans hn6)⟩
            case measure => simp [intOf]; omega
          have q0 : (ci != ck) = false := by simp [hcc]
          have HCE : Hid (cs.getD i 0 = cs.getD k 0) := Lib.hid (by rw [HCI.out, HCK.out, hcc])
          have HPR : Hid (StandsR l cs → LikeW n (fun a b => cs.getD a 0 = cs.getD b 0) x y) := Lib.hid fun e => by
            have h9 := e i k (by rw [HN.out]; exact hin) hki HCE.out
            rwa [HN.out, HXK.out, HYK.out] at h9
          clear hcc
          go_wp2_with fail
          have hne := newW_any wr
          refine wp_region_new (New.refl wr) (by kernel_rfl) (by kernel_rfl) ?_
          repeat (go_big_quiet_step (fail))
          refine wpQuiet_nil ?_
          intro w6 hn6
          have NW := Lib.hid (HW.out.trans hn6)
          clear V1 V2 hne
          have V1 : ∀ z : NewW w6, z.val.cell? ⟨b1, o1, none⟩ = some (.int .i64 x.c) := fun z => by have := HG1.out _ (NW.out.trans z.property) 0 _ rfl; rwa [Nat.add_zero] at this
          have V2 : ∀ z : NewW w6, z.val.cell? ⟨b1, o1 + 1, none⟩ = some (.slice ra M rc) := fun z => HG1.out _ (NW.out.trans z.property) 1 _ rfl
          have V3 : ∀ z : NewW w6, z.val.cell? ⟨b2, o2, none⟩ = some (.int .i64 y.c) := fun z => by have := HG2.out _ (NW.out.trans z.property) 0 _ rfl; rwa [Nat.add_zero] at this
          have V4 : ∀ z : NewW w6, z.val.cell? ⟨b2, o2 + 1, none⟩ = some (.slice sa L sc) := fun z => HG2.out _ (NW.out.trans z.property) 1 _ rfl
          by_cases hxc : x.c = y.c
          case neg =>
            have q1 : (x.c != y.c) = true := by simp [hxc]
            have HNO : Hid (¬ StandsR l cs) := Lib.hid fun e => hxc (HPR.out e).c
            clear hxc
            go_wp2_with fail
            have hne := newW_any w6
            refine wp_region_new (New.refl w6) (by kernel_rfl) (by kernel_rfl) ?_
            repeat (go_big_quiet_step (fail))
            refine wpQuiet_nil ?_
            intro w9 hn9
            go_wp2_with fail
            go_ret
            exact ⟨false, rfl, ⟨fun h => (by cases h), fun h => absurd h HNO.out⟩, NW.out.trans hn9⟩
          have q1 : (x.c != y.c) = false := by simp [hxc]
          have HXC := Lib.hid hxc
          clear hxc
          by_cases hML : M = L
          case neg =>
            have q2 : ((M : Int) != (L : Int)) = true := by simp; omega
            have HNO : Hid (¬ StandsR l cs) := Lib.hid fun e => hML (by have := (HPR.out e).len; rwa [HM.out, HL.out] at this)
            clear hML
            go_wp2_with fail
            have hne := newW_any w6
            refine wp_region_new (New.refl w6) (by kernel_rfl) (by kernel_rfl) ?_
            repeat (go_big_quiet_step (fail))
            refine wpQuiet_nil ?_
            intro w9 hn9
            go_wp2_with fail
            go_ret
            exact ⟨false, rfl, ⟨fun h => (by cases h), fun h => absurd h HNO.out⟩, NW.out.trans hn9⟩
          subst hML
          have q2 : ((M : Int) != (M : Int)) = false := by simp
          go_wp2_with fail
          have hne := newW_any w6
          refine wp_region_new (New.refl w6) (by kernel_rfl) (by kernel_rfl) ?_
          repeat (go_big_quiet_step (fail))
          refine wpQuiet_nil ?_
          intro w7 hn7
          have HW7 := Lib.hid (NW.out.trans hn7)
          clear V1 V2 V3 V4 hne NW
          go_wp2_with fail
          go_loopw [7] (fun mv wz => ∃ m : Nat, mv = .int .i64 (m : Int) ∧ m ≤ M ∧ Hid (∀ j < m, ∀ (h1 : j < x.to.length) (h2 : j < y.to.length), LikeR n (fun a b => cs.getD a 0 = cs.getD b 0) x.to[j] y.to[j]) ∧ Hid (New w wz)) (fun mv _ => M - (intOf mv).toNat)
          case atStart => exact ⟨0, rfl, by omega, Lib.hid (fun _ h => absurd h (Nat.not_lt_zero _)), HW7⟩
          case round =>
            clear HW7 HW
            obtain ⟨m, rfl, hm, HLS, NT⟩ := hrel
            have y1 := HG1.out _ NT.out 1 _ rfl
            by_cases hmM : m < M
            · obtain ⟨r, hr⟩ : ∃ r, x.to[m]? = some r := ⟨_, List.getElem?_eq_getElem (by rw [HM.out]; exact hmM)⟩
              obtain ⟨s, hs⟩ : ∃ s, y.to[m]? = some s := ⟨_, List.getElem?_eq_getElem (by rw [HL.out]; exact hmM)⟩
              obtain ⟨b3, o3, i3, g3⟩ := RefsAt.ix (P := Try.prog) HF1.out 36 Try.underlying36 sizeRf hr
              obtain ⟨b4, o4, i4, g4⟩ := RefsAt.ix (P := Try.prog) HF2.out 36 Try.underlying36 sizeRf hs
              have HG3 := Lib.hid g3
              have HG4 := Lib.hid g4
              have HSTEP : Hid (LikeR n (fun a b => cs.getD a 0 = cs.getD b 0) r s → Hid (∀ j < m + 1, ∀ (h1 : j < x.to.length) (h2 : j < y.to.length), LikeR n (fun a b => cs.getD a 0 = cs.getD b 0) x.to[j] y.to[j])) := Lib.hid fun h => Lib.hid fun j hj h1 h2 => by
                by_cases e : j < m
                · exact HLS.out j e h1 h2
                · obtain rfl : j = m := by omega
                  have e1 : x.to[j] = r := by rw [List.getElem?_eq_getElem h1] at hr; exact Option.some.inj hr
                  have e2 : y.to[j] = s := by rw [List.getElem?_eq_getElem h2] at hs; exact Option.some.inj hs
                  rw [e1, e2]
                  exact h
              have HR9 : Hid (StandsR l cs → LikeR n (fun a b => cs.getD a 0 = cs.getD b 0) r s) := Lib.hid fun e => by
                have h1 : m < x.to.length := by rw [HM.out]; exact hmM
                have h2 : m < y.to.length := by rw [HL.out]; exact hmM
                have h3 := (HPR.out e).to m h1 h2
                have e1 : x.to[m] = r := by rw [List.getElem?_eq_getElem h1] at hr; exact Option.some.inj hr
                have e2 : y.to[m] = s := by rw [List.getElem?_eq_getElem h2] at hs; exact Option.some.inj hs
                rwa [e1, e2] at h3
              have HT := Lib.hid (Sep.start wr)
              clear hr hs g3 g4
              go_wp2_with fail
              have S0 : New wr wr.drew := (New.refl wr).drew
              refine wp_region_noPanic ?_
              refine wp_region_held_drew (S := fun w' => New wr w') (by kernel_rfl) S0 (fun _ => ?_)
              refine wpAnyH_take (i := 0) (v := .slice la n lc) rfl (by kernel_rfl) (by kernel_rfl) (by kernel_rfl) (fun _ _ _ h => h) (Or.inl ⟨rfl, fun _ _ => by go_simp⟩) S0 ?_
              simp only [List.getElem_toArray, List.getElem_cons_zero, Act.put, List.setIfInBounds_toArray, List.set_cons_zero, List.set_cons_succ]
              refine wpAnyH_take (i := 1) (v := .int .i64 (i : Int)) rfl (by kernel_rfl) (by kernel_rfl) (by kernel_rfl) (fun _ _ _ h => h) (Or.inl ⟨rfl, fun _ _ => by go_simp⟩) S0 ?_
              simp only [List.getElem_toArray, List.getElem_cons_zero, List.getElem_cons_succ, Act.put, List.setIfInBounds_toArray, List.set_cons_zero, List.set_cons_succ]
              refine wpAnyH_take (i := 2) (v := .pointer (some ⟨b1, o1, none⟩)) rfl (by kernel_rfl) (by kernel_rfl) (by kernel_rfl) (fun _ _ _ h => h) (ixV_if rfl 22 (.tmp 68) (.tmp 69) rfl _ _ _ rfl rfl i1) S0 ?_
              simp only [List.getElem_toArray, List.getElem_cons_zero, List.getElem_cons_succ, Act.put, List.setIfInBounds_toArray, List.set_cons_zero, List.set_cons_succ]
              refine wpAnyH_take (i := 3) (v := .pointer (some ⟨b1, o1 + 1, none⟩)) rfl (by kernel_rfl) (by kernel_rfl) (by kernel_rfl) (fun _ _ _ h => h) (Or.inl ⟨rfl, fun _ _ => by go_simp⟩) S0 ?_
              simp only [List.getElem_toArray, List.getElem_cons_zero, List.getElem_cons_succ, Act.put, List.setIfInBounds_toArray, List.set_cons_zero, List.set_cons_succ]
              refine wpAnyH_take (i := 4) (v := .slice ra M rc) rfl (by kernel_rfl) (by kernel_rfl) (by kernel_rfl) (fun _ _ _ h => h) (ldV_if rfl 36 Try.isAgg36 (.tmp 71) rfl ⟨b1, o1 + 1, none⟩ rfl (fun w' h => HG1.out _ (NT.out.trans h) 1 _ rfl)) S0 ?_
              simp only [List.getElem_toArray, List.getElem_cons_zero, List.getElem_cons_succ, Act.put, List.setIfInBounds_toArray, List.set_cons_zero, List.set_cons_succ]
              refine wpAnyH_take (i := 5) (v := .int .i64 (m : Int)) rfl (by kernel_rfl) (by kernel_rfl) (by kernel_rfl) (fun _ _ _ h => h) (Or.inl ⟨rfl, fun _ _ => by go_simp⟩) S0 ?_
              simp only [List.getElem_toArray, List.getElem_cons_zero, List.getElem_cons_succ, Act.put, List.setIfInBounds_toArray, List.set_cons_zero, List.set_cons_succ]
              refine wpAnyH_take (i := 6) (v := .pointer (some ⟨b3, o3, none⟩)) rfl (by kernel_rfl) (by kernel_rfl) (by kernel_rfl) (fun _ _ _ h => h) (ixV_if rfl 36 (.tmp 72) (.tmp 73) rfl _ _ _ rfl rfl i3) S0 ?_
              simp only [List.getElem_toArray, List.getElem_cons_zero, List.getElem_cons_succ, Act.put, List.setIfInBounds_toArray, List.set_cons_zero, List.set_cons_succ]
              refine wpAnyH_take (i := 7) (v := .agg (refK r).toArray) rfl (by kernel_rfl) (by kernel_rfl) (by kernel_rfl) (fun _ _ _ h => h) (yieldsIf_load_mid (by rfl) _ _ rfl b3 o3 rfl (refK r) _ (fun w' h => HG3.out _ (NT.out.trans h)) Try.underlying40 rfl infoRf12) S0 ?_
              simp only [List.getElem_toArray, List.getElem_cons_zero, List.getElem_cons_succ, Act.put, List.setIfInBounds_toArray, List.set_cons_zero, List.set_cons_succ]
              refine wpAnyH_take (i := 8) (v := .slice la n lc) rfl (by kernel_rfl) (by kernel_rfl) (by kernel_rfl) (fun _ _ _ h => h) (Or.inl ⟨rfl, fun _ _ => by go_simp⟩) S0 ?_
              simp only [List.getElem_toArray, List.getElem_cons_zero, List.getElem_cons_succ, Act.put, List.setIfInBounds_toArray, List.set_cons_zero, List.set_cons_succ]
              refine wpAnyH_take (i := 9) (v := .int .i64 (k : Int)) rfl (by kernel_rfl) (by kernel_rfl) (by kernel_rfl) (fun _ _ _ h => h) (Or.inl ⟨rfl, fun _ _ => by go_simp⟩) S0 ?_
              simp only [List.getElem_toArray, List.getElem_cons_zero, List.getElem_cons_succ, Act.put, List.setIfInBounds_toArray, List.set_cons_zero, List.set_cons_succ]
              refine wpAnyH_take (i := 10) (v := .pointer (some ⟨b2, o2, none⟩)) rfl (by kernel_rfl) (by kernel_rfl) (by kernel_rfl) (fun _ _ _ h => h) (ixV_if rfl 22 (.tmp 76) (.tmp 77) rfl _ _ _ rfl rfl i2) S0 ?_
              simp only [List.getElem_toArray, List.getElem_cons_zero, List.getElem_cons_succ, Act.put, List.setIfInBounds_toArray, List.set_cons_zero, List.set_cons_succ]
              refine wpAnyH_take (i := 11) (v := .pointer (some ⟨b2, o2 + 1, none⟩)) rfl (by kernel_rfl) (by kernel_rfl) (by kernel_rfl) (fun _ _ _ h => h) (Or.inl ⟨rfl, fun _ _ => by go_simp⟩) S0 ?_
              simp only [List.getElem_toArray, List.getElem_cons_zero, List.getElem_cons_succ, Act.put, List.setIfInBounds_toArray, List.set_cons_zero, List.set_cons_succ]
              refine wpAnyH_take (i := 12) (v := .slice sa M sc) rfl (by kernel_rfl) (by kernel_rfl) (by kernel_rfl) (fun _ _ _ h => h) (ldV_if rfl 36 Try.isAgg36 (.tmp 79) rfl ⟨b2, o2 + 1, none⟩ rfl (fun w' h => HG2.out _ (NT.out.trans h) 1 _ rfl)) S0 ?_
              simp only [List.getElem_toArray, List.getElem_cons_zero, List.getElem_cons_succ, Act.put, List.setIfInBounds_toArray, List.set_cons_zero, List.set_cons_succ]
              refine wpAnyH_take (i := 13) (v := .int .i64 (m : Int)) rfl (by kernel_rfl) (by kernel_rfl) (by kernel_rfl) (fun _ _ _ h => h) (Or.inl ⟨rfl, fun _ _ => by go_simp⟩) S0 ?_
              simp only [List.getElem_toArray, List.getElem_cons_zero, List.getElem_cons_succ, Act.put, List.setIfInBounds_toArray, List.set_cons_zero, List.set_cons_succ]
              refine wpAnyH_take (i := 14) (v := .pointer (some ⟨b4, o4, none⟩)) rfl (by kernel_rfl) (by kernel_rfl) (by kernel_rfl) (fun _ _ _ h => h) (ixV_if rfl 36 (.tmp 80) (.tmp 81) rfl _ _ _ rfl rfl i4) S0 ?_
              simp only [List.getElem_toArray, List.getElem_cons_zero, List.getElem_cons_succ, Act.put, List.setIfInBounds_toArray, List.set_cons_zero, List.set_cons_succ]
              refine wpAnyH_take (i := 15) (v := .agg (refK s).toArray) rfl (by kernel_rfl) (by kernel_rfl) (by kernel_rfl) (fun _ _ _ h => h) (yieldsIf_load_mid (by rfl) _ _ rfl b4 o4 rfl (refK s) _ (fun w' h => HG4.out _ (NT.out.trans h)) Try.underlying40 rfl infoRf12) S0 ?_
              simp only [List.getElem_toArray, List.getElem_cons_zero, List.getElem_cons_succ, Act.put, List.setIfInBounds_toArray, List.set_cons_zero, List.set_cons_succ]
              refine wpAnyH_new2 (i := 16) (j := 17) (o := .cells #[.int .i64 0, .int .i64 0] 40 (0, 0)) (di := 8) (dj := 9) (m := 2) rfl rfl rfl rfl rfl rfl (run_alO _ rfl _ zeroRf_run) (run_alO _ rfl _ zeroRf_run) (by kernel_rfl) (by decide) (by decide) (fun _ h => h.alloc _) S0 ?_
              intro gx gy q1 q2 q3 q4 q5 hS
              simp only [Act.put, List.setIfInBounds_toArray, List.set_cons_zero, List.set_cons_succ]
              simp only [ptr]
              have d6 : HasC ((wr.drew.alloc (.cells #[.int .i64 0, .int .i64 0] 40 (0, 0))).alloc (.cells #[.int .i64 0, .int .i64 0] 40 (0, 0))) gx 40 [.int .i64 0, .int .i64 0] := two_al q1 q3
              have d7 : HasC ((wr.drew.alloc (.cells #[.int .i64 0, .int .i64 0] 40 (0, 0))).alloc (.cells #[.int .i64 0, .int .i64 0] 40 (0, 0))) gy 40 [.int .i64 0, .int .i64 0] := two_al q2 q4
              have hz : wr.drew.heap.size = wr.heap.size := rfl
              rw [hz] at q1 q2
              generalize ((wr.drew.alloc (.cells #[.int .i64 0, .int .i64 0] 40 (0, 0))).alloc (.cells #[.int .i64 0, .int .i64 0] 40 (0, 0))) = w4 at d6 d7 hS ⊢
              clear q3 q4 hz
              refine wpAnyH_forced [18, 19] _ _ _ hS (by kernel_rfl) (by simp) ?_
              simp only [List.map_cons, List.map_nil, Array.getD_eq_getD_getElem?, List.getElem?_toArray, List.getElem?_cons_succ, List.getElem?_cons_zero, Option.getD_some]
              refine wpLS_stC rfl rfl 40 (.tmp 8) (.tmp 75) rfl gx rfl _ rfl d6 (refK r) rfl rfl (refK_one r) infoRf12 ?_
              intro w5 b6 k6
              have nb := k6.below wr q1 hS
              refine ⟨nb, ?_⟩
              refine wpLS_stC rfl rfl 40 (.tmp 9) (.tmp 83) rfl gy rfl _ rfl (HasC.kept d7 k6 (Ne.symm q5)) (refK s) rfl rfl (refK_one s) infoRf12 ?_
              intro w6 b7 k7
              have nc := k7.below wr q2 nb
              refine ⟨nc, ?_⟩
              refine wpLS_nil ?_
              refine NoPanic.normal ?_
              replace HT := Lib.hid (HT.out.two nc q1 q2 q5 (HasC.kept b6 k7 q5) b7)
              clear d6 d7 hS b6 k6 b7 k7 nb nc S0 q1 q2 q5
              have z0 := HT.out.cell 0 rfl (k := 0) rfl
              have z1 := HT.out.cell 0 rfl (k := 1) rfl
              have z2 := HT.out.cell 1 rfl (k := 0) rfl
              have z3 := HT.out.cell 1 rfl (k := 1) rfl
              have NW := Lib.hid (NT.out.trans HT.out.nw)
              clear y1
              go_upto_region 14 with fail
              go_cut [8, 9, 10] from 58 to 141 (fun c8 c9 c10 wF => c8 = .pointer (some ⟨gx, 0, none⟩) ∧ c9 = .pointer (some ⟨gy, 0, none⟩) ∧ c10 = .bool (thB n r) ∧ Hid (Sep wr wF [blk gx 40 (refK r), blk gy 40 (refK s)]))
              case first =>
                by_cases fra : r.1 = 0
                · have fr0 : (r.1 == 0) = true := beq_of fra
                  by_cases frb : 0 ≤ r.2
                  · have fr1 : decide (0 ≤ r.2) = true := decide_eq_true frb
                    by_cases frc : r.2 < (n : Int)
                    · have fr2 : decide (r.2 < (n : Int)) = true := decide_eq_true frc
                      have Hfr : Hid (thB n r = true) := Lib.hid (th_iff.mpr ⟨fra, frb, frc⟩)
                      have frN : r.2.toNat < n := by omega
                      have HfrT : Hid (r.2 = ((r.2.toNat : Nat) : Int)) := Lib.hid (by omega)
                      clear fra frb frc
                      go_wp2_with fail
                      go_meet
                      exact ⟨rfl, rfl, by rw [Hfr.out], HT⟩
                    · have fr2 : decide (r.2 < (n : Int)) = false := decide_eq_false frc
                      have Hfr : Hid (thB n r = false) := Lib.hid (decide_eq_false fun e => frc e.2.2)
                      clear fra frb frc
                      go_wp2_with fail
                      go_meet
                      exact ⟨rfl, rfl, by rw [Hfr.out], HT⟩
                  · have fr1 : decide (0 ≤ r.2) = false := decide_eq_false frb
                    have Hfr : Hid (thB n r = false) := Lib.hid (decide_eq_false fun e => frb e.2.1)
                    clear fra frb
                    go_wp2_with fail
                    go_meet
                    exact ⟨rfl, rfl, by rw [Hfr.out], HT⟩
                · have fr0 : (r.1 == 0) = false := bneq_of fra
                  have Hfr : Hid (thB n r = false) := Lib.hid (decide_eq_false fun e => fra e.1)
                  clear fra
                  go_wp2_with fail
                  go_meet
                  exact ⟨rfl, rfl, by rw [Hfr.out], HT⟩
              case rest =>
                clear HT z0 z1 z2 z3 NW
                obtain ⟨rfl, rfl, rfl, HT⟩ := hcut
                have z2 := HT.out.cell 1 rfl (k := 0) rfl
                have z3 := HT.out.cell 1 rfl (k := 1) rfl
                go_upto_region 15 with fail
                go_cut [8, 9, 10, 11] from 58 to 141 (fun c8 c9 c10 c11 wF => c8 = .pointer (some ⟨gx, 0, none⟩) ∧ c9 = .pointer (some ⟨gy, 0, none⟩) ∧ c10 = .bool (thB n r) ∧ c11 = .bool (thB n s) ∧ Hid (Sep wr wF [blk gx 40 (refK r), blk gy 40 (refK s)]))
                case first =>
                  by_cases fsa : s.1 = 0
                  · have fs0 : (s.1 == 0) = true := beq_of fsa
                    by_cases fsb : 0 ≤ s.2
                    · have fs1 : decide (0 ≤ s.2) = true := decide_eq_true fsb
                      by_cases fsc : s.2 < (n : Int)
                      · have fs2 : decide (s.2 < (n : Int)) = true := decide_eq_true fsc
                        have Hfs : Hid (thB n s = true) := Lib.hid (th_iff.mpr ⟨fsa, fsb, fsc⟩)
                        have fsN : s.2.toNat < n := by omega
                        have HfsT : Hid (s.2 = ((s.2.toNat : Nat) : Int)) := Lib.hid (by omega)
                        clear fsa fsb fsc
                        go_wp2_with fail
                        go_meet
                        exact ⟨rfl, rfl, rfl, by rw [Hfs.out], HT⟩
                      · have fs2 : decide (s.2 < (n : Int)) = false := decide_eq_false fsc
                        have Hfs : Hid (thB n s = false) := Lib.hid (decide_eq_false fun e => fsc e.2.2)
                        clear fsa fsb fsc
                        go_wp2_with fail
                        go_meet
                        exact ⟨rfl, rfl, rfl, by rw [Hfs.out], HT⟩
                    · have fs1 : decide (0 ≤ s.2) = false := decide_eq_false fsb
                      have Hfs : Hid (thB n s = false) := Lib.hid (decide_eq_false fun e => fsb e.2.1)
                      clear fsa fsb
                      go_wp2_with fail
                      go_meet
                      exact ⟨rfl, rfl, rfl, by rw [Hfs.out], HT⟩
                  · have fs0 : (s.1 == 0) = false := bneq_of fsa
                    have Hfs : Hid (thB n s = false) := Lib.hid (decide_eq_false fun e => fsa e.1)
                    clear fsa
                    go_wp2_with fail
                    go_meet
                    exact ⟨rfl, rfl, rfl, by rw [Hfs.out], HT⟩
                case rest =>
                  clear HT z2 z3
                  obtain ⟨rfl, rfl, rfl, rfl, HT⟩ := hcut
                  have NW := Lib.hid (NT.out.trans HT.out.nw)
                  cases ht1 : thB n r with
                  | true =>
                    have Hfr := Lib.hid ht1
                    cases ht2 : thB n s with
                    | true =>
                      have Hfs := Lib.hid ht2
                      clear ht1 ht2
                      have frN : r.2.toNat < n := by have := th_iff.mp Hfr.out; omega
                      have fsN : s.2.toNat < n := by have := th_iff.mp Hfs.out; omega
                      have HfrT : Hid (r.2 = ((r.2.toNat : Nat) : Int)) := Lib.hid (by have := th_iff.mp Hfr.out; omega)
                      have HfsT : Hid (s.2 = ((s.2.toNat : Nat) : Int)) := Lib.hid (by have := th_iff.mp Hfs.out; omega)
                      obtain ⟨p1, i5, r5⟩ := int_ix HC.out frN
                      obtain ⟨p2, i6, r6⟩ := int_ix HC.out fsN
                      rw [← HfrT.out] at i5
                      rw [← HfsT.out] at i6
                      obtain ⟨xx, HXX⟩ : ∃ xx, Hid (cs.getD r.2.toNat 0 = xx) := ⟨_, Lib.hid rfl⟩
                      obtain ⟨yy, HYY⟩ : ∃ yy, Hid (cs.getD s.2.toNat 0 = yy) := ⟨_, Lib.hid rfl⟩
                      rw [HXX.out] at r5
                      rw [HYY.out] at r6
                      have V1 : ∀ z : NewW wc, z.val.cell? ⟨gx, 1, none⟩ = some (.int .i64 r.2) := fun z => z.property.cell' (HT.out.cell 0 rfl (k := 1) rfl)
                      have V2 : ∀ z : NewW wc, z.val.cell? ⟨gy, 1, none⟩ = some (.int .i64 s.2) := fun z => z.property.cell' (HT.out.cell 1 rfl (k := 1) rfl)
                      have V3 : ∀ z : NewW wc, z.val.cell? p1 = some (.int .i64 xx) := fun z => r5 _ (NW.out.trans z.property)
                      have V4 : ∀ z : NewW wc, z.val.cell? p2 = some (.int .i64 yy) := fun z => r6 _ (NW.out.trans z.property)
                      clear r5 r6
                      by_cases hxy : xx = yy
                      · have qq : (xx != yy) = false := by simp [hxy]
                        have HLK : Hid (LikeR n (fun a b => cs.getD a 0 = cs.getD b 0) r s) := Lib.hid (by unfold LikeR; rw [Hfr.out, Hfs.out, if_pos (by decide)]; show cs.getD r.2.toNat 0 = cs.getD s.2.toNat 0; rw [HXX.out, HYY.out]; exact hxy)
                        clear hxy
                        go_wp2_with fail
                        have hne := newW_any wc
                        refine wp_region_new (New.refl wc) (by kernel_rfl) (by kernel_rfl) ?_
                        repeat (go_big_quiet_step (fail))
                        refine wpQuiet_nil ?_
                        intro w9 hn9
                        go_wp2_with fail
                        go_roundw
                        case rel => exact ⟨m + 1, by go_num, by omega, HSTEP.out HLK.out, Lib.hid (NW.out.trans hn9)⟩
                        case measure => simp [intOf]; omega
                      · have qq : (xx != yy) = true := by simp [hxy]
                        have HNO : Hid (¬ StandsR l cs) := Lib.hid fun e => hxy (by have h9 := HR9.out e; unfold LikeR at h9; rw [Hfr.out, Hfs.out, if_pos (by decide)] at h9; replace h9 : cs.getD r.2.toNat 0 = cs.getD s.2.toNat 0 := h9; rw [HXX.out, HYY.out] at h9; exact h9)
                        clear hxy
                        go_wp2_with fail
                        have hne := newW_any wc
                        refine wp_region_new (New.refl wc) (by kernel_rfl) (by kernel_rfl) ?_
                        repeat (go_big_quiet_step (fail))
                        refine wpQuiet_nil ?_
                        intro w9 hn9
                        go_wp2_with fail
                        go_ret
                        exact ⟨false, rfl, ⟨fun h => (by cases h), fun h => absurd h HNO.out⟩, NW.out.trans hn9⟩
                    | false =>
                      have Hfs := Lib.hid ht2
                      clear ht1 ht2
                      have HNO : Hid (¬ StandsR l cs) := Lib.hid fun e => (by have h9 := HR9.out e; unfold LikeR at h9; rw [Hfr.out, Hfs.out, if_neg (by decide)] at h9; have h8 := Hfr.out; rw [h9, Hfs.out] at h8; cases h8)
                      go_wp2_with fail
                      have hne := newW_any wc
                      refine wp_region_new (New.refl wc) (by kernel_rfl) (by kernel_rfl) ?_
                      repeat (go_big_quiet_step (fail))
                      refine wpQuiet_nil ?_
                      intro w9 hn9
                      go_wp2_with fail
                      go_ret
                      exact ⟨false, rfl, ⟨fun h => (by cases h), fun h => absurd h HNO.out⟩, NW.out.trans hn9⟩
                  | false =>
                    have Hfr := Lib.hid ht1
                    cases ht2 : thB n s with
                    | true =>
                      have Hfs := Lib.hid ht2
                      clear ht1 ht2
                      have HNO : Hid (¬ StandsR l cs) := Lib.hid fun e => (by have h9 := HR9.out e; unfold LikeR at h9; rw [Hfr.out, Hfs.out, if_neg (by decide)] at h9; have h8 := Hfr.out; rw [h9, Hfs.out] at h8; cases h8)
                      go_wp2_with fail
                      have hne := newW_any wc
                      refine wp_region_new (New.refl wc) (by kernel_rfl) (by kernel_rfl) ?_
                      repeat (go_big_quiet_step (fail))
                      refine wpQuiet_nil ?_
                      intro w9 hn9
                      go_wp2_with fail
                      go_ret
                      exact ⟨false, rfl, ⟨fun h => (by cases h), fun h => absurd h HNO.out⟩, NW.out.trans hn9⟩
                    | false =>
                      have Hfs := Lib.hid ht2
                      clear ht1 ht2
                      have hq := neq_rf r s
                      by_cases hrs : r = s
                      · rw [decide_eq_true hrs] at hq
                        replace hq : ∀ w, (binOp .neq 40 (.agg (refK r).toArray) (.agg (refK s).toArray)).run Try.prog w = .ok (.bool false) w := hq
                        have HLK : Hid (LikeR n (fun a b => cs.getD a 0 = cs.getD b 0) r s) := Lib.hid (by unfold LikeR; rw [Hfr.out, Hfs.out, if_neg (by decide)]; exact hrs)
                        clear hrs
                        go_wp2_with fail
                        have hne := newW_any wc
                        refine wp_region_new (New.refl wc) (by kernel_rfl) (by kernel_rfl) ?_
                        have T1 : Hid True := Lib.hid trivial
                        have T2 : Hid True := Lib.hid trivial
                        repeat (first
                          | go_big_quiet_step (fail)
                          | (clear T1; refine wpQuiet_ldAg ?_ 40 (.tmp 8) (by rfl) gx 0 (by rfl) (refK r) _ (by rintro w' ⟨y, rfl⟩; exact HasC.all ((HT.out.has 0 rfl).new y.property)) Try.underlying40 rfl infoRf12 ?_; rfl; simp only [Act.put, List.setIfInBounds_toArray, List.set_cons_zero, List.set_cons_succ])
                          | (clear T2; refine wpQuiet_ldAg ?_ 40 (.tmp 9) (by rfl) gy 0 (by rfl) (refK s) _ (by rintro w' ⟨y, rfl⟩; exact HasC.all ((HT.out.has 1 rfl).new y.property)) Try.underlying40 rfl infoRf12 ?_; rfl; simp only [Act.put, List.setIfInBounds_toArray, List.set_cons_zero, List.set_cons_succ]))
                        refine wpQuiet_nil ?_
                        intro w9 hn9
                        go_wp2_with fail
                        go_roundw
                        case rel => exact ⟨m + 1, by go_num, by omega, HSTEP.out HLK.out, Lib.hid (NW.out.trans hn9)⟩
                        case measure => simp [intOf]; omega
                      · rw [decide_eq_false hrs] at hq
                        replace hq : ∀ w, (binOp .neq 40 (.agg (refK r).toArray) (.agg (refK s).toArray)).run Try.prog w = .ok (.bool true) w := hq
                        have HNO : Hid (¬ StandsR l cs) := Lib.hid fun e => hrs (by have h9 := HR9.out e; unfold LikeR at h9; rw [Hfr.out, Hfs.out, if_neg (by decide)] at h9; exact h9)
                        clear hrs
                        go_wp2_with fail
                        have hne := newW_any wc
                        refine wp_region_new (New.refl wc) (by kernel_rfl) (by kernel_rfl) ?_
                        have T1 : Hid True := Lib.hid trivial
                        have T2 : Hid True := Lib.hid trivial
                        repeat (first
                          | go_big_quiet_step (fail)
                          | (clear T1; refine wpQuiet_ldAg ?_ 40 (.tmp 8) (by rfl) gx 0 (by rfl) (refK r) _ (by rintro w' ⟨y, rfl⟩; exact HasC.all ((HT.out.has 0 rfl).new y.property)) Try.underlying40 rfl infoRf12 ?_; rfl; simp only [Act.put, List.setIfInBounds_toArray, List.set_cons_zero, List.set_cons_succ])
                          | (clear T2; refine wpQuiet_ldAg ?_ 40 (.tmp 9) (by rfl) gy 0 (by rfl) (refK s) _ (by rintro w' ⟨y, rfl⟩; exact HasC.all ((HT.out.has 1 rfl).new y.property)) Try.underlying40 rfl infoRf12 ?_; rfl; simp only [Act.put, List.setIfInBounds_toArray, List.set_cons_zero, List.set_cons_succ]))
                        refine wpQuiet_nil ?_
                        intro w9 hn9
                        go_wp2_with fail
                        go_ret
                        exact ⟨false, rfl, ⟨fun h => (by cases h), fun h => absurd h HNO.out⟩, NW.out.trans hn9⟩
            · have HLW : Hid (cs.getD i 0 = cs.getD k 0 → LikeW l.length (fun a b => cs.getD a 0 = cs.getD b 0) (rwA l i) (rwA l k)) := Lib.hid fun _ => by
                rw [HN.out, HXK.out, HYK.out]
                exact ⟨HXC.out, by rw [HM.out, HL.out], fun j h1 h2 => HLS.out j (by rw [HM.out] at h1; omega) h1 h2⟩
              have HI2 := Lib.hid (stands_k HI.out HLW.out)
              go_wp2_with fail
              go_roundw
              case rel => exact ⟨k + 1, by go_num, by omega, HI2, NT⟩
              case measure => simp [intOf]; omega
        · obtain rfl : k = i := by omega
          have HI2 := Lib.hid (stands_i HI.out)
          go_wp2_with fail
          go_roundw
          case rel => exact ⟨k + 1, by go_num, by omega, HI2, HW⟩
          case measure => simp [intOf]; omega
    · have HST : Hid (StandsR l cs) := Lib.hid fun a b ha hb e => HI.out a b (by rw [HN.out] at ha; omega) hb e
      go_wp2_with fail
      go_ret
      exact ⟨true, rfl, ⟨fun _ => HST.out, fun _ => rfl⟩, HW.out⟩
end Go.Proofs.Ytomclhbekmcaeaa
