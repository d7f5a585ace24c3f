/-
  'RefineFewest': what has one class leads to the same classes and marks, and no other classes that do so are fewer: true, for every input.
-/
import Derived.Test.YtomclhbekmcaeaaRefGr
import Derived.Test.YtomclhbekmcaeaaRefKn
import Derived.Test.YtomclhbekmcaeaaRefSt
namespace Go.Proofs.Ytomclhbekmcaeaa
open Go.RowKit

theorem stands_cls (l : List Rw) : StandsR l (clsL l) := by
  intro i k hi hk e
  obtain ⟨_, _, h⟩ := same_post ((clsL_eq hi (by omega)).mp e)
  exact ⟨h.c, h.len, fun m h1 h2 => like_mono (fun a b hab => (clsL_eq (same_post hab).1 (same_post hab).2.1).mpr hab) (h.to m h1 h2)⟩
theorem likeR_symm {n : Nat} {X : Nat → Nat → Prop} (hX : ∀ a b, X a b → X b a) {x y : Rf} (h : LikeR n X x y) : LikeR n X y x := by
  unfold LikeR at h ⊢
  rw [Bool.and_comm]
  split
  · next e =>
    rw [if_pos e] at h
    exact hX _ _ h
  · next e =>
    rw [if_neg e] at h
    exact h.symm
theorem stands_in {l : List Rw} {z : List Int} (h : StandsR l z) {i k : Nat} (hi : i < l.length) (hk : k < l.length) (e : z.getD i 0 = z.getD k 0) : Same2 l i k := by
  refine stands_same (o := fun a => z.getD a 0) (fun a b ha hb hab => ?_) hi hk e
  rcases Nat.lt_trichotomy a b with h1 | h1 | h1
  · have h2 := h b a hb h1 hab.symm
    exact ⟨h2.c.symm, h2.len.symm, fun m q1 q2 => likeR_symm (fun _ _ => Eq.symm) (h2.to m q2 q1)⟩
  · subst h1
    exact ⟨rfl, rfl, fun m q1 q2 => likeR_refl (X := fun a b => z.getD a 0 = z.getD b 0) (fun _ _ => rfl) _⟩
  · exact h a b ha h1 hab
theorem stands_fewest {l : List Rw} {z : List Int} (h : StandsR l z) {i k : Nat} (hi : i < l.length) (hk : k < l.length) (e : z.getD i 0 = z.getD k 0) : (clsL l).getD i 0 = (clsL l).getD k 0 := (clsL_eq hi hk).mpr (stands_in h hi hk e)
set_option maxHeartbeats 16000000 in
set_option maxRecDepth 100000 in
theorem refineFewest_walk (la : Option Addr) (n lc : Nat) (l : List Rw) (za : Option Addr) (m zc : Nat) (z : List Int) (w : World) (hr : RowsAt w (.slice la n lc) l) (hm : n ≤ maxLen) (hz : RowAt w (.slice za m zc) (z.map (.int .i64))) :
    Calls Try.prog 5 #[.slice la n lc, .slice za m zc] w fun e w' => e = .returned (.bool true) ∧ New w w' := by
  have hl := Els.len hr
  have HX := Lib.hid hr
  have HN := Lib.hid hl
  have HS := Lib.hid (Sep.start w)
  have HZ := Lib.hid hz
  have HZL := Lib.hid (int_len hz)
  clear hr hl hz
  by_cases hgr : n ≤ 60 ∧ ∀ x ∈ l, x.to.length ≤ 20
  case neg =>
    have HG := Lib.hid hgr
    clear hgr
    have T1 : Hid True := Lib.hid trivial
    have T2 : Hid True := Lib.hid trivial
    go_enter Try.func5, Try.ntmps5
    go_wp2_with (first
      | (clear T1; go_at_call 9; refine (great12_any la n lc l _ (HX.out.nw HS.out.nw) hm).mono ?_; rintro e w1 ⟨bb, rfl, hb, hn1⟩; obtain rfl : bb = true := (by cases bb with | true => rfl | false => exact absurd (hb.mp rfl) HG.out); replace HS := Lib.hid (HS.out.go hn1); clear hb hn1)
      | (clear T2; go_at_call 10; refine (knows_from12 _ HS.out.nw).mono ?_; rintro e wk ⟨rfl, hnk⟩))
    go_ret
    exact ⟨rfl, hnk⟩
  have HTO : Hid (∀ x ∈ l, x.to.length ≤ 10000) := Lib.hid fun x hx => Nat.le_trans (hgr.2 x hx) (by decide)
  have hn2 : n ≤ 10000 := by omega
  have HG := Lib.hid hgr
  clear hgr
  have HSC := Lib.hid (stands_cls l)
  have q0 : ((n : Int) != (n : Int)) = false := by simp
  by_cases hmn : m = n
  case neg =>
    have q1 : ((m : Int) != (n : Int)) = true := by simp; omega
    clear hmn
    have A1 : Hid True := Lib.hid trivial
    have A2 : Hid True := Lib.hid trivial
    have A3 : Hid True := Lib.hid trivial
    have A4 : Hid True := Lib.hid trivial
    go_enter Try.func5, Try.ntmps5
    go_wp2_with (first
      | (clear A1; go_at_call 9; refine (great12_any la n lc l _ (HX.out.nw HS.out.nw) hm).mono ?_; rintro e w1 ⟨bb, rfl, hb, hn1⟩; obtain rfl : bb = false := hb.mpr HG.out; replace HS := Lib.hid (HS.out.go hn1); clear hb hn1)
      | (clear A2; go_at_call 11; refine (classes_any la n lc l _ (HX.out.nw HS.out.nw) hn2 HTO.out).mono ?_; rintro e w3 ⟨v, rfl, hs⟩; obtain ⟨ca, cc, hv⟩ := rowA_form hs.hd; rw [clsL_len, HN.out] at hv; subst hv; replace HS := Lib.hid (HS.out.call hs); clear hs)
      | (clear A3; go_at_call 16; refine (stands_any la n lc l ca cc (clsL l) _ (HX.out.nw HS.out.nw) (int_rd (HS.out.rd 0 rfl)) hn2 HTO.out).mono ?_; rintro e w4 ⟨bb, rfl, hb, hn4⟩; obtain rfl : bb = true := hb.mpr HSC.out; replace HS := Lib.hid (HS.out.go hn4); clear hb hn4)
      | (clear A4; go_at_call 10; refine (knows_from12 _ HS.out.nw).mono ?_; rintro e wk ⟨rfl, hnk⟩))
    go_ret
    exact ⟨rfl, hnk⟩
  subst hmn
  by_cases hst : StandsR l z
  case neg =>
    have HNS := Lib.hid hst
    clear hst
    have B1 : Hid True := Lib.hid trivial
    have B2 : Hid True := Lib.hid trivial
    have B3 : Hid True := Lib.hid trivial
    have B4 : Hid True := Lib.hid trivial
    have B5 : Hid True := Lib.hid trivial
    go_enter Try.func5, Try.ntmps5
    go_wp2_with (first
      | (clear B1; go_at_call 9; refine (great12_any la m lc l _ (HX.out.nw HS.out.nw) hm).mono ?_; rintro e w1 ⟨bb, rfl, hb, hn1⟩; obtain rfl : bb = false := hb.mpr HG.out; replace HS := Lib.hid (HS.out.go hn1); clear hb hn1)
      | (clear B2; go_at_call 11; refine (classes_any la m lc l _ (HX.out.nw HS.out.nw) hn2 HTO.out).mono ?_; rintro e w3 ⟨v, rfl, hs⟩; obtain ⟨ca, cc, hv⟩ := rowA_form hs.hd; rw [clsL_len, HN.out] at hv; subst hv; replace HS := Lib.hid (HS.out.call hs); clear hs)
      | (clear B3; go_at_call 16; refine (stands_any la m lc l ca cc (clsL l) _ (HX.out.nw HS.out.nw) (int_rd (HS.out.rd 0 rfl)) hn2 HTO.out).mono ?_; rintro e w4 ⟨bb, rfl, hb, hn4⟩; obtain rfl : bb = true := hb.mpr HSC.out; replace HS := Lib.hid (HS.out.go hn4); clear hb hn4)
      | (clear B4; go_at_call 16; refine (stands_any la m lc l za zc z _ (HX.out.nw HS.out.nw) (HZ.out.new HS.out.nw) hn2 HTO.out).mono ?_; rintro e w5 ⟨bb, rfl, hb, hn5⟩; obtain rfl : bb = false := (by cases bb with | false => rfl | true => exact absurd (hb.mp rfl) HNS.out); replace HS := Lib.hid (HS.out.go hn5); clear hb hn5)
      | (clear B5; go_at_call 10; refine (knows_from12 _ HS.out.nw).mono ?_; rintro e wk ⟨rfl, hnk⟩))
    go_ret
    exact ⟨rfl, hnk⟩
  have HNS := Lib.hid hst
  clear hst
  have C1 : Hid True := Lib.hid trivial
  have C2 : Hid True := Lib.hid trivial
  have C3 : Hid True := Lib.hid trivial
  have C4 : Hid True := Lib.hid trivial
  go_enter Try.func5, Try.ntmps5
  go_wp2_with (first
    | (clear C1; go_at_call 9; refine (great12_any la m lc l _ (HX.out.nw HS.out.nw) hm).mono ?_; rintro e w1 ⟨bb, rfl, hb, hn1⟩; obtain rfl : bb = false := hb.mpr HG.out; replace HS := Lib.hid (HS.out.go hn1); clear hb hn1)
    | (clear C2; go_at_call 11; refine (classes_any la m lc l _ (HX.out.nw HS.out.nw) hn2 HTO.out).mono ?_; rintro e w3 ⟨v, rfl, hs⟩; obtain ⟨ca, cc, hv⟩ := rowA_form hs.hd; rw [clsL_len, HN.out] at hv; subst hv; replace HS := Lib.hid (HS.out.call hs); clear hs)
    | (clear C3; go_at_call 16; refine (stands_any la m lc l ca cc (clsL l) _ (HX.out.nw HS.out.nw) (int_rd (HS.out.rd 0 rfl)) hn2 HTO.out).mono ?_; rintro e w4 ⟨bb, rfl, hb, hn4⟩; obtain rfl : bb = true := hb.mpr HSC.out; replace HS := Lib.hid (HS.out.go hn4); clear hb hn4)
    | (clear C4; go_at_call 16; refine (stands_any la m lc l za zc z _ (HX.out.nw HS.out.nw) (HZ.out.new HS.out.nw) hn2 HTO.out).mono ?_; rintro e w5 ⟨bb, rfl, hb, hn5⟩; obtain rfl : bb = true := hb.mpr HNS.out; replace HS := Lib.hid (HS.out.go hn5); clear hb hn5))
  have HA := Lib.hid (int_rd (HS.out.rd 0 rfl))
  have N5 := Lib.hid HS.out.nw
  clear HS
  go_loopw [6] (fun iv wr => ∃ i : Nat, iv = .int .i64 (i : Int) ∧ i ≤ m ∧ Hid (New w5 wr)) (fun iv _ => m - (intOf iv).toNat)
  case atStart => exact ⟨0, rfl, by omega, Lib.hid (New.refl _)⟩
  case round =>
    obtain ⟨i, rfl, hi, HW⟩ := hrel
    by_cases him : i < m
    · obtain ⟨a1, i1, c1⟩ := int_ix HZ.out him
      obtain ⟨a3, i3, c3⟩ := int_ix HA.out him
      obtain ⟨zi, HZI⟩ : ∃ zi, Hid (z.getD i 0 = zi) := ⟨_, Lib.hid rfl⟩
      obtain ⟨ci, HCI⟩ : ∃ ci, Hid ((clsL l).getD i 0 = ci) := ⟨_, Lib.hid rfl⟩
      rw [HZI.out] at c1
      rw [HCI.out] at c3
      have H1 := Lib.hid c1
      have H3 := Lib.hid c3
      clear c1 c3
      go_wp2_with fail
      go_loopw [7] (fun kv wq => ∃ k : Nat, kv = .int .i64 (k : Int) ∧ k ≤ i ∧ Hid (New w5 wq)) (fun kv _ => i - (intOf kv).toNat)
      case atStart => exact ⟨0, rfl, by omega, HW⟩
      case round =>
        clear HW
        obtain ⟨k, rfl, hk, HW⟩ := hrel
        by_cases hki : k < i
        · obtain ⟨a2, i2, c2⟩ := int_ix HZ.out (show k < m by omega)
          obtain ⟨a4, i4, c4⟩ := int_ix HA.out (show k < m by omega)
          obtain ⟨zk, HZK⟩ : ∃ zk, Hid (z.getD k 0 = zk) := ⟨_, Lib.hid rfl⟩
          obtain ⟨ck, HCK⟩ : ∃ ck, Hid ((clsL l).getD k 0 = ck) := ⟨_, Lib.hid rfl⟩
          rw [HZK.out] at c2
          rw [HCK.out] at c4
          have V1 : ∀ z : NewW wr, z.val.cell? a1 = some (.int .i64 zi) := fun z => H1.out _ (N5.out.trans (HW.out.trans z.property))
          have V2 : ∀ z : NewW wr, z.val.cell? a2 = some (.int .i64 zk) := fun z => c2 _ (N5.out.trans (HW.out.trans z.property))
          have V3 : ∀ z : NewW wr, z.val.cell? a3 = some (.int .i64 ci) := fun z => H3.out _ (HW.out.trans z.property)
          have V4 : ∀ z : NewW wr, z.val.cell? a4 = some (.int .i64 ck) := fun z => c4 _ (HW.out.trans z.property)
          clear c2 c4
          by_cases hzz : zi = zk
          case neg =>
            have q2 : (zi == zk) = false := bneq_of hzz
            clear hzz
            go_wp2_with fail
            have hne := newW_any wr
            refine wp_region_new (New.refl wr) (by kernel_rfl) (by kernel_rfl) ?_
            repeat (go_big_quiet_step (fail))
            refine wpQuiet_nil ?_
            intro w6 hn6
            go_wp2_with fail
            go_roundw
            case rel => exact ⟨k + 1, by go_num, by omega, Lib.hid (HW.out.trans hn6)⟩
            case measure => simp [intOf]; omega
          have q2 : (zi == zk) = true := beq_of hzz
          have q3 : (ci != ck) = false := by
            have h9 := stands_fewest HNS.out (i := i) (k := k) (by rw [HN.out]; exact him) (by rw [HN.out]; omega) (by rw [HZI.out, HZK.out, hzz])
            rw [HCI.out, HCK.out] at h9
            simp [h9]
          clear hzz
          go_wp2_with fail
          have hne := newW_any wr
          refine wp_region_new (New.refl wr) (by kernel_rfl) (by kernel_rfl) ?_
          repeat (go_big_quiet_step (fail))
          refine wpQuiet_nil ?_
          intro w6 hn6
          go_wp2_with fail
          go_roundw
          case rel => exact ⟨k + 1, by go_num, by omega, Lib.hid (HW.out.trans hn6)⟩
          case measure => simp [intOf]; omega
        · go_wp2_with fail
          go_roundw
          case rel => exact ⟨i + 1, by go_num, by omega, HW⟩
          case measure => simp [intOf]; omega
    · have HY := Lib.hid (N5.out.trans HW.out)
      go_wp2_with (go_at_call 10; refine (knows_from12 _ HY.out).mono ?_; rintro e wk ⟨rfl, hnk⟩)
      go_ret
      exact ⟨rfl, hnk⟩
theorem refineFewest_law (v0 : Value) (l : List Rw) (v1 : Value) (z : List Int) (w : World) (hr : RowsAt w v0 l) (hm : l.length ≤ maxLen) (hz : RowAt w v1 (z.map (.int .i64))) : Calls Try.prog 5 #[v0, v1] w fun e w' => e = .returned (.bool true) ∧ New w w' := by
  obtain ⟨la, lc, rfl⟩ := Els.form hr
  obtain ⟨za, zc, rfl⟩ := int_form hz
  exact refineFewest_walk la _ lc l za _ zc z w hr hm hz
end Go.Proofs.Ytomclhbekmcaeaa
