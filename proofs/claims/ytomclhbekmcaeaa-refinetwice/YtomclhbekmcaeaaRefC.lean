/-
  Layer 12: the contracts of refine.Classes and refine.Apart.
-/
import Derived.Test.YtomclhbekmcaeaaRefB
import Derived.Deep.LoopGhost
namespace Go.Proofs.Ytomclhbekmcaeaa
open Go.RowKit

set_option maxHeartbeats 8000000 in
set_option maxRecDepth 100000 in
theorem classes_any (la : Option Addr) (n lc : Nat) (l : List Rw) (w : World) (hr : RowsAt w (.slice la n lc) l) (hn : n ≤ 10000) (hto : ∀ x ∈ l, x.to.length ≤ 10000) :
    Calls Try.prog 11 #[.slice la n lc] w fun e w' => ∃ v, e = .returned v ∧ Sep w w' [intO v (clsL l)] := by
  have hl := Els.len hr
  have HX := Lib.hid hr
  have HN := Lib.hid hl
  have HTO := Lib.hid hto
  have hn2 := hn
  have HCOL : Hid (numL (l.map Rw.c) = clsI n (eqG (l.map Rw.c))) := Lib.hid (by unfold numL; rw [List.length_map, hl])
  have HS := Lib.hid (Sep.start w)
  clear hr hl hto
  have T1 : Hid True := Lib.hid trivial
  go_enter Try.func11, Try.ntmps11
  go_wp2_with (clear T1; go_at_call 17; refine (colored_any la n lc l _ (HX.out.nw HS.out.nw) (by omega)).mono ?_; rw [HCOL.out]; rintro e w1 ⟨v, rfl, hs⟩; obtain ⟨ca, cc, hv⟩ := rowA_form hs.hd; rw [clsI_len] at hv; subst hv; replace HS := Lib.hid (HS.out.call hs); clear hs)
  go_loopg [3] (cntG n (eqG (l.map Rw.c))) (fun gm cv wr => ∃ (G : Nat → Nat → Bool) (ca : Option Addr) (cc : Nat), cv = .slice ca n cc ∧ gm = cntG n G ∧ Hid (RefG l G) ∧ Hid (Sep w wr [intO (.slice ca n cc) (clsI n G)]))
  case atStart => exact ⟨_, ca, cc, rfl, rfl, Lib.hid (refG_0 l), HS⟩
  case round =>
    clear HS
    obtain ⟨G, ca, cc, rfl, hgm, HR, HT⟩ := hrel
    have HGM := Lib.hid hgm
    have HCB : Hid (∀ i < n, 0 ≤ (clsI n G).getD i 0 ∧ (clsI n G).getD i 0 < (n : Int)) := Lib.hid fun i hi => by
      have h1 := cls_lt G hi
      rw [clsI_get G hi]
      omega
    obtain ⟨G2, HG2⟩ : ∃ G2, Hid (nxtG l (clsI n G) = G2) := ⟨_, Lib.hid rfl⟩
    have HR2 := Lib.hid (refG_next HR.out)
    rw [HN.out, HG2.out] at HR2
    clear hgm
    by_cases he : clsI n G2 = clsI n G
    · have HE := Lib.hid he
      have HTB : Hid (clsI n G = clsL l) := Lib.hid (by
        have h1 := refG_end HR.out (by rw [HN.out, HG2.out]; exact he)
        rw [← tbl_cls h1, HN.out])
      clear he
      have A1 : Hid True := Lib.hid trivial
      have A2 : Hid True := Lib.hid trivial
      go_wp2_with (first
        | (clear A1; go_at_call 18; refine (split_any la n lc l ca cc (clsI n G) _ (HX.out.nw HT.out.nw) (int_rd (HT.out.rd 0 rfl)) hn2 HTO.out HCB.out).mono ?_; rw [HG2.out]; rintro e w2 ⟨v2, rfl, hs⟩; obtain ⟨fa, fc, hv⟩ := rowA_form hs.hd; rw [clsI_len] at hv; subst hv; replace HT := Lib.hid (HT.out.call hs); clear hs)
        | (clear A2; go_at_call 19; refine (equal_any fa n fc _ ca n cc _ _ (int_rd (HT.out.rd 0 rfl)) (int_rd (HT.out.rd 1 rfl)) (by omega)).mono ?_; rintro e w3 ⟨bb, rfl, hb, hn3⟩; obtain rfl : bb = true := hb.mpr HE.out; replace HT := Lib.hid (HT.out.go hn3); clear hb hn3))
      rw [HTB.out] at HT
      go_ret
      exact ⟨_, rfl, HT.out.drop⟩
    · have HE := Lib.hid he
      have HLS := Lib.hid (refG_less HR.out (by rw [HN.out, HG2.out]; exact he))
      rw [HN.out, HG2.out] at HLS
      clear he
      have B1 : Hid True := Lib.hid trivial
      have B2 : Hid True := Lib.hid trivial
      go_wp2_with (first
        | (clear B1; go_at_call 18; refine (split_any la n lc l ca cc (clsI n G) _ (HX.out.nw HT.out.nw) (int_rd (HT.out.rd 0 rfl)) hn2 HTO.out HCB.out).mono ?_; rw [HG2.out]; rintro e w2 ⟨v2, rfl, hs⟩; obtain ⟨fa, fc, hv⟩ := rowA_form hs.hd; rw [clsI_len] at hv; subst hv; replace HT := Lib.hid (HT.out.call hs); clear hs)
        | (clear B2; go_at_call 19; refine (equal_any fa n fc _ ca n cc _ _ (int_rd (HT.out.rd 0 rfl)) (int_rd (HT.out.rd 1 rfl)) (by omega)).mono ?_; rintro e w3 ⟨bb, rfl, hb, hn3⟩; obtain rfl : bb = false := (by cases bb with | false => rfl | true => exact absurd (hb.mp rfl) HE.out); replace HT := Lib.hid (HT.out.go hn3); clear hb hn3))
      go_roundg (cntG n G2)
      case rel => exact ⟨G2, fa, fc, rfl, rfl, HR2, HT.out.dropAt 1 (by simp)⟩
      case measure => rw [HGM.out]; exact HLS.out
/-- Can two be told apart, of any two numbers? -/
def apB (l : List Rw) (i k : Int) : Bool := if i = k then false else if (0 ≤ i ∧ i < l.length) ∧ 0 ≤ k ∧ k < l.length then !smB l i.toNat k.toNat else true
set_option maxHeartbeats 8000000 in
set_option maxRecDepth 100000 in
theorem apart_any (la : Option Addr) (n lc : Nat) (l : List Rw) (i k : Int) (w : World) (hr : RowsAt w (.slice la n lc) l) (hn : n ≤ 10000) (hto : ∀ x ∈ l, x.to.length ≤ 10000) :
    Calls Try.prog 14 #[.slice la n lc, .int .i64 i, .int .i64 k] w fun e w' => e = .returned (.bool (apB l i k)) ∧ New w w' := by
  have hl := Els.len hr
  have HX := Lib.hid hr
  have HN := Lib.hid hl
  have HTO := Lib.hid hto
  have hn2 := hn
  have HS := Lib.hid (Sep.start w)
  unfold apB
  rw [hl]
  clear hr hl hto
  by_cases hik : i = k
  · have q0 : (i == k) = true := beq_of hik
    rw [if_pos hik]
    clear hik
    go_enter Try.func14, Try.ntmps14
    go_wp2_with fail
    go_ret
    exact ⟨rfl, HS.out.nw⟩
  · have q0 : (i == k) = false := bneq_of hik
    rw [if_neg hik]
    clear hik
    by_cases hi : 0 ≤ i ∧ i < (n : Int)
    · have HI := Lib.hid (decide_eq_true hi)
      by_cases hk : 0 ≤ k ∧ k < (n : Int)
      · have HK := Lib.hid (decide_eq_true hk)
        rw [if_pos ⟨hi, hk⟩]
        obtain ⟨a, ha⟩ : ∃ a : Nat, i = (a : Int) := ⟨i.toNat, by omega⟩
        obtain ⟨b, hb⟩ : ∃ b : Nat, k = (b : Int) := ⟨k.toNat, by omega⟩
        subst ha hb
        rw [Int.toNat_natCast, Int.toNat_natCast]
        have han : a < n := by omega
        have hbn : b < n := by omega
        have HEQ := Lib.hid (clsL_eq (l := l) (i := a) (k := b) (by rw [HN.out]; exact han) (by rw [HN.out]; exact hbn))
        obtain ⟨q, HQ⟩ : ∃ q, Hid (smB l a b = q) := ⟨_, Lib.hid rfl⟩
        have HSM := Lib.hid (smB_iff (l := l) (i := a) (k := b))
        rw [HQ.out] at HSM ⊢
        clear hi hk
        have C1 : Hid True := Lib.hid trivial
        have C2 : Hid True := Lib.hid trivial
        have C3 : Hid True := Lib.hid trivial
        go_enter Try.func14, Try.ntmps14
        go_wp2_with (first
          | (clear C1; go_at_call 20; refine (there_any _ _ _).mono ?_; rw [HI.out]; rintro e w1 ⟨rfl, hn1⟩; replace HS := Lib.hid (HS.out.go hn1); clear hn1)
          | (clear C2; go_at_call 20; refine (there_any _ _ _).mono ?_; rw [HK.out]; rintro e w2 ⟨rfl, hn1⟩; replace HS := Lib.hid (HS.out.go hn1); clear hn1)
          | (clear C3; go_at_call 11; refine (classes_any la n lc l _ (HX.out.nw HS.out.nw) hn2 HTO.out).mono ?_; rintro e w3 ⟨v, rfl, hs⟩; obtain ⟨ca, cc, hv⟩ := rowA_form hs.hd; rw [clsL_len, HN.out] at hv; subst hv; replace HS := Lib.hid (HS.out.call hs); clear hs))
        obtain ⟨a1, i1, c1⟩ := int_ix (int_rd (HS.out.rd 0 rfl)) han
        obtain ⟨a2, i2, c2⟩ := int_ix (int_rd (HS.out.rd 0 rfl)) hbn
        obtain ⟨x, HXX⟩ : ∃ x, Hid ((clsL l).getD a 0 = x) := ⟨_, Lib.hid rfl⟩
        obtain ⟨y, HYY⟩ : ∃ y, Hid ((clsL l).getD b 0 = y) := ⟨_, Lib.hid rfl⟩
        rw [HXX.out] at c1 HEQ
        rw [HYY.out] at c2 HEQ
        have V1 : ∀ z : NewW w3, z.val.cell? a1 = some (.int .i64 x) := fun z => c1 _ z.property
        have V2 : ∀ z : NewW w3, z.val.cell? a2 = some (.int .i64 y) := fun z => c2 _ z.property
        have qx : (x != y) = !q := by
          rw [bne, Bool.not_inj_iff, Bool.eq_iff_iff, beq_iff_eq, HEQ.out, HSM.out]
        clear c1 c2
        go_wp2_with fail
        have hne := newW_any w3
        refine wp_region_new (New.refl w3) (by kernel_rfl) (by kernel_rfl) ?_
        repeat (go_big_quiet_step (fail))
        refine wpQuiet_nil ?_
        intro w6 hn6
        go_wp2_with fail
        go_ret
        exact ⟨rfl, HS.out.nw.trans hn6⟩
      · have HK := Lib.hid (decide_eq_false hk)
        rw [if_neg (fun e => hk e.2)]
        clear hi hk
        have B1 : Hid True := Lib.hid trivial
        have B2 : Hid True := Lib.hid trivial
        go_enter Try.func14, Try.ntmps14
        go_wp2_with (first
          | (clear B1; go_at_call 20; refine (there_any _ _ _).mono ?_; rw [HI.out]; rintro e w1 ⟨rfl, hn1⟩; replace HS := Lib.hid (HS.out.go hn1); clear hn1)
          | (clear B2; go_at_call 20; refine (there_any _ _ _).mono ?_; rw [HK.out]; rintro e w2 ⟨rfl, hn1⟩; replace HS := Lib.hid (HS.out.go hn1); clear hn1))
        go_ret
        exact ⟨rfl, HS.out.nw⟩
    · have HI := Lib.hid (decide_eq_false hi)
      rw [if_neg (fun e => hi e.1)]
      clear hi
      have A1 : Hid True := Lib.hid trivial
      go_enter Try.func14, Try.ntmps14
      go_wp2_with (clear A1; go_at_call 20; refine (there_any _ _ _).mono ?_; rw [HI.out]; rintro e w1 ⟨rfl, hn1⟩; replace HS := Lib.hid (HS.out.go hn1); clear hn1)
      go_ret
      exact ⟨rfl, HS.out.nw⟩
end Go.Proofs.Ytomclhbekmcaeaa
