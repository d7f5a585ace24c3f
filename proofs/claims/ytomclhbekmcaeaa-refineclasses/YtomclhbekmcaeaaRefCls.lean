/-
  Layer 12: the contract of the reference's Classes.
-/
import Derived.Test.YtomclhbekmcaeaaRefF
namespace Go.Proofs.Ytomclhbekmcaeaa
open Go.RowKit

/-- The class of i, looked for from i downwards as far as j. -/
def DnR (G : Nat → Nat → Bool) (i j c : Nat) : Prop := (c = clsA G i ∧ ∃ a, j ≤ a ∧ a < i ∧ G i a = true) ∨ (c = many G i ∧ ∀ a, j ≤ a → a < i → G i a = false)
theorem dn_0 (G : Nat → Nat → Bool) (i : Nat) : DnR G i i (many G i) := .inr ⟨rfl, fun a h1 h2 => by omega⟩
theorem dn_yes {n : Nat} {G : Nat → Nat → Bool} (h : Eqv n G) {i q c : Nat} (hi : i < n) (hq : q < i) (_hd : DnR G i (q + 1) c) (hg : G i q = true) : DnR G i q (clsA G q) :=
  .inl ⟨((cls_eq h hi (by omega)).mpr hg).symm, q, Nat.le_refl _, hq, hg⟩
theorem dn_no {G : Nat → Nat → Bool} {i q c : Nat} (hd : DnR G i (q + 1) c) (hg : G i q = false) : DnR G i q c := by
  rcases hd with ⟨e, a, h1, h2, h3⟩ | ⟨e, h1⟩
  · exact .inl ⟨e, a, by omega, h2, h3⟩
  · refine .inr ⟨e, fun a h2 h3 => ?_⟩
    by_cases c : a = q
    · rw [c, hg]
    · exact h1 a (by omega) h3
theorem dn_end {n : Nat} {G : Nat → Nat → Bool} (h : Eqv n G) {i c : Nat} (hi : i < n) (hd : DnR G i 0 c) : c = clsA G i ∧ ((c = many G i ∧ many G (i + 1) = many G i + 1) ∨ (c ≠ many G i ∧ many G (i + 1) = many G i)) := by
  have hle := frst_le G i
  rcases hd with ⟨e, a, _, h2, h3⟩ | ⟨e, h1⟩
  · have hlt : frst G i < i := by
      rcases Nat.lt_or_ge (frst G i) i with h4 | h4
      · exact h4
      · have := frst_min (G := G) (i := i) (k := a) (by omega)
        rw [h3] at this
        cases this
    refine ⟨e, .inr ⟨?_, by rw [many, if_neg (by omega), Nat.add_zero]⟩⟩
    have h5 := many_lt hlt (frst_frst h hi)
    rw [e]
    unfold clsA
    omega
  · have hf : frst G i = i := by
      by_cases h4 : frst G i = i
      · exact h4
      · have := frst_in h hi
        rw [h1 _ (Nat.zero_le _) (by omega)] at this
        cases this
    refine ⟨by unfold clsA; rw [hf, e], .inl ⟨e, by rw [many, if_pos hf]⟩⟩
theorem clsI_more (G : Nat → Nat → Bool) (i : Nat) : clsI i G ++ [((clsA G i : Nat) : Int)] = clsI (i + 1) G := by
  unfold clsI
  rw [List.range_succ, List.map_append]
  rfl
set_option maxHeartbeats 16000000 in
set_option maxRecDepth 100000 in
theorem refClasses_any (la : Option Addr) (n lc : Nat) (l : List Rw) (w : World) (hr : RowsAt w (.slice la n lc) l) (hn : n ≤ 10000) (hto : ∀ x ∈ l, x.to.length ≤ 10000) :
    Calls Try.prog 12 #[.slice la n lc] w fun e w' => ∃ v, e = .returned v ∧ Sep w w' [intO v (clsL l)] := by
  have hl := Els.len hr
  have HX := Lib.hid hr
  have HN := Lib.hid hl
  have HTO := Lib.hid hto
  have hn2 := hn
  have HEQ : Hid (Eqv n (smB l)) := Lib.hid (by rw [← hl]; exact tbl_eqv (smB_tbl l))
  have HS := Lib.hid (Sep.start w)
  clear hr hl hto
  have T1 : Hid True := Lib.hid trivial
  go_enter Try.func12, Try.ntmps12
  go_wp2_with (clear T1; go_at_call 15; refine (table_any la n lc l _ (HX.out.nw HS.out.nw) hn2 HTO.out).mono ?_; rintro e w1 ⟨v, rfl, hs⟩; obtain ⟨ta, tc, hv⟩ := rowA_form hs.hd; rw [tabG_len] at hv; subst hv; replace HS := Lib.hid (HS.out.call hs); clear hs)
  replace HS := Lib.hid (HS.out.row0 3 1 (leafE fun a => [.int .i64 a]))
  go_loopw [4, 5, 6] (fun ov mv iv wr => ∃ (i : Nat) (vo : Value), vo = ov ∧ mv = .int .i64 ((many (smB l) i : Nat) : Int) ∧ iv = .int .i64 (i : Int) ∧ i ≤ n ∧ Hid (Sep w wr [intO vo (clsI i (smB l)), bitsO (.slice ta n tc) (tabG n fun i k => !smB l i k)])) (fun _ _ iv _ => n - (intOf iv).toNat)
  case atStart => exact ⟨0, _, rfl, rfl, rfl, by omega, HS⟩
  case round =>
    obtain ⟨i, vo, rfl, rfl, rfl, hi, HT⟩ := hrel
    clear HS
    by_cases hin : i < n
    · obtain ⟨mm, HMM⟩ : ∃ mm, Hid (many (smB l) i = mm) := ⟨_, Lib.hid rfl⟩
      have hmm : mm ≤ i := by rw [← HMM.out]; exact many_le _ _
      have HD0 := Lib.hid (dn_0 (smB l) i)
      rw [HMM.out] at HD0 ⊢
      obtain ⟨oa, oc, hvo⟩ := rowA_form (HT.out.rd 0 rfl)
      rw [clsI_len] at hvo
      subst hvo
      go_wp2_with fail
      go_loopw [7, 8] (fun cv kv wq => ∃ (j c : Nat), cv = .int .i64 (c : Int) ∧ kv = .int .i64 ((j : Int) - 1) ∧ j ≤ i ∧ Hid (DnR (smB l) i j c) ∧ Hid (Sep w wq [intO (.slice oa i oc) (clsI i (smB l)), bitsO (.slice ta n tc) (tabG n fun i k => !smB l i k)])) (fun _ kv _ => (intOf kv + 1).toNat)
      case atStart => exact ⟨i, mm, rfl, rfl, Nat.le_refl _, HD0, HT⟩
      case round =>
        clear HT HD0
        obtain ⟨j, cc, rfl, hkv, hj, HD, HT⟩ := hrel
        cases j with
        | zero =>
          rw [show ((0 : Nat) : Int) - 1 = -1 from rfl] at hkv
          subst hkv
          have hde := dn_end HEQ.out hin HD.out
          have HCM : Hid (clsI i (smB l) ++ [(cc : Int)] = clsI (i + 1) (smB l)) := Lib.hid (by rw [hde.1]; exact clsI_more _ _)
          rw [HMM.out] at hde
          obtain ⟨_, ⟨h1, h2⟩ | ⟨h1, h2⟩⟩ := hde
          · have q0 : ((cc : Int) == (mm : Int)) = true := beq_of (by rw [h1])
            have HMN : Hid (((many (smB l) (i + 1) : Nat) : Int) = (mm : Int) + 1) := Lib.hid (by rw [h2]; rfl)
            clear h1 h2
            have A1 : Hid True := Lib.hid trivial
            have A2 : Hid True := Lib.hid trivial
            go_wp2_with (first
              | (clear A1; refine wpList_bsB rfl 25 3 (.tmp 42) rfl Try.underlying25 infoInt3 (by decide) (by decide) [.int .i64 (cc : Int)] _ rfl rfl rfl HT.out ?_; intro w5 b5 hs; replace HT := Lib.hid hs; clear hs)
              | (at_builtin; clear A2; refine wpList_appL 1 rfl (.tmp 41) (.tmp 43) 25 3 rfl Try.underlying25 infoInt3 rfl (by decide) (by decide) (mk := fun a => [.int .i64 a]) (y := (cc : Int)) HT.out rfl (by rw [clsI_len]; omega) rfl rfl (HT.out.has 0 rfl) rfl (by simp [Value.oneCell']) ?_; intro v2 w6 hs; have hs2 : Sep w w6 [blk b5 3 [.int .i64 (cc : Int)], intO v2 (clsI i (smB l) ++ [(cc : Int)]), bitsO (.slice ta n tc) (tabG n fun i k => !smB l i k)] := hs; rw [HCM.out] at hs2; replace HT := Lib.hid hs2; clear hs hs2))
            go_roundw
            case rel => exact ⟨i + 1, _, rfl, by rw [HMN.out], by go_num, by omega, Lib.hid HT.out.drop⟩
            case measure => simp [intOf]; omega
          · have q0 : ((cc : Int) == (mm : Int)) = false := bneq_of (by omega)
            have HMN : Hid (((many (smB l) (i + 1) : Nat) : Int) = (mm : Int)) := Lib.hid (by rw [h2])
            clear h1 h2
            have A1 : Hid True := Lib.hid trivial
            have A2 : Hid True := Lib.hid trivial
            go_wp2_with (first
              | (clear A1; refine wpList_bsB rfl 25 3 (.tmp 42) rfl Try.underlying25 infoInt3 (by decide) (by decide) [.int .i64 (cc : Int)] _ rfl rfl rfl HT.out ?_; intro w5 b5 hs; replace HT := Lib.hid hs; clear hs)
              | (at_builtin; clear A2; refine wpList_appL 1 rfl (.tmp 41) (.tmp 43) 25 3 rfl Try.underlying25 infoInt3 rfl (by decide) (by decide) (mk := fun a => [.int .i64 a]) (y := (cc : Int)) HT.out rfl (by rw [clsI_len]; omega) rfl rfl (HT.out.has 0 rfl) rfl (by simp [Value.oneCell']) ?_; intro v2 w6 hs; have hs2 : Sep w w6 [blk b5 3 [.int .i64 (cc : Int)], intO v2 (clsI i (smB l) ++ [(cc : Int)]), bitsO (.slice ta n tc) (tabG n fun i k => !smB l i k)] := hs; rw [HCM.out] at hs2; replace HT := Lib.hid hs2; clear hs hs2))
            go_roundw
            case rel => exact ⟨i + 1, _, rfl, by rw [HMN.out], by go_num, by omega, Lib.hid HT.out.drop⟩
            case measure => simp [intOf]; omega
        | succ q =>
          rw [show ((q + 1 : Nat) : Int) - 1 = (q : Int) by omega] at hkv
          subst hkv
          have hqi : q < i := by omega
          obtain ⟨c1, p1, xa, xc, c2, p2, i5, r5, i6, r6⟩ := tabG_ix (HT.out.rd 1 rfl) hin (show q < n by omega)
          have y1 := r5 _ (New.refl _)
          have y2 := r6 _ (New.refl _)
          clear r5 r6
          cases hg : smB l i q with
          | true =>
            rw [hg, Bool.not_true] at y2
            have HD2 := Lib.hid (dn_yes HEQ.out hin hqi HD.out hg)
            obtain ⟨ad, i7, r7⟩ := int_ix (int_rd (HT.out.rd 0 rfl)) hqi
            rw [clsI_get _ hqi] at r7
            have y3 := r7 _ (New.refl _)
            obtain ⟨c9, HC9⟩ : ∃ c9, Hid (clsA (smB l) q = c9) := ⟨_, Lib.hid rfl⟩
            rw [HC9.out] at y3 HD2
            clear hg r7
            go_wp2_with fail
            go_roundw
            case rel => exact ⟨q, c9, rfl, rfl, by omega, HD2, HT⟩
            case measure => simp [intOf]
          | false =>
            rw [hg, Bool.not_false] at y2
            have HD2 := Lib.hid (dn_no HD.out hg)
            clear hg
            go_wp2_with fail
            go_roundw
            case rel => exact ⟨q, cc, rfl, rfl, by omega, HD2, HT⟩
            case measure => simp [intOf]
    · obtain rfl : i = n := by omega
      have HCL : Hid (clsI i (smB l) = clsL l) := Lib.hid (by unfold clsL; rw [HN.out])
      rw [HCL.out] at HT
      go_wp2_with fail
      go_ret
      exact ⟨_, rfl, HT.out.dropAt 1 (by simp)⟩
end Go.Proofs.Ytomclhbekmcaeaa
