/-
  Layer 12: the contracts of the reference's Table and Classes.
-/
import Derived.Test.YtomclhbekmcaeaaRefE
namespace Go.Proofs.Ytomclhbekmcaeaa
open Go.RowKit

theorem tabG_congr {n : Nat} {A B : Nat → Nat → Bool} (h : ∀ i k, i < n → k < n → A i k = B i k) : tabG n A = tabG n B := by
  unfold tabG rowG
  exact List.map_congr_left fun i hi => List.map_congr_left fun k hk => h i k (List.mem_range.mp hi) (List.mem_range.mp hk)
def updG12 (A : Nat → Nat → Bool) (i k : Nat) : Nat → Nat → Bool := fun a b => if a = i ∧ b = k then true else A a b
theorem updG12_at (A : Nat → Nat → Bool) (i k : Nat) : updG12 A i k i k = true := if_pos ⟨rfl, rfl⟩
theorem updG12_ne {A : Nat → Nat → Bool} {i k a b : Nat} (h : ¬ (a = i ∧ b = k)) : updG12 A i k a b = A a b := if_neg h
theorem tabG_upd {n : Nat} (A : Nat → Nat → Bool) {i k : Nat} (hk : k < n) : (tabG n A).set i ((rowG n A i).set k true) = tabG n (updG12 A i k) := by
  apply List.ext_getElem?
  intro a
  rw [List.getElem?_set, tabG_len]
  by_cases ha : a < n
  · rw [tabG_at _ ha, tabG_at _ ha]
    by_cases e : i = a
    · subst e
      rw [if_pos rfl, if_pos ha]
      congr 1
      apply List.ext_getElem?
      intro b
      rw [List.getElem?_set, rowG_len]
      by_cases hb : b < n
      · rw [rowG_at _ _ hb, rowG_at _ _ hb]
        by_cases e2 : k = b
        · subst e2
          rw [if_pos rfl, if_pos hk, updG12_at]
        · rw [if_neg e2, updG12_ne fun h => e2 h.2.symm]
      · rw [List.getElem?_eq_none (l := rowG n (updG12 A i k) i) (by rw [rowG_len]; omega)]
        by_cases e2 : k = b
        · omega
        · rw [if_neg e2]
          exact List.getElem?_eq_none (by rw [rowG_len]; omega)
    · rw [if_neg e]
      congr 1
      unfold rowG
      exact List.map_congr_left fun b _ => (updG12_ne fun h => e h.1.symm).symm
  · rw [List.getElem?_eq_none (l := tabG n (updG12 A i k)) (by rw [tabG_len]; omega)]
    by_cases e : i = a
    · rw [if_pos e, if_neg (by omega)]
    · rw [if_neg e]
      exact List.getElem?_eq_none (by rw [tabG_len]; omega)
theorem tabG_zero (n : Nat) : List.replicate n (List.replicate n false) = tabG n fun _ _ => false := by
  unfold tabG rowG
  rw [List.map_const', List.map_const', List.length_range]
/-! A pass over all pairs. -/
def offG (n : Nat) (A : Nat → Nat → Bool) : Nat := cntG n fun a b => !A a b
structure PassG (l : List Rw) (A : Nat → Nat → Bool) (i k : Nat) (more : Bool) (B : Nat → Nat → Bool) : Prop where
  snd : ∀ a b, Same2 l a b → B a b = false
  no : more = false → B = A ∧ ∀ a b, a < l.length → b < l.length → (a < i ∨ a = i ∧ b < k) → A a b = false → LikeW l.length (fun a b => A a b = false) (rwA l a) (rwA l b)
  yes : more = true → offG l.length B < offG l.length A
  le : offG l.length B ≤ offG l.length A
theorem passG_0 {l : List Rw} {A : Nat → Nat → Bool} (h : ∀ a b, Same2 l a b → A a b = false) : PassG l A 0 0 false A :=
  ⟨h, fun _ => ⟨rfl, fun a b _ _ h _ => by omega⟩, fun h => (by cases h), Nat.le_refl _⟩
theorem passG_keep {l : List Rw} {A B : Nat → Nat → Bool} {i k : Nat} {more : Bool} (h : PassG l A i k more B) (hB : B i k = true ∨ LikeW l.length (fun a b => B a b = false) (rwA l i) (rwA l k)) : PassG l A i (k + 1) more B := by
  refine ⟨h.snd, fun hm => ?_, h.yes, h.le⟩
  obtain ⟨e, h1⟩ := h.no hm
  refine ⟨e, fun a b ha hb hab hA => ?_⟩
  by_cases c : a = i ∧ b = k
  · obtain ⟨rfl, rfl⟩ := c
    rw [e] at hB
    rcases hB with h2 | h2
    · rw [h2] at hA
      cases hA
    · exact h2
  · exact h1 a b ha hb (by omega) hA
theorem passG_set {l : List Rw} {A B : Nat → Nat → Bool} {i k : Nat} {more : Bool} (h : PassG l A i k more B) (hi : i < l.length) (hk : k < l.length) (hB : B i k = false) (hn : ¬ LikeW l.length (fun a b => B a b = false) (rwA l i) (rwA l k)) : PassG l A i (k + 1) true (updG12 B i k) := by
  have hlt : offG l.length (updG12 B i k) < offG l.length B := by
    refine cntG_lt (fun a b _ _ e => ?_) hi hk (by rw [updG12_at]; rfl) (by rw [hB]; rfl)
    by_cases c : a = i ∧ b = k
    · obtain ⟨rfl, rfl⟩ := c
      rw [hB]
      rfl
    · rwa [updG12_ne c] at e
  refine ⟨fun a b e => ?_, (fun e => by cases e), fun _ => Nat.lt_of_lt_of_le hlt h.le, Nat.le_trans (Nat.le_of_lt hlt) h.le⟩
  by_cases c : a = i ∧ b = k
  · obtain ⟨rfl, rfl⟩ := c
    exact absurd e (tbl_step h.snd hn)
  · rw [updG12_ne c]
    exact h.snd a b e
theorem passG_row {l : List Rw} {A B : Nat → Nat → Bool} {i : Nat} {more : Bool} (h : PassG l A i l.length more B) : PassG l A (i + 1) 0 more B :=
  ⟨h.snd, fun hm => ⟨(h.no hm).1, fun a b ha hb hab => (h.no hm).2 a b ha hb (by omega)⟩, h.yes, h.le⟩
theorem passG_end {l : List Rw} {A B : Nat → Nat → Bool} (h : PassG l A l.length 0 false B) : Tbl l fun a b => !B a b := by
  obtain ⟨e, h1⟩ := h.no rfl
  subst e
  exact tbl_end h.snd fun a b ha hb => h1 a b ha hb (by omega)
theorem ixBs (b i n cap : Nat) (hi : i < n) (w : World) : (Instr.indexAt 32 (.slice (some ⟨b, 0, none⟩) n cap) (.int .i64 (i : Int))).run Try.prog w = .ok (.pointer (some ⟨b, i, none⟩)) w := by
  have := ixRow (P := Try.prog) Try.underlying32 sizeBs12 b i n cap hi w
  rwa [Nat.mul_one] at this
theorem ixBt (b i n cap : Nat) (hi : i < n) (w : World) : (Instr.indexAt 31 (.slice (some ⟨b, 0, none⟩) n cap) (.int .i64 (i : Int))).run Try.prog w = .ok (.pointer (some ⟨b, i, none⟩)) w := by
  have := ixRow (P := Try.prog) Try.underlying31 sizeBt b i n cap hi w
  rwa [Nat.mul_one] at this
set_option maxHeartbeats 16000000 in
set_option maxRecDepth 100000 in
theorem table_any (la : Option Addr) (n lc : Nat) (l : List Rw) (w : World) (hr : RowsAt w (.slice la n lc) l) (hn : n ≤ 10000) (hto : ∀ x ∈ l, x.to.length ≤ 10000) :
    Calls Try.prog 15 #[.slice la n lc] w fun e w' => ∃ v, e = .returned v ∧ Sep w w' [bitsO v (tabG n fun i k => !smB l i k)] := by
  have hl := Els.len hr
  have HX := Lib.hid hr
  have HN := Lib.hid hl
  have HTO := Lib.hid hto
  have hn2 := hn
  have HS := Lib.hid ((Sep.start w).row0 31 1 (nest bitO))
  clear hr hl hto
  go_enter Try.func15, Try.ntmps15
  go_wp2_with fail
  go_loopw [3, 4] (fun ov iv wr => ∃ (k : Nat) (vo : Value), vo = ov ∧ iv = .int .i64 (k : Int) ∧ k ≤ n ∧ Hid (Sep w wr [bitsO vo (List.replicate k (List.replicate n false))])) (fun _ iv _ => n - (intOf iv).toNat)
  case atStart => exact ⟨0, _, rfl, rfl, by omega, HS⟩
  case round =>
    obtain ⟨k, vo, rfl, rfl, hk, HT⟩ := hrel
    clear HS
    by_cases hkn : k < n
    · skip
      have A1 : Hid True := Lib.hid trivial
      have A2 : Hid True := Lib.hid trivial
      have A3 : Hid True := Lib.hid trivial
      go_wp2_with (first
        | (clear A1; at_make; refine wpList_mk1 rfl (.tmp 16) (.tmp 16) 31 4 rfl Try.underlying31 infoBt3 rfl (by decide) n rfl rfl (by omega) HT.out (E := leafE fun b => [.bool b]) (x0 := false) bits_0 ?_; intro wb gb hs; replace HT := Lib.hid hs; clear hs)
        | (clear A2; refine wpList_bsB rfl 32 31 (.tmp 17) rfl Try.underlying32 infoBs12 (by decide) (by decide) [.slice (some ⟨gb, 0, none⟩) n n] _ rfl rfl rfl HT.out ?_; intro w5 b5 hs; have HBB := Lib.hid (hs.has 0 rfl); replace HT := Lib.hid ((hs.pull 1 rfl).nest (P := bitO)); clear hs)
        | (at_builtin; clear A3; refine wpList_appI 1 rfl (.tmp 14) (.tmp 18) 32 31 rfl Try.underlying32 infoBs12 rfl (by decide) (by decide) (E := nest bitO) (y := List.replicate n false) (cs := [.slice (some ⟨gb, 0, none⟩) n n]) HT.out rfl (by rw [List.length_replicate]; omega) rfl rfl HBB.out rfl (by simp [Value.oneCell']) ?_; intro v2 w6 hs; rw [← List.replicate_succ'] at hs; replace HT := Lib.hid hs; clear hs))
      go_roundw
      case rel => exact ⟨k + 1, _, rfl, by go_num, by omega, Lib.hid HT.out.drop⟩
      case measure => simp [intOf]; omega
    · obtain rfl : k = n := by omega
      rw [tabG_zero] at HT
      obtain ⟨ta, tc, hv⟩ := rowA_form (HT.out.rd 0 rfl)
      rw [tabG_len] at hv
      subst hv
      go_wp2_with fail
      go_loopg [5] (offG k (fun _ _ => false) + 1) (fun gm mv wr => ∃ (A : Nat → Nat → Bool) (mr : Bool), mv = .bool mr ∧ gm = (if mr = true then offG k A + 1 else 0) ∧ Hid (∀ a b, Same2 l a b → A a b = false) ∧ Hid (mr = false → Tbl l fun a b => !A a b) ∧ Hid (Sep w wr [bitsO (.slice ta k tc) (tabG k A)]))
      case atStart => exact ⟨_, true, rfl, rfl, Lib.hid (fun _ _ _ => rfl), Lib.hid (fun h => by cases h), HT⟩
      case round =>
        clear HT
        obtain ⟨A, mr, rfl, hgm, HSN, HEN, HT⟩ := hrel
        cases mr with
        | false =>
          have HTT : Hid (tabG k A = tabG k fun i k => !smB l i k) := Lib.hid (tabG_congr fun a b ha hb => by
            have h1 := HEN.out rfl a b (by rw [HN.out]; exact ha) (by rw [HN.out]; exact hb)
            have h2 := smB_iff (l := l) (i := a) (k := b)
            rw [← h2, ← Bool.eq_iff_iff] at h1
            rw [← h1, Bool.not_not])
          rw [HTT.out] at HT
          clear hgm
          go_wp2_with fail
          go_ret
          exact ⟨_, rfl, HT.out⟩
        | true =>
          have HGM := Lib.hid (hgm.trans (if_pos rfl))
          have HP0 := Lib.hid (passG_0 HSN.out)
          clear hgm HEN
          go_wp2_with fail
          go_loopw [5, 6] (fun mv iv wq => ∃ (i : Nat) (more : Bool) (B : Nat → Nat → Bool), mv = .bool more ∧ iv = .int .i64 (i : Int) ∧ i ≤ k ∧ Hid (PassG l A i 0 more B) ∧ Hid (Sep w wq [bitsO (.slice ta k tc) (tabG k B)])) (fun _ iv _ => k - (intOf iv).toNat)
          case atStart => exact ⟨0, false, A, rfl, rfl, by omega, HP0, HT⟩
          case round =>
            clear HT HP0
            obtain ⟨i, more, B, rfl, rfl, hi, HPI, HU⟩ := hrel
            by_cases hin : i < k
            · go_wp2_with fail
              go_loopw [5, 7] (fun mv jv wq => ∃ (j : Nat) (more : Bool) (B : Nat → Nat → Bool), mv = .bool more ∧ jv = .int .i64 (j : Int) ∧ j ≤ k ∧ Hid (PassG l A i j more B) ∧ Hid (Sep w wq [bitsO (.slice ta k tc) (tabG k B)])) (fun _ jv _ => k - (intOf jv).toNat)
              case atStart => exact ⟨0, more, B, rfl, rfl, by omega, HPI, HU⟩
              case round =>
                clear HU HPI
                obtain ⟨j, more, B, rfl, rfl, hj, HPJ, HY⟩ := hrel
                by_cases hjn : j < k
                · obtain ⟨bx, cx, c5, hv5, _, hrg5, hs5⟩ := HY.out.openAt 0 rfl (tabG_at B hin)
                  simp only [Value.slice.injEq] at hv5
                  obtain ⟨hbx, hl5, hcx⟩ := hv5
                  subst hbx
                  subst hcx
                  clear hl5
                  obtain ⟨u58, hc5, hs6⟩ := Sep.unnest hs5
                  subst hc5
                  obtain ⟨bq, cq, c6, hv6, _⟩ := rowA_at (hs6.rd 0 rfl) (rowG_at B i hjn)
                  rw [rowG_len] at hv6
                  subst hv6
                  have HRL : Hid (j < (rowG k B i).length) := Lib.hid (by rw [rowG_len]; exact hjn)
                  have y57 := hrg5 0 _ rfl
                  rw [Nat.add_zero, Nat.mul_one] at y57
                  have y58 := leaf_at (hs6.rd 0 rfl) (rowG_at B i hjn) _ (New.refl _) 0 _ rfl
                  rw [Nat.add_zero, Nat.mul_one] at y58
                  have i1 := ixBs bx i k tc hin
                  have i2 := ixBt bq j k cq hjn
                  have H6 := Lib.hid hs6
                  clear hs5 hs6 hrg5
                  cases hb : B i j with
                  | true =>
                    rw [hb] at y58
                    have HPK := Lib.hid (passG_keep HPJ.out (.inl hb))
                    clear hb
                    go_wp2_with fail
                    go_roundw
                    case rel => exact ⟨j + 1, more, B, rfl, by go_num, by omega, HPK, HY⟩
                    case measure => simp [intOf]; omega
                  | false =>
                    rw [hb] at y58
                    by_cases hlk : LikeW k (fun a b => B a b = false) (rwA l i) (rwA l j)
                    · have HLK := Lib.hid hlk
                      have HPK := Lib.hid (passG_keep HPJ.out (.inr (by rw [HN.out]; exact hlk)))
                      clear hb hlk
                      have B1 : Hid True := Lib.hid trivial
                      go_wp2_with (clear B1; go_at_call 21; refine (now_any la k lc l (some ⟨bx, 0, none⟩) tc B i j _ (HX.out.nw HY.out.nw) (HY.out.rd 0 rfl) hin hjn hn2 HTO.out).mono ?_; rintro e w7 ⟨bb, rfl, hb, hnn⟩; obtain rfl : bb = false := hb.mpr HLK.out; replace HY := Lib.hid (HY.out.go hnn); clear hb hnn)
                      go_roundw
                      case rel => exact ⟨j + 1, more, B, rfl, by go_num, by omega, HPK, HY⟩
                      case measure => simp [intOf]; omega
                    · have HLK := Lib.hid hlk
                      have HPK := Lib.hid (passG_set HPJ.out (by rw [HN.out]; exact hin) (by rw [HN.out]; exact hjn) hb (by rw [HN.out]; exact hlk))
                      clear hb hlk
                      have C1 : Hid True := Lib.hid trivial
                      have C2 : Hid True := Lib.hid trivial
                      go_wp2_with (first
                        | (clear C1; go_at_call 21; refine (now_any la k lc l (some ⟨bx, 0, none⟩) tc B i j _ (HX.out.nw HY.out.nw) (HY.out.rd 0 rfl) hin hjn hn2 HTO.out).mono ?_; rintro e w7 ⟨bb, rfl, hb, hnn⟩; obtain rfl : bb = true := (by cases bb with | true => rfl | false => exact absurd (hb.mp rfl) HLK.out); replace HY := Lib.hid (HY.out.go hnn); replace H6 := Lib.hid (H6.out.go hnn); replace y57 := hnn.cell' y57; clear hb hnn y58)
                        | (clear C2; refine wpList_stL 0 rfl rfl 4 (.tmp 53) (.const (.bool true)) rfl bq k cq j HRL.out rfl (y := true) rfl H6.out rfl rfl rfl infoBt1 ?_; intro w8 hs; have h7 : Sep w w8 (nest bitO ((rowG k B i).set j true) [.slice (some ⟨bq, 0, none⟩) k cq] :: holeA 31 1 (nest bitO) (.slice (some ⟨bx, 0, none⟩) k tc) (tabG k B) i [.slice (some ⟨bq, 0, none⟩) k cq] :: []) := Sep.nest (P := bitO) hs; have h9 := Sep.back h7 rfl; rw [tabG_upd B hjn] at h9; replace HY := Lib.hid h9; clear h7 h9 hs y57))
                      go_roundw
                      case rel => exact ⟨j + 1, true, _, rfl, by go_num, by omega, HPK, HY⟩
                      case measure => simp [intOf]; omega
                · obtain rfl : j = k := by omega
                  have HPR := Lib.hid (by
                    have h1 := HPJ.out
                    rw [← HN.out] at h1
                    exact passG_row h1)
                  go_wp2_with fail
                  go_roundw
                  case rel => exact ⟨i + 1, more, B, rfl, by go_num, by omega, HPR, HY⟩
                  case measure => simp [intOf]; omega
            · obtain rfl : i = k := by omega
              cases more with
              | true =>
                have HLT : Hid (offG i B < offG i A) := Lib.hid (by have h1 := HPI.out.yes rfl; rwa [HN.out] at h1)
                have HSD := Lib.hid HPI.out.snd
                go_wp2_with fail
                go_roundg (offG i B + 1)
                case rel => exact ⟨B, true, rfl, rfl, HSD, Lib.hid (fun h => by cases h), HU⟩
                case measure => rw [HGM.out]; have := HLT.out; omega
              | false =>
                have HSD := Lib.hid HPI.out.snd
                have HEN : Hid (Tbl l fun a b => !B a b) := Lib.hid (by have h1 := HPI.out; rw [← HN.out] at h1; exact passG_end h1)
                go_wp2_with fail
                go_roundg 0
                case rel => exact ⟨B, false, rfl, rfl, HSD, Lib.hid (fun _ => HEN.out), HU⟩
                case measure => rw [HGM.out]; omega
end Go.Proofs.Ytomclhbekmcaeaa
