/-
  Layer 7's reference: Same, of states that are alike.
-/
import Derived.Test.YtlmnodbhfpgplaaGreatDoorStepF0
namespace Go.Proofs.YtlmnodbhfpgplaaGreatDoor
open Go.RowKit

set_option maxHeartbeats 4000000 in
set_option maxRecDepth 100000 in
theorem refSame_any (l l2 : Ws) (hl : ∀ i < 24, l i = l2 i) (zs : List Int) (p q : Int) (a s b r : Sl) (w : World) (h1 : WsAt w a l) (h2 : WsAt w b l2) (h3 : Hp w (.slice s.ao s.n s.c) zs) (h4 : Hp w (.slice r.ao r.n r.c) zs) (hz : zs.length ≤ 1000) :
    Calls Tryz.prog 12 #[.agg (refC a s p q).toArray, .agg (refC b r p q).toArray] w fun e w' => e = .returned (.bool true) ∧ New w w' := by
  have ha := h1.n
  have hb := h2.n
  obtain ⟨a1, a2, a3⟩ := a
  obtain ⟨b1, b2, b3⟩ := b
  have ha' : a2 = 24 := ha
  have hb' : b2 = 24 := hb
  subst ha' hb'
  have H1 := Lib.hid h1
  have H2 := Lib.hid h2
  have H3 := Lib.hid h3
  have H4 := Lib.hid h4
  have HZ := Lib.hid hz
  have HL := Lib.hid hl
  clear h1 h2 h3 h4 hz hl ha hb
  go_enter Tryz.func12, Tryz.ntmps12
  go_wp2_with (first
    | (refine wpList_boxX rfl 44 (.tmp 0) rfl (refC ⟨a1, 24, a3⟩ s p q) rfl ?_; intro w1 g2 hg2 hl2 A2 hn1; have HA := Lib.hid A2; clear A2)
    | (refine wpList_boxX rfl 44 (.tmp 1) rfl (refC ⟨b1, 24, b3⟩ r p q) rfl ?_; intro w2 g3 hg3 hl3 A3 hn2; have HB : Hid (HasRf w2 g3 ⟨b1, 24, b3⟩ r p q) := Lib.hid A3; replace HA : Hid (HasRf w2 g2 ⟨a1, 24, a3⟩ s p q) := Lib.hid (HasC.new HA.out hn2); have k0 := HasRf.l HA.out; have k2 := HasRf.at HA.out; have k3 := HasRf.ask HA.out; have j0 := HasRf.l HB.out; have j2 := HasRf.at HB.out; have j3 := HasRf.ask HB.out; clear A3))
  have HN := Lib.hid (hn1.trans hn2)
  clear hn1 hn2 hg2 hg3 hl2 hl3
  go_loopw [5] (fun kv wr => ∃ k : Nat, kv = .int .i64 k ∧ k ≤ 24 ∧ Hid (New w2 wr)) (fun kv _ => 24 - (intOf kv).toNat)
  case atStart => exact ⟨0, rfl, by omega, Lib.hid (New.refl _)⟩
  case round =>
    obtain ⟨k, rfl, hk, HR⟩ := hrel
    have y0 := HasRf.l (HasC.new HA.out HR.out)
    have y1 := HasRf.hp (HasC.new HA.out HR.out)
    have y2 := HasRf.hp (HasC.new HB.out HR.out)
    by_cases hk24 : k < 24
    · obtain ⟨b, ofs, hix, hrg⟩ := ElAt.ix (show ElAt w (.slice a1 24 a3) 24 (fun i => wcells (l i)) from H1.out) 42 Tryz.underlying42 sizeWd hk24
      obtain ⟨b', ofs', hix', hrg'⟩ := ElAt.ix (show ElAt w (.slice b1 24 b3) 24 (fun i => wcells (l2 i)) from H2.out) 42 Tryz.underlying42 sizeWd hk24
      have hk24' : (k : Int) < 24 := by omega
      have hne := newW_any wr
      have R1 : Hid (∀ w', New wr w' → w'.rangeAt b ofs (wcells (l k))) := Lib.hid (fun w' h => hrg w' ((HN.out.trans HR.out).trans h))
      have R2 : Hid (∀ w', New wr w' → w'.rangeAt b' ofs' (wcells (l k))) := Lib.hid (fun w' h => by rw [HL.out k hk24]; exact hrg' w' ((HN.out.trans HR.out).trans h))
      have z0 : ∀ y : NewW wr, y.val.cell? ⟨g2, 0, none⟩ = some (.slice a1 24 a3) := fun y => HasRf.l (HasC.new HA.out (HR.out.trans y.property))
      have z1 : ∀ y : NewW wr, y.val.cell? ⟨g3, 0, none⟩ = some (.slice b1 24 b3) := fun y => HasRf.l (HasC.new HB.out (HR.out.trans y.property))
      have hq := run_neqW (l k)
      clear hrg hrg'
      go_wp2_with fail
      refine wp_region_new (New.refl wr) (by kernel_rfl) (by kernel_rfl) ?_
      repeat (first
        | (refine wpQuiet_ldWm rfl (.tmp 37) rfl b ofs rfl (x := l k) (by rintro w' ⟨y, rfl⟩; exact R1.out _ y.property) ?_; simp only [Act.put, List.setIfInBounds_toArray, List.set_cons_zero, List.set_cons_succ])
        | (refine wpQuiet_ldWm rfl (.tmp 42) rfl b' ofs' rfl (x := l k) (by rintro w' ⟨y, rfl⟩; exact R2.out _ y.property) ?_; simp only [Act.put, List.setIfInBounds_toArray, List.set_cons_zero, List.set_cons_succ])
        | go_big_quiet_step (first | fail))
      refine wpQuiet_nil ?_
      intro w5 hn5
      go_wp2
      go_roundw
      case rel => exact ⟨k + 1, by go_num, hk24, Lib.hid (HR.out.trans hn5)⟩
      case measure => simp [intOf]; omega
    · obtain rfl : k = 24 := by omega
      go_wp2_with (first
        | (go_at_call 31; refine (rsame_is (H3.out.new (HN.out.trans HR.out)) (H4.out.new (HN.out.trans HR.out)) HZ.out (eqB_refl zs)).mono ?_; rintro e w5 ⟨rfl, hn5⟩))
      go_ret
      exact ⟨rfl, (HN.out.trans HR.out).trans hn5⟩
end Go.Proofs.YtlmnodbhfpgplaaGreatDoor
