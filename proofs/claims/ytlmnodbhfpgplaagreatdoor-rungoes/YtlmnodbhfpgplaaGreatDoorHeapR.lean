/-
  The reference's Load and Store of layer 6.
-/
import Derived.Test.YtlmnodbhfpgplaaGreatDoorHeapAll
namespace Go.Proofs.YtlmnodbhfpgplaaGreatDoor
open Go.RowKit

set_option maxHeartbeats 2000000 in
theorem rload_in (zs : List Int) (a : Int) (ao : Option Addr) (n cap : Nat) (w : World) (h : Hp w (.slice ao n cap) zs) :
    Calls Tryz.prog 57 #[.slice ao n cap, .int .i64 a] w fun e w' => e = .returned (.tuple #[.int .i64 (hpLd zs a), .int .i64 (hpHow zs a)]) ∧ w' = w := by
  have HP := Lib.hid h
  have HL := Lib.hid h.len
  clear h
  by_cases h16 : n ≤ 16
  · have c16 : (n : Int) ≤ 16 := by omega
    go_enter Tryz.func57, Tryz.ntmps57
    go_wp2
    go_loop [6] (fun kv => ∃ k : Nat, kv = .int .i64 k ∧ k ≤ n ∧ Hid (∀ j : Nat, j < k → (j : Int) ≠ a)) (fun kv => n - (intOf kv).toNat)
    case atStart => exact ⟨0, rfl, by omega, Lib.hid (fun j hj => by omega)⟩
    case round =>
      obtain ⟨k, rfl, hk, HB⟩ := hrel
      by_cases hlt : k < n
      · have hlt' : (k : Int) < (n : Int) := by omega
        by_cases he : (k : Int) = a
        · have q := beq_of he
          have hin : inB zs a = true := by rw [← he]; exact inB_mk (by have := HL.out; omega) (by have := HL.out; omega)
          obtain ⟨p, y, e, hx, hc⟩ := Hp.ix HP.out (i := k) (by have := HL.out; omega)
          have hcell := hc w (New.refl w)
          have HE : Hid (y = hpLd zs a) := Lib.hid (by
            have := hpLd_in hin
            rw [show a.toNat = k by omega, e] at this
            exact Option.some.inj this)
          have HH := Lib.hid (hpHow_in hin)
          clear he hin e hc
          go_wp2
          go_ret2
          exact ⟨ret_pair HE.out HH.out.symm, rfl⟩
        · have q := bneq_of he
          have HE := Lib.hid he
          clear he
          go_wp2
          go_round
          case rel => exact ⟨k + 1, by go_num, hlt, Lib.hid (fun j hj => by
            by_cases e : j = k
            · subst e; exact HE.out
            · exact HB.out j (by omega))⟩
          case measure => simp [intOf]; omega
      · have hlt' : ¬ (k : Int) < (n : Int) := by omega
        have hin : inB zs a = false := inB_none fun j hj => HB.out j (by have := HL.out; omega)
        have HE := Lib.hid (hpLd_out hin)
        have HH := Lib.hid (hpHow_out hin)
        clear hin
        go_wp2
        go_ret2
        exact ⟨ret_pair HE.out.symm HH.out.symm, rfl⟩
  · have c16 : ¬ (n : Int) ≤ 16 := by omega
    have hin : inB zs a = false := inB_big a (by have := HL.out; omega)
    have HE := Lib.hid (hpLd_out hin)
    have HH := Lib.hid (hpHow_out hin)
    clear hin
    go_enter Tryz.func57, Tryz.ntmps57
    go_wp2
    go_ret2
    exact ⟨ret_pair HE.out.symm HH.out.symm, rfl⟩
theorem rload_is {zs : List Int} {a : Int} {v : Value} {w : World} (h : Hp w v zs) {x q : Int} (hx : hpLd zs a = x) (hq : hpHow zs a = q) :
    Calls Tryz.prog 57 #[v, .int .i64 a] w fun e w' => e = .returned (.tuple #[.int .i64 x, .int .i64 q]) ∧ w' = w := by
  obtain ⟨ao, cap, rfl⟩ := h.form
  have := rload_in zs a ao _ cap w h
  rwa [hx, hq] at this

theorem own_fresh {w : World} {base n : Nat} {v : Value} {ys : List Int} (h : w.ownsRow base 2 1 v n (ys.map (Value.int .i64))) : Fresh base v ys := by
  obtain ⟨hl, h | ⟨g, cap, cur, rfl, hb, _⟩⟩ := h
  · obtain ⟨rfl, rfl⟩ := h
    left
    apply List.eq_nil_of_length_eq_zero
    simpa using hl
  · exact .inr ⟨g, 0, _, _, rfl, hb⟩
set_option maxHeartbeats 2000000 in
set_option maxRecDepth 100000 in
theorem rstore_in (zs : List Int) (a x : Int) (ao : Option Addr) (n cap : Nat) (w : World) (h : Hp w (.slice ao n cap) zs) :
    Calls Tryz.prog 55 #[.slice ao n cap, .int .i64 a, .int .i64 x] w fun e w' => ∃ v, e = .returned (.tuple #[v, .int .i64 (hpHow zs a)]) ∧ Hp w' v (hpSt zs a x) ∧ New w w' ∧ Fresh w.heap.size v (hpSt zs a x) := by
  have HP := Lib.hid h
  have HL := Lib.hid h.len
  clear h
  cases hi : inB zs a with
  | true =>
    obtain ⟨h16, hka, hkl⟩ := inB_nat hi
    obtain ⟨i0, hi0, hz0, hz1, hz2⟩ := info_parts info64
    have HI0 := Lib.hid hi0
    have HZ0 := Lib.hid hz0
    have HZ1 := Lib.hid hz1
    have HZ2 := Lib.hid hz2
    have n16 : n ≤ 16 := by rw [HL.out]; exact h16
    have HE : Hid (hpSt zs a x = zs.set a.toNat x) := Lib.hid (hpSt_in x hi)
    have HW : Hid (hpHow zs a = 0) := Lib.hid (hpHow_in hi)
    have HKA := Lib.hid hka
    have HKL := Lib.hid hkl
    clear h16 hka hkl hi hi0 hz0 hz1 hz2
    go_enter Tryz.func55, Tryz.ntmps55
    go_wp2_with (go_at_call 57; refine (rload_is HP.out rfl HW.out).mono ?_; rintro e w1 ⟨rfl, rfl⟩)
    go_loopw [10, 11] (fun v kv wr => ∃ k : Nat, kv = .int .i64 k ∧ k ≤ n ∧ Hid (New w1 wr) ∧ Hid (wr.ownsRow w1.heap.size 2 1 v k (((hpSt zs a x).take k).map (Value.int .i64)))) (fun v kv wr => n - (intOf kv).toNat)
    case atStart => exact ⟨0, rfl, by omega, Lib.hid (New.refl _), Lib.hid (World.ownsRow_nil _ _ _ _)⟩
    case round =>
      obtain ⟨k, rfl, hk, HN, HO⟩ := hrel
      by_cases hlt : k < n
      · have hlt' : (k : Int) < (n : Int) := by omega
        have hsz := HN.out.size
        by_cases he : (k : Int) = a
        · have q := beq_of he
          have HT : Hid ((hpSt zs a x)[k]? = some x) := Lib.hid (by rw [HE.out, show a.toNat = k by omega, List.getElem?_set_self (by have := HL.out; omega)])
          clear he
          go_wp2_with (at_builtin; refine wpList_append_own _ rfl (.tmp 30) (.tmp 32) 24 rfl w1.heap.size 2 i0 (.int .i64 0) 1 8 Tryz.underlying24 HI0.out HZ0.out HZ1.out HZ2.out rfl (by decide) _ _ _ rfl (HO.out.alloc _) ⟨wr.heap.size, 0, none⟩ 1 1 [.int .i64 x] rfl rfl (one_new _ _ _) (by intro u hu; simp at hu; subst hu; rfl) (by unfold maxLen; omega) (by omega) (by rw [alloc_size]; omega) ?_; intro v' w2 hown' hgrow hnil; have HO2 := Lib.hid (take_one HT.out ▸ hown'); have HN2 := Lib.hid (own_new HN.out (owns_row HO.out) hgrow); clear hown' hgrow hnil)
          go_roundw
          case rel => exact ⟨k + 1, by go_num, hlt, HN2, HO2⟩
          case measure => simp [intOf]; omega
        · have q := bneq_of he
          obtain ⟨p, y, e, hx, hc⟩ := Hp.ix HP.out (i := k) (by have := HL.out; omega)
          have hcell := hc wr HN.out
          have HT : Hid ((hpSt zs a x)[k]? = some y) := Lib.hid (by rw [HE.out, List.getElem?_set_ne (by have := HKA.out; omega), e])
          clear he e hc
          go_wp2_with (at_builtin; refine wpList_append_own _ rfl (.tmp 34) (.tmp 39) 24 rfl w1.heap.size 2 i0 (.int .i64 0) 1 8 Tryz.underlying24 HI0.out HZ0.out HZ1.out HZ2.out rfl (by decide) _ _ _ rfl (HO.out.alloc _) ⟨wr.heap.size, 0, none⟩ 1 1 [.int .i64 y] rfl rfl (one_new _ _ _) (by intro u hu; simp at hu; subst hu; rfl) (by unfold maxLen; omega) (by omega) (by rw [alloc_size]; omega) ?_; intro v' w2 hown' hgrow hnil; have HO2 := Lib.hid (take_one HT.out ▸ hown'); have HN2 := Lib.hid (own_new HN.out (owns_row HO.out) hgrow); clear hown' hgrow hnil)
          go_roundw
          case rel => exact ⟨k + 1, by go_num, hlt, HN2, HO2⟩
          case measure => simp [intOf]; omega
      · have hlt' : ¬ (k : Int) < (n : Int) := by omega
        go_wp2
        go_ret2
        have := HO.out
        rw [List.take_of_length_le (by rw [HE.out, List.length_set, ← HL.out]; omega)] at this
        exact ⟨_, ret_vi HW.out.symm, own_hp this, HN.out, own_fresh this⟩
  | false =>
    have HE := Lib.hid (hpSt_out x hi)
    have HH := Lib.hid (hpHow_out hi)
    clear hi
    go_enter Tryz.func55, Tryz.ntmps55
    go_wp2_with (go_at_call 57; refine (rload_is HP.out rfl HH.out).mono ?_; rintro e w1 ⟨rfl, rfl⟩)
    go_ret2
    exact ⟨_, ret_vi HH.out.symm, by rw [HE.out]; exact Hp.nil _, New.refl _, .inl HE.out⟩
theorem rstore_is {zs : List Int} {a x : Int} {v : Value} {w : World} (h : Hp w v zs) {m : Nat} {q : Int} (hm : (hpSt zs a x).length = m) (hq : hpHow zs a = q) :
    Calls Tryz.prog 55 #[v, .int .i64 a, .int .i64 x] w fun e w' => ∃ ao cap, e = .returned (.tuple #[.slice ao m cap, .int .i64 q]) ∧ Hp w' (.slice ao m cap) (hpSt zs a x) ∧ New w w' := by
  obtain ⟨ao, cap, rfl⟩ := h.form
  refine (rstore_in zs a x ao _ cap w h).mono ?_
  rintro e w' ⟨v', rfl, hp, hn, _⟩
  obtain ⟨bo, dap, rfl⟩ := hp.form
  rw [hm] at hp ⊢
  exact ⟨bo, dap, ret_vi hq, hp, hn⟩
theorem rstore_fr {zs : List Int} {a x : Int} {v : Value} {w : World} (h : Hp w v zs) {m : Nat} {q : Int} (hm : (hpSt zs a x).length = m) (hq : hpHow zs a = q) :
    Calls Tryz.prog 55 #[v, .int .i64 a, .int .i64 x] w fun e w' => ∃ ao cap, e = .returned (.tuple #[.slice ao m cap, .int .i64 q]) ∧ Hp w' (.slice ao m cap) (hpSt zs a x) ∧ New w w' ∧ Fresh w.heap.size (.slice ao m cap) (hpSt zs a x) := by
  obtain ⟨ao, cap, rfl⟩ := h.form
  refine (rstore_in zs a x ao _ cap w h).mono ?_
  rintro e w' ⟨v', rfl, hp, hn, hf⟩
  obtain ⟨bo, dap, rfl⟩ := hp.form
  rw [hm] at hp hf ⊢
  exact ⟨bo, dap, ret_vi hq, hp, hn, hf⟩
end Go.Proofs.YtlmnodbhfpgplaaGreatDoor
