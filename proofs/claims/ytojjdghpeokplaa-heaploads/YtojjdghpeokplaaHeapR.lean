/-
  The contracts of the reference's Load, Store and Same of layer 6: the same answers, for every row of numbers.
-/
import Derived.Test.YtojjdghpeokplaaHeapB
import Derived.Test.YtojjdghpeokplaaHeapC
namespace Go.Proofs.Ytojjdghpeokplaa
open Go.RowKit

set_option maxHeartbeats 2000000 in
theorem rload_in (zs : List Int) (a : Int) (ao : Option Addr) (n cap : Nat) (w : World) (h : Hp w (.slice ao n cap) zs) :
    Calls Try.prog 11 #[.slice ao n cap, .int .i64 a] w fun e w' => e = .returned (.tuple #[.int .i64 (hpLd zs a), .int .i64 (hpHow zs a)]) ∧ w' = w := by
  have HP := Lib.hid h
  have HL := Lib.hid h.len
  clear h
  by_cases h16 : n ≤ 16
  · have c16 : (n : Int) ≤ 16 := by omega
    go_enter Try.func11, Try.ntmps11
    go_wp2
    go_loop [6] (fun kv => ∃ k : Nat, kv = .int .i64 k ∧ k ≤ n ∧ Hid (∀ j : Nat, j < k → (j : Int) ≠ a)) (fun kv => n - (intOf kv).toNat)
    case atStart => exact ⟨0, rfl, by omega, Lib.hid (fun j hj => by omega)⟩
    case round =>
      obtain ⟨k, rfl, hk, HB⟩ := hrel
      by_cases hlt : k < n
      · have hlt' : (k : Int) < (n : Int) := by omega
        by_cases he : (k : Int) = a
        · have q := beq_of he
          have hin : inB zs a = true := by rw [← he]; exact inB_mk (by have := HL.out; omega) (by have := HL.out; omega)
          obtain ⟨p, y, e, hx, hc⟩ := Hp.ix HP.out (i := k) (by have := HL.out; omega)
          have hcell := hc w (New.refl w)
          have HE : Hid (y = hpLd zs a) := Lib.hid (by
            have := hpLd_in hin
            rw [show a.toNat = k by omega, e] at this
            exact Option.some.inj this)
          have HH := Lib.hid (hpHow_in hin)
          clear he hin e hc
          go_wp2
          go_ret2
          exact ⟨ret_pair HE.out HH.out.symm, rfl⟩
        · have q := bneq_of he
          have HE := Lib.hid he
          clear he
          go_wp2
          go_round
          case rel => exact ⟨k + 1, by go_num, hlt, Lib.hid (fun j hj => by
            by_cases e : j = k
            · subst e; exact HE.out
            · exact HB.out j (by omega))⟩
          case measure => simp [intOf]; omega
      · have hlt' : ¬ (k : Int) < (n : Int) := by omega
        have hin : inB zs a = false := inB_none fun j hj => HB.out j (by have := HL.out; omega)
        have HE := Lib.hid (hpLd_out hin)
        have HH := Lib.hid (hpHow_out hin)
        clear hin
        go_wp2
        go_ret2
        exact ⟨ret_pair HE.out.symm HH.out.symm, rfl⟩
  · have c16 : ¬ (n : Int) ≤ 16 := by omega
    have hin : inB zs a = false := inB_big a (by have := HL.out; omega)
    have HE := Lib.hid (hpLd_out hin)
    have HH := Lib.hid (hpHow_out hin)
    clear hin
    go_enter Try.func11, Try.ntmps11
    go_wp2
    go_ret2
    exact ⟨ret_pair HE.out.symm HH.out.symm, rfl⟩
theorem rload_is {zs : List Int} {a : Int} {v : Value} {w : World} (h : Hp w v zs) {x q : Int} (hx : hpLd zs a = x) (hq : hpHow zs a = q) :
    Calls Try.prog 11 #[v, .int .i64 a] w fun e w' => e = .returned (.tuple #[.int .i64 x, .int .i64 q]) ∧ w' = w := by
  obtain ⟨ao, cap, rfl⟩ := h.form
  have := rload_in zs a ao _ cap w h
  rwa [hx, hq] at this

set_option maxHeartbeats 2000000 in
theorem rsame_in (xs ys : List Int) (ao bo : Option Addr) (n m cap dap : Nat) (w : World) (h1 : Hp w (.slice ao n cap) xs) (h2 : Hp w (.slice bo m dap) ys) (hb : n ≤ 1000) :
    Calls Try.prog 14 #[.slice ao n cap, .slice bo m dap] w fun e w' => e = .returned (.bool (eqB xs ys)) ∧ New w w' := by
  have HK := Lib.hid h1
  have HM := Lib.hid h2
  have HL1 := Lib.hid h1.len
  have HL2 := Lib.hid h2.len
  clear h1 h2
  go_enter Try.func14, Try.ntmps14
  go_wp2
  go_loopw [5] (fun kv wr => ∃ k : Nat, kv = .int .i64 k ∧ k ≤ n ∧ k ≤ m ∧ Hid (New w wr) ∧ Hid (∀ j : Nat, j < k → xs[j]? = ys[j]?)) (fun kv wr => n - (intOf kv).toNat)
  case atStart => exact ⟨0, rfl, by omega, by omega, Lib.hid (New.refl w), Lib.hid (fun j hj => by omega)⟩
  case round =>
    obtain ⟨k, rfl, hk, hk2, HN, HB⟩ := hrel
    by_cases hlt : k < n
    · have hlt' : (k : Int) < (n : Int) := by omega
      by_cases hlm : k < m
      · have hlm' : (k : Int) < (m : Int) := by omega
        have hne := newW_any wr
        obtain ⟨a1, x, e1, x1, c1⟩ := (HK.out.new HN.out).ixW hlt
        obtain ⟨a2, y, e2, x2, c2⟩ := (HM.out.new HN.out).ixW hlm
        have E1 := Lib.hid e1
        have E2 := Lib.hid e2
        clear e1 e2
        by_cases hxy : x = y
        · subst hxy
          go_wp2_with fail
          refine wp_region_new (New.refl wr) (by kernel_rfl) (by kernel_rfl) ?_
          repeat (go_big_quiet_step (first | fail))
          refine wpQuiet_nil ?_
          intro w5 hn5
          go_wp2
          go_roundw
          case rel => exact ⟨k + 1, by go_num, hlt, hlm, Lib.hid (HN.out.trans hn5), Lib.hid (agree_step HB.out E1.out E2.out)⟩
          case measure => simp [intOf]; omega
        · have q : (x != y) = true := by simp [hxy]
          have HE : Hid (eqB xs ys = false) := Lib.hid (eqB_at E1.out E2.out hxy)
          clear hxy
          go_wp2_with fail
          refine wp_region_new (New.refl wr) (by kernel_rfl) (by kernel_rfl) ?_
          repeat (go_big_quiet_step (first | fail))
          refine wpQuiet_nil ?_
          intro w5 hn5
          go_wp2
          go_ret
          exact ⟨ret_b HE.out.symm, HN.out.trans hn5⟩
      · have hlm' : ¬ (k : Int) < (m : Int) := by omega
        have q : ((n : Int) == (m : Int)) = false := bneq_of (by omega)
        have HE : Hid (eqB xs ys = false) := Lib.hid (eqB_len (by rw [← HL1.out, ← HL2.out]; omega))
        go_wp2
        go_ret
        exact ⟨ret_b HE.out.symm, HN.out⟩
    · have hlt' : ¬ (k : Int) < (n : Int) := by omega
      by_cases hnm : n = m
      · have q : ((n : Int) == (m : Int)) = true := beq_of (by omega)
        have HE : Hid (eqB xs ys = true) := Lib.hid (eqB_all (by rw [← HL1.out, ← HL2.out]; exact hnm) (fun j hj => HB.out j (by rw [← HL1.out] at hj; omega)))
        clear hnm
        go_wp2
        go_ret
        exact ⟨ret_b HE.out.symm, HN.out⟩
      · have q : ((n : Int) == (m : Int)) = false := bneq_of (by omega)
        have HE : Hid (eqB xs ys = false) := Lib.hid (eqB_len (by rw [← HL1.out, ← HL2.out]; exact hnm))
        clear hnm
        go_wp2
        go_ret
        exact ⟨ret_b HE.out.symm, HN.out⟩
theorem rsame_is {xs ys : List Int} {v1 v2 : Value} {w : World} (h1 : Hp w v1 xs) (h2 : Hp w v2 ys) (hb : xs.length ≤ 1000) {b : Bool} (h : eqB xs ys = b) :
    Calls Try.prog 14 #[v1, v2] w fun e w' => e = .returned (.bool b) ∧ New w w' := by
  obtain ⟨ao, cap, rfl⟩ := h1.form
  obtain ⟨bo, dap, rfl⟩ := h2.form
  have := rsame_in xs ys ao bo _ _ cap dap w h1 h2 hb
  rwa [h] at this

theorem own_hp {w : World} {base n : Nat} {v : Value} {ys : List Int} (h : w.ownsRow base 2 1 v n (ys.map (Value.int .i64))) : Hp w v ys := by
  obtain ⟨hl, h | ⟨g, cap, cur, rfl, _, hg, _, _, hs, ht⟩⟩ := h
  · obtain ⟨rfl, rfl⟩ := h
    obtain rfl : ys = [] := by
      apply List.eq_nil_of_length_eq_zero
      simpa using hl
    exact Hp.nil w
  · have hn : n = ys.length := by simpa using hl.symm
    subst hn
    refine ⟨some ⟨g, 0, none⟩, cap, by rw [List.length_map], fun i hi => ⟨g, 0, rfl, ?_⟩⟩
    have hi' : i < ys.length := by simpa using hi
    have e : cur[i]? = (ys.map (Value.int .i64))[i]? := by
      rw [← ht, Nat.mul_one, List.getElem?_take, if_pos hi', Array.getElem?_toList]
    rw [Nat.zero_add]
    unfold World.cell?
    rw [List.getElem?_eq_getElem hi] at e
    simp [hg, e]
theorem own_new {w wr w2 : World} {v : Value} {o : Obj} (hn : New w wr) (hr : ∀ k, v.ownBlock = some k → w.heap.size ≤ k) (hg : (wr.alloc o).grownBy w2 v.ownBlock) : New w w2 := by
  refine Below.grown (hn.alloc _) hg ?_ hr
  exact (hn.alloc o).size
theorem take_one {ys : List Int} {k : Nat} {y : Int} (h : ys[k]? = some y) : ((ys.take k).map (Value.int .i64)) ++ [.int .i64 y] = (ys.take (k + 1)).map (Value.int .i64) := by
  rw [List.take_add_one, h]
  simp
set_option maxHeartbeats 2000000 in
set_option maxRecDepth 100000 in
theorem rstore_in (zs : List Int) (a x : Int) (ao : Option Addr) (n cap : Nat) (w : World) (h : Hp w (.slice ao n cap) zs) :
    Calls Try.prog 13 #[.slice ao n cap, .int .i64 a, .int .i64 x] w fun e w' => ∃ v, e = .returned (.tuple #[v, .int .i64 (hpHow zs a)]) ∧ Hp w' v (hpSt zs a x) ∧ New w w' := by
  have HP := Lib.hid h
  have HL := Lib.hid h.len
  clear h
  cases hi : inB zs a with
  | true =>
    obtain ⟨h16, hka, hkl⟩ := inB_nat hi
    obtain ⟨i0, hi0, hz0, hz1, hz2⟩ := info_parts info64
    have HI0 := Lib.hid hi0
    have HZ0 := Lib.hid hz0
    have HZ1 := Lib.hid hz1
    have HZ2 := Lib.hid hz2
    have n16 : n ≤ 16 := by rw [HL.out]; exact h16
    have HE : Hid (hpSt zs a x = zs.set a.toNat x) := Lib.hid (hpSt_in x hi)
    have HW : Hid (hpHow zs a = 0) := Lib.hid (hpHow_in hi)
    have HKA := Lib.hid hka
    have HKL := Lib.hid hkl
    clear h16 hka hkl hi hi0 hz0 hz1 hz2
    go_enter Try.func13, Try.ntmps13
    go_wp2_with (go_at_call 11; refine (rload_is HP.out rfl HW.out).mono ?_; rintro e w1 ⟨rfl, rfl⟩)
    go_loopw [10, 11] (fun v kv wr => ∃ k : Nat, kv = .int .i64 k ∧ k ≤ n ∧ Hid (New w1 wr) ∧ Hid (wr.ownsRow w1.heap.size 2 1 v k (((hpSt zs a x).take k).map (Value.int .i64)))) (fun v kv wr => n - (intOf kv).toNat)
    case atStart => exact ⟨0, rfl, by omega, Lib.hid (New.refl _), Lib.hid (World.ownsRow_nil _ _ _ _)⟩
    case round =>
      obtain ⟨k, rfl, hk, HN, HO⟩ := hrel
      by_cases hlt : k < n
      · have hlt' : (k : Int) < (n : Int) := by omega
        have hsz := HN.out.size
        by_cases he : (k : Int) = a
        · have q := beq_of he
          have HT : Hid ((hpSt zs a x)[k]? = some x) := Lib.hid (by rw [HE.out, show a.toNat = k by omega, List.getElem?_set_self (by have := HL.out; omega)])
          clear he
          go_wp2_with (at_builtin; refine wpList_append_own _ rfl (.tmp 30) (.tmp 32) 22 rfl w1.heap.size 2 i0 (.int .i64 0) 1 8 Try.underlying22 HI0.out HZ0.out HZ1.out HZ2.out rfl (by decide) _ _ _ rfl (HO.out.alloc _) ⟨wr.heap.size, 0, none⟩ 1 1 [.int .i64 x] rfl rfl (one_new _ _ _) (by intro u hu; simp at hu; subst hu; rfl) (by unfold maxLen; omega) (by omega) (by rw [alloc_size]; omega) ?_; intro v' w2 hown' hgrow hnil; have HO2 := Lib.hid (take_one HT.out ▸ hown'); have HN2 := Lib.hid (own_new HN.out (owns_row HO.out) hgrow); clear hown' hgrow hnil)
          go_roundw
          case rel => exact ⟨k + 1, by go_num, hlt, HN2, HO2⟩
          case measure => simp [intOf]; omega
        · have q := bneq_of he
          obtain ⟨p, y, e, hx, hc⟩ := Hp.ix HP.out (i := k) (by have := HL.out; omega)
          have hcell := hc wr HN.out
          have HT : Hid ((hpSt zs a x)[k]? = some y) := Lib.hid (by rw [HE.out, List.getElem?_set_ne (by have := HKA.out; omega), e])
          clear he e hc
          go_wp2_with (at_builtin; refine wpList_append_own _ rfl (.tmp 34) (.tmp 39) 22 rfl w1.heap.size 2 i0 (.int .i64 0) 1 8 Try.underlying22 HI0.out HZ0.out HZ1.out HZ2.out rfl (by decide) _ _ _ rfl (HO.out.alloc _) ⟨wr.heap.size, 0, none⟩ 1 1 [.int .i64 y] rfl rfl (one_new _ _ _) (by intro u hu; simp at hu; subst hu; rfl) (by unfold maxLen; omega) (by omega) (by rw [alloc_size]; omega) ?_; intro v' w2 hown' hgrow hnil; have HO2 := Lib.hid (take_one HT.out ▸ hown'); have HN2 := Lib.hid (own_new HN.out (owns_row HO.out) hgrow); clear hown' hgrow hnil)
          go_roundw
          case rel => exact ⟨k + 1, by go_num, hlt, HN2, HO2⟩
          case measure => simp [intOf]; omega
      · have hlt' : ¬ (k : Int) < (n : Int) := by omega
        go_wp2
        go_ret2
        refine ⟨_, ret_vi HW.out.symm, ?_, HN.out⟩
        have := HO.out
        rw [List.take_of_length_le (by rw [HE.out, List.length_set, ← HL.out]; omega)] at this
        exact own_hp this
  | false =>
    have HE := Lib.hid (hpSt_out x hi)
    have HH := Lib.hid (hpHow_out hi)
    clear hi
    go_enter Try.func13, Try.ntmps13
    go_wp2_with (go_at_call 11; refine (rload_is HP.out rfl HH.out).mono ?_; rintro e w1 ⟨rfl, rfl⟩)
    go_ret2
    exact ⟨_, ret_vi HH.out.symm, by rw [HE.out]; exact Hp.nil _, New.refl _⟩
theorem rstore_is {zs : List Int} {a x : Int} {v : Value} {w : World} (h : Hp w v zs) {m : Nat} {q : Int} (hm : (hpSt zs a x).length = m) (hq : hpHow zs a = q) :
    Calls Try.prog 13 #[v, .int .i64 a, .int .i64 x] w fun e w' => ∃ ao cap, e = .returned (.tuple #[.slice ao m cap, .int .i64 q]) ∧ Hp w' (.slice ao m cap) (hpSt zs a x) ∧ New w w' := by
  obtain ⟨ao, cap, rfl⟩ := h.form
  refine (rstore_in zs a x ao _ cap w h).mono ?_
  rintro e w' ⟨v', rfl, hp, hn⟩
  obtain ⟨bo, dap, rfl⟩ := hp.form
  rw [hm] at hp ⊢
  exact ⟨bo, dap, ret_vi hq, hp, hn⟩
end Go.Proofs.Ytojjdghpeokplaa
