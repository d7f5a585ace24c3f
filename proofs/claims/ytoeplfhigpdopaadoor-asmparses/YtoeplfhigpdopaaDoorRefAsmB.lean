/-
  The reference's Same of two functions (joineryref04): are they alike?
-/
import Derived.Test.YtoeplfhigpdopaaDoorAsmA
import Derived.Deep.RegionWith
namespace Go.Proofs.YtoeplfhigpdopaaDoor
open Go.RowKit

def sameF : List I → List I → Bool
  | [], [] => true
  | x :: f, y :: g => sameB x y && sameF f g
  | [], _ :: _ => false
  | _ :: _, [] => false
theorem sameF_iff : ∀ {f g : List I}, sameF f g = true ↔ f = g
  | [], [] => by simp [sameF]
  | x :: f, y :: g => by rw [sameF, Bool.and_eq_true, same_iff, sameF_iff, List.cons.injEq]
  | [], y :: g => by simp [sameF]
  | x :: f, [] => by simp [sameF]
theorem sameF_ne {f g : List I} (h : f ≠ g) : sameF f g = false := by
  cases e : sameF f g with
  | false => rfl
  | true => exact absurd (sameF_iff.mp e) h
theorem same_drop {f g : List I} {k : Nat} (hf : k < f.length) (hg : k < g.length) (h : f[k] = g[k]) : sameF (f.drop k) (g.drop k) = sameF (f.drop (k + 1)) (g.drop (k + 1)) := by
  rw [List.drop_eq_getElem_cons hf, List.drop_eq_getElem_cons hg, sameF, h, same_iff.mpr rfl, Bool.true_and]
theorem same_here {f g : List I} {k : Nat} (hf : k < f.length) (hg : k < g.length) (h : f[k] ≠ g[k]) : sameF (f.drop k) (g.drop k) = false := by
  apply sameF_ne
  intro e
  rw [List.drop_eq_getElem_cons hf, List.drop_eq_getElem_cons hg, List.cons.injEq] at e
  exact h e.1
theorem range_six {w : World} {b o : Nat} {x : I} (h : w.rangeAt b o (cells6 x)) : w.cell? ⟨b, o, none⟩ = some (.int .i64 x.op) ∧ w.cell? ⟨b, o + 1, none⟩ = some (.int .i64 x.d) ∧ w.cell? ⟨b, o + 2, none⟩ = some (.int .i64 x.a) ∧
    w.cell? ⟨b, o + 3, none⟩ = some (.int .i64 x.b) ∧ w.cell? ⟨b, o + 4, none⟩ = some (.int .i64 x.n) ∧ w.cell? ⟨b, o + 5, none⟩ = some (.int .i64 x.t) :=
  ⟨h 0 _ rfl, h 1 _ rfl, h 2 _ rfl, h 3 _ rfl, h 4 _ rfl, h 5 _ rfl⟩
theorem first_unlike {x y : I} (h : ¬ x = y) : (¬ x.op = y.op) ∨ (x.op = y.op ∧ ¬ x.d = y.d) ∨ (x.op = y.op ∧ x.d = y.d ∧ ¬ x.a = y.a) ∨ (x.op = y.op ∧ x.d = y.d ∧ x.a = y.a ∧ ¬ x.b = y.b) ∨ (x.op = y.op ∧ x.d = y.d ∧ x.a = y.a ∧ x.b = y.b ∧ ¬ x.n = y.n) ∨ (x.op = y.op ∧ x.d = y.d ∧ x.a = y.a ∧ x.b = y.b ∧ x.n = y.n ∧ ¬ x.t = y.t) := by
  by_cases h1 : x.op = y.op
  · by_cases h2 : x.d = y.d
    · by_cases h3 : x.a = y.a
      · by_cases h4 : x.b = y.b
        · by_cases h5 : x.n = y.n
          · by_cases h6 : x.t = y.t
            · exfalso
              apply h
              obtain ⟨o, d, a, b, n, t⟩ := x
              obtain ⟨o', d', a', b', n', t'⟩ := y
              simp_all
            · simp [h1, h2, h3, h4, h5, h6]
          · simp [h1, h2, h3, h4, h5]
        · simp [h1, h2, h3, h4]
      · simp [h1, h2, h3]
    · simp [h1, h2]
  · exact .inl h1
theorem same_long (ao bo : Option Addr) (n m cap cap' : Nat) (h : ((n : Int) != (m : Int)) = true) (w : World) :
    Calls Tryd.prog 19 #[.slice ao n cap, .slice bo m cap'] w fun e w' => e = .returned (.bool false) ∧ New w w' := by
  go_enter Tryd.func19, Tryd.ntmps19
  go_wp2
  go_ret
  exact ⟨rfl, New.refl _⟩
theorem same_none (ao bo : Option Addr) (cap cap' : Nat) (w : World) :
    Calls Tryd.prog 19 #[.slice ao 0 cap, .slice bo 0 cap'] w fun e w' => e = .returned (.bool true) ∧ New w w' := by
  go_enter Tryd.func19, Tryd.ntmps19
  go_wp2
  refine wp_loop_rounds 1 ?_
  rw [rounds_succ]
  go_wp2
  go_ret
  exact ⟨rfl, New.refl _⟩
set_option maxHeartbeats 2000000 in
set_option maxRecDepth 100000 in
theorem same_some (b off cap b' off' cap' n : Nat) (f g : List I) (hn : f.length = n) (hm : g.length = n) (h9 : n ≤ 1000000) (w : World) (hf : Fun w b off f) (hg : Fun w b' off' g) :
    Calls Tryd.prog 19 #[.slice (some ⟨b, off, none⟩) n cap, .slice (some ⟨b', off', none⟩) n cap'] w fun e w' => e = .returned (.bool (sameF f g)) ∧ New w w' := by
  have HF := Lib.hid hf
  have HG := Lib.hid hg
  have HN := Lib.hid hn
  have HM := Lib.hid hm
  clear hf hg hn hm
  go_enter Tryd.func19, Tryd.ntmps19
  go_wp2
  go_loopw [5] (fun i wr => ∃ k : Nat, i = .int .i64 k ∧ k ≤ n ∧ New w wr ∧ Hid (sameF (f.drop k) (g.drop k) = sameF f g)) (fun i _ => n - (intOf i).toNat)
  case atStart => exact ⟨0, rfl, Nat.zero_le _, New.refl _, Lib.hid rfl⟩
  case round =>
    obtain ⟨k, rfl, hk, hnw, HB⟩ := hrel
    by_cases hkn : k < n
    · obtain ⟨x, HX⟩ : ∃ x : I, Hid (f[k]'(by rw [HN.out]; exact hkn) = x) := ⟨_, Lib.hid rfl⟩
      obtain ⟨y, HY⟩ : ∃ y : I, Hid (g[k]'(by rw [HM.out]; exact hkn) = y) := ⟨_, Lib.hid rfl⟩
      have hr : wr.rangeAt b (off + k * 6) (cells6 x) := (by have := (HF.out.new hnw) k (by rw [HN.out]; exact hkn); rw [HX.out] at this; exact this)
      have hs : wr.rangeAt b' (off' + k * 6) (cells6 y) := (by have := (HG.out.new hnw) k (by rw [HM.out]; exact hkn); rw [HY.out] at this; exact this)
      obtain ⟨x0, x1, x2, x3, x4, x5⟩ := range_six hr
      obtain ⟨y0, y1, y2, y3, y4, y5⟩ := range_six hs
      clear hr hs
      by_cases hxy : x = y
      · subst hxy
        have HU : Hid (sameF (f.drop (k + 1)) (g.drop (k + 1)) = sameF f g) := Lib.hid ((same_drop (by rw [HN.out]; exact hkn) (by rw [HM.out]; exact hkn) (by rw [HX.out, HY.out])).symm.trans HB.out)
        go_wp2
        go_region
        go_wp2
        go_roundw
        case rel => exact ⟨k + 1, by go_num, by omega, hnw.drew, Lib.hid HU.out⟩
        case measure => simp [intOf]; omega
      · have HE : Hid (sameF f g = false) := Lib.hid (by rw [← HB.out, same_here (by rw [HN.out]; exact hkn) (by rw [HM.out]; exact hkn) (by rw [HX.out, HY.out]; exact hxy)])
        have hd := first_unlike hxy
        clear hxy
        rcases hd with h1 | ⟨h1, h2⟩ | ⟨h1, h2, h3⟩ | ⟨h1, h2, h3, h4⟩ | ⟨h1, h2, h3, h4, h5⟩ | ⟨h1, h2, h3, h4, h5, h6⟩
        all_goals
          go_wp2
          go_region
          go_wp2
          have he := HE.out
          rw [he]
          go_ret
          exact ⟨rfl, hnw.drew⟩
    · have HE : Hid (sameF f g = true) := Lib.hid (by rw [← HB.out, List.drop_of_length_le (by rw [HN.out]; omega), List.drop_of_length_le (by rw [HM.out]; omega)]; rfl)
      go_wp2
      have he := HE.out
      rw [he]
      go_ret
      exact ⟨rfl, hnw⟩
theorem same_any (v u : Value) (f g : List I) (h9 : f.length ≤ 1000000) (w : World) (hf : FunAt w v f) (hg : FunAt w u g) :
    Calls Tryd.prog 19 #[v, u] w fun e w' => e = .returned (.bool (sameF f g)) ∧ New w w' := by
  by_cases hl : f.length = g.length
  · rcases hf with ⟨rfl, ao, cap, rfl⟩ | ⟨b, off, cap, rfl, hf⟩
    · obtain rfl : g = [] := List.length_eq_zero_iff.mp hl.symm
      rcases hg with ⟨_, bo, cap', rfl⟩ | ⟨b', off', cap', rfl, hg⟩
      · exact same_none _ _ _ _ w
      · exact same_none _ _ _ _ w
    · rcases hg with ⟨rfl, bo, cap', rfl⟩ | ⟨b', off', cap', rfl, hg⟩
      · obtain rfl : f = [] := List.length_eq_zero_iff.mp hl
        exact same_none _ _ _ _ w
      · rw [← hl]
        exact same_some b off cap b' off' cap' f.length f g rfl hl.symm h9 w hf hg
  · have hne : sameF f g = false := sameF_ne (fun e => hl (by rw [e]))
    rw [hne]
    obtain ⟨ao, cap, rfl⟩ := hf.form
    obtain ⟨bo, cap', rfl⟩ := hg.form
    exact same_long _ _ _ _ _ _ (by simp; omega) w
theorem same_from {w0 : World} (v u : Value) (f g : List I) (h9 : f.length ≤ 1000000) (w : World) (h : New w0 w) (hf : FunAt w v f) (hg : FunAt w u g) :
    Calls Tryd.prog 19 #[v, u] w fun e w' => e = .returned (.bool (sameF f g)) ∧ New w0 w' :=
  (same_any v u f g h9 w hf hg).mono fun _ _ ⟨he, hw⟩ => ⟨he, h.trans hw⟩
end Go.Proofs.YtoeplfhigpdopaaDoor
