/-
  Layer 12: the contract of the laws' great.
-/
import Derived.Test.YtomclhbekmcaeaaRefA
namespace Go.Proofs.Ytomclhbekmcaeaa
open Go.RowKit

set_option maxHeartbeats 4000000 in
set_option maxRecDepth 100000 in
theorem great12_any (la : Option Addr) (n lc : Nat) (l : List Rw) (w : World) (hr : RowsAt w (.slice la n lc) l) (hn : n ≤ maxLen) :
    Calls Try.prog 9 #[.slice la n lc] w fun e w' => ∃ b, e = .returned (.bool b) ∧ (b = false ↔ n ≤ 60 ∧ ∀ x ∈ l, x.to.length ≤ 20) ∧ New w w' := by
  have hl := Els.len hr
  have HX := Lib.hid hr
  have HN := Lib.hid hl
  have hn2 : n ≤ 9223372036854775807 := by unfold maxLen at hn; omega
  clear hr hl hn
  go_enter Try.func9, Try.ntmps9
  go_wp2_with fail
  go_loopw [3] (fun kv wr => ∃ k : Nat, kv = .int .i64 (k : Int) ∧ k ≤ n ∧ Hid (∀ x ∈ l.take k, x.to.length ≤ 20) ∧ Hid (New w wr)) (fun kv _ => n - (intOf kv).toNat)
  case atStart => exact ⟨0, rfl, by omega, Lib.hid (fun _ h => by simp at h), Lib.hid (New.refl w)⟩
  case round =>
    obtain ⟨k, rfl, hk, HA, HW⟩ := hrel
    by_cases hkn : k < n
    · obtain ⟨x, hx⟩ : ∃ x, l[k]? = some x := ⟨_, List.getElem?_eq_getElem (by rw [HN.out]; exact hkn)⟩
      obtain ⟨b, o, ra, rc, hix, hrg, _⟩ := RowsAt.ix (P := Try.prog) HX.out 22 Try.underlying22 sizeRw hx
      have y := hrg _ HW.out 1 _ rfl
      obtain ⟨M, HM⟩ : ∃ M, Hid (x.to.length = M) := ⟨_, Lib.hid rfl⟩
      rw [HM.out] at y
      have HXS := Lib.hid hx
      clear hx hrg
      by_cases h20 : M ≤ 20
      · have d1 : decide ((20 : Int) < (M : Int)) = false := decide_eq_false (by omega)
        have HA2 : Hid (∀ x ∈ l.take (k + 1), x.to.length ≤ 20) := Lib.hid (by
          intro z hz
          rw [List.take_add_one, HXS.out] at hz
          rcases List.mem_append.mp hz with h1 | h1
          · exact HA.out z h1
          · have : z = x := by simpa using h1
            rw [this, HM.out]
            exact h20)
        clear h20
        go_wp2_with fail
        go_roundw
        case rel => exact ⟨k + 1, by go_num, by omega, HA2, HW⟩
        case measure => simp [intOf]; omega
      · have d1 : decide ((20 : Int) < (M : Int)) = true := decide_eq_true (by omega)
        have HNO : Hid (¬ (n ≤ 60 ∧ ∀ x ∈ l, x.to.length ≤ 20)) := Lib.hid fun e => h20 (by rw [← HM.out]; exact e.2 x (List.mem_of_getElem? HXS.out))
        clear h20
        go_wp2_with fail
        go_ret
        exact ⟨true, rfl, ⟨fun h => (by cases h), fun h => absurd h HNO.out⟩, HW.out⟩
    · have HA2 : Hid (∀ x ∈ l, x.to.length ≤ 20) := Lib.hid (by
        have h1 := HA.out
        rwa [List.take_of_length_le (by rw [HN.out]; omega)] at h1)
      by_cases h60 : n ≤ 60
      · have d1 : decide ((60 : Int) < (n : Int)) = false := decide_eq_false (by omega)
        have H6 := Lib.hid h60
        clear h60
        go_wp2_with fail
        go_ret
        exact ⟨false, rfl, ⟨fun _ => ⟨H6.out, HA2.out⟩, fun _ => rfl⟩, HW.out⟩
      · have d1 : decide ((60 : Int) < (n : Int)) = true := decide_eq_true (by omega)
        have HNO : Hid (¬ (n ≤ 60 ∧ ∀ x ∈ l, x.to.length ≤ 20)) := Lib.hid fun e => h60 e.1
        clear h60
        go_wp2_with fail
        go_ret
        exact ⟨true, rfl, ⟨fun h => (by cases h), fun h => absurd h HNO.out⟩, HW.out⟩
end Go.Proofs.Ytomclhbekmcaeaa
