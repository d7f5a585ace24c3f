/-
  The contracts of env's small functions: right, New, Good, orNew: for every table; nothing that was in memory has turned.
-/
import Derived.Test.YthdbehalbcoibaaEnvA
import Derived.Test.YthdbehalbcoibaaLocTxt
import Derived.Deep.LoopGhost
namespace Go.Proofs.Ythdbehalbcoibaa
open Go.RowKit

def wasV (n : Int) : Value := .iface 53 (.agg #[.int .i64 n])
def isV (n : Int) : Value := .iface 55 (.agg #[.int .i64 n])
theorem sv_was (n : Int) : sv (0, n) = wasV n := rfl
theorem sv_is (n : Int) : sv (1, n) = isV n := rfl
theorem sv_no {s : Sr} (h0 : s.1 ≠ 0) (h1 : s.1 ≠ 1) : sv s = .nilIface := by unfold sv; rw [if_neg h0, if_neg h1]
theorem s_cases (s : Sr) : (∃ n, s = (0, n)) ∨ (∃ n, s = (1, n)) ∨ (s.1 ≠ 0 ∧ s.1 ≠ 1) := by
  obtain ⟨k, n⟩ := s
  by_cases h0 : k = 0
  · exact .inl ⟨n, by rw [h0]⟩
  · by_cases h1 : k = 1
    · exact .inr (.inl ⟨n, by rw [h1]⟩)
    · exact .inr (.inr ⟨h0, h1⟩)
theorem ta_ww (n : Int) (w : World) : (Instr.typeAssert (.iface 53 (.agg #[.int .i64 n])) 26 53 true).run Try.prog w = .ok (.tuple #[.agg #[.int .i64 n], .bool true]) w := by kernel_rfl
theorem ta_wi (n : Int) (w : World) : (Instr.typeAssert (.iface 53 (.agg #[.int .i64 n])) 26 55 true).run Try.prog w = .ok (.tuple #[.agg #[.int .i64 0], .bool false]) w := by kernel_rfl
theorem ta_ii (n : Int) (w : World) : (Instr.typeAssert (.iface 55 (.agg #[.int .i64 n])) 26 55 true).run Try.prog w = .ok (.tuple #[.agg #[.int .i64 n], .bool true]) w := by kernel_rfl
theorem ta_iw (n : Int) (w : World) : (Instr.typeAssert (.iface 55 (.agg #[.int .i64 n])) 26 53 true).run Try.prog w = .ok (.tuple #[.agg #[.int .i64 0], .bool false]) w := by kernel_rfl
theorem ta_nw (w : World) : (Instr.typeAssert .nilIface 26 53 true).run Try.prog w = .ok (.tuple #[.agg #[.int .i64 0], .bool false]) w := by kernel_rfl
theorem ta_ni (w : World) : (Instr.typeAssert .nilIface 26 55 true).run Try.prog w = .ok (.tuple #[.agg #[.int .i64 0], .bool false]) w := by kernel_rfl

theorem rightS_any (s : Sr) (w : World) :
    Calls Try.prog 25 #[sv s] w fun e w' => e = .returned (.bool (okS s)) ∧ New w w' := by
  rcases s_cases s with ⟨n, rfl⟩ | ⟨n, rfl⟩ | ⟨h0, h1⟩
  · have e : okS (0, n) = rightB n := by simp [okS, rightB]
    rw [e, sv_was]
    clear e
    have k1 := ta_ww n
    unfold wasV
    go_enter Try.func25, Try.ntmps25
    go_wp2_with (go_at_call 22; refine (right_any _ _).mono ?_; rintro e w1 ⟨rfl, rfl⟩)
    go_ret
    exact ⟨rfl, (New.refl _).alloc _⟩
  · have e : okS (1, n) = true := by simp [okS]
    rw [e, sv_is]
    clear e
    have k1 := ta_iw n
    have k2 := ta_ii n
    unfold isV
    go_enter Try.func25, Try.ntmps25
    go_wp2
    go_ret
    exact ⟨rfl, (New.refl _).alloc _⟩
  · have e : okS s = false := by simp [okS, h0, h1]
    rw [e, sv_no h0 h1]
    clear e
    have k1 := ta_nw
    have k2 := ta_ni
    go_enter Try.func25, Try.ntmps25
    go_wp2
    go_ret
    exact ⟨rfl, New.refl _⟩

/-- The zero table, as it is made. -/
theorem zeroT : cellsT noT = #[.nilIface, .nilIface, .nilIface, .nilIface, .nilIface, .nilIface, .nilIface, .nilIface, .nilIface, .nilIface, .nilIface, .nilIface, .nilIface, .nilIface, .nilIface, .nilIface, .nilIface, .nilIface, .nilIface, .nilIface, .nilIface, .nilIface, .nilIface, .nilIface] := by kernel_rfl
theorem HasT.zero (w : World) : HasT (w.alloc (.cells #[.nilIface, .nilIface, .nilIface, .nilIface, .nilIface, .nilIface, .nilIface, .nilIface, .nilIface, .nilIface, .nilIface, .nilIface, .nilIface, .nilIface, .nilIface, .nilIface, .nilIface, .nilIface, .nilIface, .nilIface, .nilIface, .nilIface, .nilIface, .nilIface] 28)) w.heap.size noT := by rw [← zeroT]; exact HasT.box w noT
/-- A table whose first places are the first table's. -/
def upto (k : Nat) : Tb := fun i => if i < k then newT i else noT i
theorem upto_step {k : Nat} : upd (upto k) k (0, (k : Int)) = upto (k + 1) := by
  funext i
  unfold upd upto
  by_cases h : i = k
  · subst h; simp [newT]
  · rw [if_neg h]
    by_cases h2 : i < k
    · rw [if_pos h2, if_pos (by omega)]
    · rw [if_neg h2, if_neg (by omega)]
theorem upto_all : cellsT (upto 24) = cellsT newT := cellsT_ext fun i hi => by unfold upto; rw [if_pos hi]
theorem resT (fn : Func) {p : Tmp} (h : fn.results = #[.cell p 28]) (tmps : Array Value) (w : World) (g : Nat) (t : Tb) (hp : tmps.getD p undef = .pointer (some ⟨g, 0, none⟩)) (hg : HasT w g t) :
    (results fn tmps).run Try.prog w = .ok (.agg (cellsT t)) w :=
  results_cell_row h tmps w g _ _ _ _ hp hg Try.underlying28 rfl (by rw [cellsT_size]; exact infoT)
set_option maxHeartbeats 1000000 in
set_option maxRecDepth 100000 in
theorem envNew_any (w : World) :
    Calls Try.prog 15 #[] w fun e w' => e = .returned (.agg (cellsT newT)) ∧ New w w' := by
  go_enter Try.func15, Try.ntmps15
  go_wp2
  rw [← zeroT]
  go_loopw [3] (fun kv wr => ∃ k : Nat, kv = .int .i64 k ∧ k ≤ 24 ∧ HasT wr w.heap.size noT ∧ HasT wr (w.heap.size + 1) (upto k) ∧ New w wr) (fun kv wr => 24 - (intOf kv).toNat)
  case atStart => exact ⟨0, rfl, by omega, (HasT.box w noT).new (alloc_new _ _), alloc_at (by rw [alloc_size]) _, (alloc_new _ _).alloc _⟩
  case round =>
    obtain ⟨k, rfl, hk, h0, h1, hn⟩ := hrel
    have H0 := Lib.hid h0
    have H1 := Lib.hid h1
    have HN := Lib.hid hn
    clear h0 h1 hn
    by_cases hk24 : k < 24
    · go_wp2_with (refine wpList_stS rfl rfl (.tmp 10) (.tmp 9) rfl (w.heap.size + 1) k hk24 rfl (0, (k : Int)) rfl H1.out ?_)
      go_roundw
      case rel =>
        rw [upto_step]
        exact ⟨k + 1, by go_num, hk24, H0.out.put (by omega) _, H1.out.stored _, HN.out.put (by omega) _⟩
      case measure => simp [intOf]; omega
    · obtain rfl : k = 24 := by omega
      go_wp2_with (first
        | (refine wpList_ldT rfl (.tmp 1) rfl (w.heap.size + 1) rfl H1.out ?_)
        | (refine wpList_stT rfl rfl (.tmp 0) (.tmp 12) rfl w.heap.size rfl (upto 24) rfl H0.out ?_))
      rw [← upto_all]
      refine bodyPost_ret (resT _ rfl _ _ w.heap.size (upto 24) rfl (H0.out.stored _)) rfl ⟨rfl, HN.out.put (by omega) _⟩

set_option maxHeartbeats 1000000 in
set_option maxRecDepth 100000 in
theorem envGood_any (t : Tb) (w : World) :
    Calls Try.prog 21 #[.agg (cellsT t)] w fun e w' => e = .returned (.bool (goodT t)) ∧ New w w' := by
  have hix : ∀ (k : Nat) (hk : k < 24) (w : World), (Instr.index 28 (.agg (cellsT t)) (.int .i64 (k : Int))).run Try.prog w = .ok (sv (t k)) w := fun k hk w => run_ixT t k hk w
  have HX := Lib.hid hix
  clear hix
  go_enter Try.func21, Try.ntmps21
  go_wp2_with (refine wpList_ldT rfl (.tmp 1) rfl w.heap.size rfl (HasT.box w t) ?_)
  go_loopw [6] (fun kv wr => ∃ k : Nat, kv = .int .i64 k ∧ k ≤ 24 ∧ Hid (∀ i < k, okS (t i) = true) ∧ New w wr) (fun kv wr => 24 - (intOf kv).toNat)
  case atStart => exact ⟨0, rfl, by omega, Lib.hid (fun i hi => absurd hi (Nat.not_lt_zero _)), alloc_new _ _⟩
  case round =>
    obtain ⟨k, rfl, hk, HO, hn⟩ := hrel
    by_cases hk24 : k < 24
    · have hx := HX.out k hk24
      cases hok : okS (t k) with
      | true =>
        have HA : Hid (∀ i < k + 1, okS (t i) = true) := Lib.hid (fun i hi => by
          by_cases e : i = k
          · rw [e]; exact hok
          · exact HO.out i (by omega))
        go_wp2_with (go_at_call 25; refine (rightS_any (t k) _).mono ?_; rw [hok]; rintro e w1 ⟨rfl, hn1⟩)
        go_roundw
        case rel => exact ⟨k + 1, by go_num, hk24, Lib.hid HA.out, hn.trans hn1⟩
        case measure => simp [intOf]; omega
      | false =>
        have HB : Hid (goodT t = false) := Lib.hid (by
          cases hg : goodT t with
          | false => rfl
          | true => rw [good_at hg hk24] at hok; cases hok)
        go_wp2_with (go_at_call 25; refine (rightS_any (t k) _).mono ?_; rw [hok]; rintro e w1 ⟨rfl, hn1⟩)
        rw [HB.out]
        go_ret
        exact ⟨rfl, hn.trans hn1⟩
    · obtain rfl : k = 24 := by omega
      have HB : Hid (goodT t = true) := Lib.hid (good_mk HO.out)
      go_wp2
      rw [HB.out]
      go_ret
      exact ⟨rfl, hn⟩
theorem orNew_any (t : Tb) (w : World) :
    Calls Try.prog 18 #[.agg (cellsT t)] w fun e w' => e = .returned (.agg (cellsT (orN t))) ∧ New w w' := by
  have b1 : HasT ((w.alloc (.cells (cellsT t) 28)).alloc (.cells (cellsT noT) 28)) w.heap.size t := (HasT.box w t).new (alloc_new _ _)
  have b2 : HasT ((w.alloc (.cells (cellsT t) 28)).alloc (.cells (cellsT noT) 28)) (w.heap.size + 1) noT := alloc_at (by rw [alloc_size]) _
  have B1 := Lib.hid b1
  have B2 := Lib.hid b2
  have HN : Hid (New w ((w.alloc (.cells (cellsT t) 28)).alloc (.cells (cellsT noT) 28))) := Lib.hid ((alloc_new _ _).alloc _)
  clear b1 b2
  cases hg : goodT t with
  | true =>
    have e : orN t = t := orN_good hg
    rw [e]
    clear e
    rw [zeroT] at B1 B2 HN
    go_enter Try.func18, Try.ntmps18
    go_wp2_with (first
      | (go_at_call 21; refine (envGood_any t _).mono ?_; rw [hg]; rintro e w1 ⟨rfl, hn1⟩)
      | (refine wpList_ldT rfl (.tmp 1) rfl w.heap.size rfl B1.out ?_)
      | (refine wpList_ldT rfl (.tmp 1) rfl w.heap.size rfl (B1.out.new hn1) ?_)
      | (refine wpList_stT rfl rfl (.tmp 2) (.tmp 5) rfl (w.heap.size + 1) rfl t rfl (B2.out.new hn1) ?_))
    refine bodyPost_ret (resT _ rfl _ _ (w.heap.size + 1) t rfl ((B2.out.new hn1).stored _)) rfl ⟨rfl, (HN.out.trans hn1).put (by omega) _⟩
  | false =>
    have e : orN t = newT := if_neg (by rw [hg]; decide)
    rw [e]
    clear e
    rw [zeroT] at B1 B2 HN
    go_enter Try.func18, Try.ntmps18
    go_wp2_with (first
      | (go_at_call 21; refine (envGood_any t _).mono ?_; rw [hg]; rintro e w1 ⟨rfl, hn1⟩)
      | (go_at_call 15; refine (envNew_any _).mono ?_; rintro e w2 ⟨rfl, hn2⟩)
      | (refine wpList_ldT rfl (.tmp 1) rfl w.heap.size rfl B1.out ?_)
      | (refine wpList_stT rfl rfl (.tmp 2) (.tmp 6) rfl (w.heap.size + 1) rfl newT rfl ((B2.out.new hn1).new hn2) ?_))
    refine bodyPost_ret (resT _ rfl _ _ (w.heap.size + 1) newT rfl (((B2.out.new hn1).new hn2).stored _)) rfl ⟨rfl, ((HN.out.trans hn1).trans hn2).put (by omega) _⟩
end Go.Proofs.Ythdbehalbcoibaa
