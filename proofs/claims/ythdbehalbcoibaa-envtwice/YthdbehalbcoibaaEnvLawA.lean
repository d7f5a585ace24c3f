/-
  'EnvOther': what only moves changes no place but those it names: true, for every input.
-/
import Derived.Test.YthdbehalbcoibaaEnvKnows
import Derived.Test.YthdbehalbcoibaaEnvOf
import Derived.Test.YthdbehalbcoibaaEnvF
import Derived.Test.YthdbehalbcoibaaInsRead
namespace Go.Proofs.Ythdbehalbcoibaa
open Go.RowKit

/-- What an instruction does not name stays. -/
theorem aft_other {t : Tb} (ht : goodT t = true) {x : I} {k : Nat} (_hk : k < 24) (h1 : ¬ (1 ≤ x.op ∧ x.op ≤ 3 ∧ x.d = (k : Int))) (h2 : ¬ (x.op = 3 ∧ x.a = (k : Int))) : aft t x k = t k := by
  unfold aft
  rw [orN_good ht]
  split
  · next h =>
    obtain ⟨hd, ha⟩ := h
    have ld := right_lt hd
    have la := right_lt ha
    split
    · next e => unfold upd; rw [if_neg (by omega)]
    · split
      · next e => unfold upd; rw [if_neg (by omega)]
      · split
        · next e => unfold upd; rw [if_neg (by omega), if_neg (by omega)]
        · rfl
  · rfl
theorem knows_from {w0 : World} (w : World) (h : New w0 w) : Calls Try.prog 14 #[] w fun e w' => e = .returned (.bool true) ∧ New w0 w' :=
  (knows_any w).mono fun _ _ ⟨he, hw⟩ => ⟨he, h.trans hw⟩
set_option maxHeartbeats 4000000 in
set_option maxRecDepth 100000 in
theorem envOther_in (ks ns : List Int) (v1 v2 : Value) (x : I) (w : World) (h1 : RowAt w v1 (ks.map (.int .u8))) (h2 : RowAt w v2 (ns.map (.int .i64))) :
    Calls Try.prog 6 #[v1, v2, .agg #[.int .i64 (x).op, .int .i64 (x).d, .int .i64 (x).a, .int .i64 (x).b, .int .i64 (x).n, .int .i64 (x).t]] w fun e w' => e = .returned (.bool true) ∧ New w w' := by
  have HK := Lib.hid h1
  have HM := Lib.hid h2
  have HX := Lib.hid (Has.box w x)
  have HN := Lib.hid (alloc_new w (.cells #[.int .i64 x.op, .int .i64 x.d, .int .i64 x.a, .int .i64 x.b, .int .i64 x.n, .int .i64 x.t] 47))
  have hT0 : goodT (thn newT (ofT ks ns)) = true := good_thn _ _
  have HT0 := Lib.hid hT0
  clear h1 h2 hT0
  go_enter Try.func6, Try.ntmps6
  go_wp2_with (first
    | (go_at_call 15; refine (envNew_any _).mono ?_; rintro e w1 ⟨rfl, hn⟩; replace HX := Lib.hid (HX.out.new hn); replace HN := Lib.hid (HN.out.trans hn); clear hn)
    | (go_at_call 7; refine (of_any ks ns _ _ _ (HK.out.new HN.out) (HM.out.new HN.out)).mono ?_; rintro e w2 ⟨rfl, hn⟩; replace HX := Lib.hid (HX.out.new hn); replace HN := Lib.hid (HN.out.trans hn); clear hn)
    | (go_at_call 17; refine (then_any newT (ofT ks ns) _).mono ?_; rintro e w3 ⟨rfl, hn⟩; replace HX := Lib.hid (HX.out.new hn); replace HN := Lib.hid (HN.out.trans hn); clear hn; generalize thn newT (ofT ks ns) = T at HT0 ⊢)
    | (refine wpList_ldT rfl (.tmp 7) rfl g1 rfl HT.out ?_)
    | (refine wpList_ldI rfl (.tmp 5) rfl w.heap.size rfl HX.out ?_)
    | (go_at_call 16; refine (after_any T x _).mono ?_; rintro e w4 ⟨rfl, hn⟩; replace HX := Lib.hid (HX.out.new hn); replace HT := Lib.hid (HT.out.new hn); replace HN := Lib.hid (HN.out.trans hn); clear hn)
    | (refine wpList_stTk rfl rfl (.tmp 8) (.tmp 18) rfl g2 rfl (aft T x) rfl HU.out ?_; intro wb hu hk; replace HU := Lib.hid hu; replace HX := Lib.hid (hk.I HX.out (by omega)); replace HT := Lib.hid (hk.T HT.out (by omega)); replace HN := Lib.hid (hk.below _ (by omega) HN.out); clear hu hk)
    | (refine wpList_stTk rfl rfl (.tmp 7) (.tmp 15) rfl g1 rfl T rfl HT.out ?_; intro wb hu hk; replace HT := Lib.hid hu; replace HX := Lib.hid (hk.I HX.out (by omega)); replace HN := Lib.hid (hk.below _ (by omega) HN.out); clear hu hk)
    | (refine wpList_alT (op := { dst := some 7, op := _, type := _, pos := _, after := _, guard := _ }) rfl rfl ?_; intro wa g1 q1 q2 hz hn; have HT := Lib.hid hz; have q4 : w.heap.size < g1 := Nat.lt_of_lt_of_le (heap_lt HX.out) q1; replace HX := Lib.hid (HX.out.new hn); replace HN := Lib.hid (HN.out.trans hn); clear hz hn q1 q2)
    | (refine wpList_alT (op := { dst := some 8, op := _, type := _, pos := _, after := _, guard := _ }) rfl rfl ?_; intro wa g2 q1 q2 hz hn; have HU := Lib.hid hz; have q5 : g1 < g2 := Nat.lt_of_lt_of_le (heap_lt HT.out) q1; replace HX := Lib.hid (HX.out.new hn); replace HT := Lib.hid (HT.out.new hn); replace HN := Lib.hid (HN.out.trans hn); clear hz hn q1 q2))
  have HOK : Hid (goodT (aft T x) = true) := Lib.hid (good_aft _ _)
  go_loopw [9] (fun kv wr => ∃ k : Nat, kv = .int .i64 k ∧ k ≤ 24 ∧ Hid (Has wr w.heap.size x) ∧ Hid (HasT wr g1 T) ∧ Hid (HasT wr g2 (aft T x)) ∧ Hid (New w wr)) (fun kv wr => 24 - (intOf kv).toNat)
  case atStart => exact ⟨0, rfl, by omega, HX, HT, HU, HN⟩
  case round =>
    obtain ⟨k, rfl, hk, R1, R2, R3, R4⟩ := hrel
    clear HX HT HU HN
    by_cases hk24 : k < 24
    · have hcase : (1 ≤ x.op ∧ x.op ≤ 3 ∧ x.d = (k : Int)) ∨ (x.op = 3 ∧ ¬ x.d = (k : Int) ∧ x.a = (k : Int)) ∨ (¬ 1 ≤ x.op) ∨ (1 ≤ x.op ∧ ¬ x.op ≤ 3) ∨ (1 ≤ x.op ∧ x.op ≤ 3 ∧ ¬ x.op = 3 ∧ ¬ x.d = (k : Int)) ∨ (x.op = 3 ∧ ¬ x.d = (k : Int) ∧ ¬ x.a = (k : Int)) := by omega
      obtain ⟨c0, c1, c2, c3⟩ := R1.out.cell
      have hne := newW_any wr
      have i24 : (k : Int) < 24 := by omega
      have HF : Hid (¬ (1 ≤ x.op ∧ x.op ≤ 3 ∧ x.d = (k : Int)) → ¬ (x.op = 3 ∧ x.a = (k : Int)) → ∃ T' v', (∀ y : NewW wr, y.val.cell? ⟨g2, k, none⟩ = some (.iface T' v')) ∧ (∀ y : NewW wr, y.val.cell? ⟨g1, k, none⟩ = some (.iface T' v')) ∧ ∀ w, (binOp .neq 26 (.iface T' v') (.iface T' v')).run Try.prog w = .ok (.bool false) w) := Lib.hid (by
        intro h1 h2
        have ok := good_at HT0.out hk24
        obtain ⟨T', v', hv⟩ := sv_iface ok
        refine ⟨T', v', fun y => ?_, fun y => ?_, fun w => ?_⟩
        · rw [(R3.out.new y.property).cell hk24, aft_other HT0.out hk24 h1 h2, hv]
        · rw [(R2.out.new y.property).cell hk24, hv]
        · have := binop_srcN ok ok w
          rw [hv] at this
          simpa using this)
      rcases hcase with ⟨p1, p2, p3⟩ | ⟨p1, p2, p3⟩ | p1 | ⟨p1, p2⟩ | ⟨p1, p2, p3, p4⟩ | ⟨p1, p2, p3⟩
      · have q3 := beq_of p3
        clear p3 HF
        go_wp2_with fail
        refine wp_region_new (New.refl wr) (by kernel_rfl) (by kernel_rfl) ?_
        repeat (go_big_quiet_step (first | fail))
        refine wpQuiet_nil ?_
        intro w5 hn5
        go_wp2
        go_roundw
        case rel => exact ⟨k + 1, by go_num, hk24, Lib.hid (R1.out.new hn5), Lib.hid (R2.out.new hn5), Lib.hid (R3.out.new hn5), Lib.hid (R4.out.trans hn5)⟩
        case measure => simp [intOf]; omega
      · have q1 := beq_of p1
        have q2 := bneq_of p2
        have q3 := beq_of p3
        have r1 : 1 ≤ x.op := by omega
        have r2 : x.op ≤ 3 := by omega
        clear p1 p2 p3 HF
        go_wp2_with fail
        refine wp_region_new (New.refl wr) (by kernel_rfl) (by kernel_rfl) ?_
        repeat (go_big_quiet_step (first | fail))
        refine wpQuiet_nil ?_
        intro w5 hn5
        go_wp2
        go_roundw
        case rel => exact ⟨k + 1, by go_num, hk24, Lib.hid (R1.out.new hn5), Lib.hid (R2.out.new hn5), Lib.hid (R3.out.new hn5), Lib.hid (R4.out.trans hn5)⟩
        case measure => simp [intOf]; omega
      · obtain ⟨T', v', d1, d2, d3⟩ := HF.out (by omega) (by omega)
        have q1 : (x.op == 3) = false := bneq_of (by omega)
        clear HF
        go_wp2_with fail
        refine wp_region_new (New.refl wr) (by kernel_rfl) (by kernel_rfl) ?_
        repeat (go_big_quiet_step (first | fail))
        refine wpQuiet_nil ?_
        intro w5 hn5
        go_wp2
        go_roundw
        case rel => exact ⟨k + 1, by go_num, hk24, Lib.hid (R1.out.new hn5), Lib.hid (R2.out.new hn5), Lib.hid (R3.out.new hn5), Lib.hid (R4.out.trans hn5)⟩
        case measure => simp [intOf]; omega
      · obtain ⟨T', v', d1, d2, d3⟩ := HF.out (by omega) (by omega)
        have q1 : (x.op == 3) = false := bneq_of (by omega)
        clear HF
        go_wp2_with fail
        refine wp_region_new (New.refl wr) (by kernel_rfl) (by kernel_rfl) ?_
        repeat (go_big_quiet_step (first | fail))
        refine wpQuiet_nil ?_
        intro w5 hn5
        go_wp2
        go_roundw
        case rel => exact ⟨k + 1, by go_num, hk24, Lib.hid (R1.out.new hn5), Lib.hid (R2.out.new hn5), Lib.hid (R3.out.new hn5), Lib.hid (R4.out.trans hn5)⟩
        case measure => simp [intOf]; omega
      · obtain ⟨T', v', d1, d2, d3⟩ := HF.out (by omega) (by omega)
        have q1 : (x.op == 3) = false := bneq_of (by omega)
        have q2 := bneq_of p4
        clear HF p3 p4
        go_wp2_with fail
        refine wp_region_new (New.refl wr) (by kernel_rfl) (by kernel_rfl) ?_
        repeat (go_big_quiet_step (first | fail))
        refine wpQuiet_nil ?_
        intro w5 hn5
        go_wp2
        go_roundw
        case rel => exact ⟨k + 1, by go_num, hk24, Lib.hid (R1.out.new hn5), Lib.hid (R2.out.new hn5), Lib.hid (R3.out.new hn5), Lib.hid (R4.out.trans hn5)⟩
        case measure => simp [intOf]; omega
      · obtain ⟨T', v', d1, d2, d3⟩ := HF.out (by omega) (by omega)
        have q1 := beq_of p1
        have q2 := bneq_of p2
        have q3 := bneq_of p3
        have r1 : 1 ≤ x.op := by omega
        have r2 : x.op ≤ 3 := by omega
        clear p1 p2 p3 HF
        go_wp2_with fail
        refine wp_region_new (New.refl wr) (by kernel_rfl) (by kernel_rfl) ?_
        repeat (go_big_quiet_step (first | fail))
        refine wpQuiet_nil ?_
        intro w5 hn5
        go_wp2
        go_roundw
        case rel => exact ⟨k + 1, by go_num, hk24, Lib.hid (R1.out.new hn5), Lib.hid (R2.out.new hn5), Lib.hid (R3.out.new hn5), Lib.hid (R4.out.trans hn5)⟩
        case measure => simp [intOf]; omega
    · obtain rfl : k = 24 := by omega
      go_wp2_with (go_at_call 14; refine (knows_from _ R4.out).mono ?_; rintro e w5 ⟨rfl, hn⟩)
      go_ret
      exact ⟨rfl, hn⟩
theorem envOther_law (v1 : Value) (ks : List Int) (v2 : Value) (ns : List Int) (o d a b n t : Int) (w : World) (h1 : RowAt w v1 (ks.map (.int .u8))) (h2 : RowAt w v2 (ns.map (.int .i64))) (_hx : In64I ⟨o, d, a, b, n, t⟩) :
    Calls Try.prog 6 #[v1, v2, .agg #[.int .i64 o, .int .i64 d, .int .i64 a, .int .i64 b, .int .i64 n, .int .i64 t]] w fun e w' => e = .returned (.bool true) ∧ New w w' := envOther_in ks ns v1 v2 ⟨o, d, a, b, n, t⟩ w h1 h2
end Go.Proofs.Ythdbehalbcoibaa
