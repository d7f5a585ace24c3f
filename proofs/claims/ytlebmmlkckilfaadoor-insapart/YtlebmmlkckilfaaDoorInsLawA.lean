/-
  The laws InsBack, InsApart, InsGrows: true at every input.
-/
import Derived.Test.YtlebmmlkckilfaaDoorInsKnows
namespace Go.Proofs.YtlebmmlkckilfaaDoor
open Go.RowKit

-- InsApart
theorem prt_inj {x y : I} (hx : In64I x) (hy : In64I y) (cx : chkV x 200 = 0) (cy : chkV y 200 = 0) : (prtL x = prtL y) ↔ x = y := by
  constructor
  · intro h
    have h1 := prs_prt hx cx
    have h2 := prs_prt hy cy
    rw [h, h2] at h1
    exact (Option.some.inj h1).symm
  · rintro rfl; rfl
theorem eq_fields {x y : I} : x = y ↔ x.op = y.op ∧ x.d = y.d ∧ x.a = y.a ∧ x.b = y.b ∧ x.n = y.n ∧ x.t = y.t := by
  rw [← same_iff]
  unfold sameB
  rw [decide_eq_true_iff]

set_option maxHeartbeats 2000000 in
set_option maxRecDepth 100000 in
theorem insApart_in (o d a b n t o' d' a' b' n' t' : Int) (hx : In64I ⟨o, d, a, b, n, t⟩) (hy : In64I ⟨o', d', a', b', n', t'⟩) (cx : chkV ⟨o, d, a, b, n, t⟩ 200 = 0) (cy : chkV ⟨o', d', a', b', n', t'⟩ 200 = 0) (w : World) (hl : Laid w) :
    Calls Tryd.prog 8 #[.agg #[.int .i64 o, .int .i64 d, .int .i64 a, .int .i64 b, .int .i64 n, .int .i64 t], .agg #[.int .i64 o', .int .i64 d', .int .i64 a', .int .i64 b', .int .i64 n', .int .i64 t']] w fun e w' => e = .returned (.bool true) ∧ New w w' := by
  have HL := Lib.hid hl
  have HX := Lib.hid hx
  have HY := Lib.hid hy
  have ex := prtE_good cx
  have ey := prtE_good cy
  have hiff : ((prtT ⟨o, d, a, b, n, t⟩).toList == (prtT ⟨o', d', a', b', n', t'⟩).toList) = decide (o = o' ∧ d = d' ∧ a = a' ∧ b = b' ∧ n = n' ∧ t = t') := by
    refine str_beq ?_
    rw [prtT_good cx, prtT_good cy]
    rw [decide_eq_decide]
    rw [prt_inj HX.out HY.out cx cy, eq_fields]
  have hx0 := Lib.hid ((Has.box w ⟨o, d, a, b, n, t⟩).new (alloc_new _ (.cells #[.int .i64 o', .int .i64 d', .int .i64 a', .int .i64 b', .int .i64 n', .int .i64 t'] 23)))
  have hy0 := Has.box (w.alloc (.cells #[.int .i64 o, .int .i64 d, .int .i64 a, .int .i64 b, .int .i64 n, .int .i64 t] 23)) ⟨o', d', a', b', n', t'⟩
  rw [alloc_size] at hy0
  have hy0 := Lib.hid hy0
  clear cx cy hl hx hy
  by_cases heq : o = o' ∧ d = d' ∧ a = a' ∧ b = b' ∧ n = n' ∧ t = t'
  · obtain ⟨rfl, rfl, rfl, rfl, rfl, rfl⟩ := heq
    have hq : ((prtT ⟨o, d, a, b, n, t⟩).toList == (prtT ⟨o, d, a, b, n, t⟩).toList) = true := by simp
    clear hiff
    go_enter Tryd.func8, Tryd.ntmps8
    go_wp2_with fail
    refine (print_any o d a b n t HX.out _ ((HL.out.alloc _).alloc _)).mono ?_
    rintro e w1 ⟨rfl, hn1⟩
    go_wp2_with (first
      | (refine wpList_ldI rfl (.tmp 3) rfl _ rfl (hy0.out.new hn1) ?_)
      | (go_at_call 15; refine (print_any o d a b n t HY.out _ (((HL.out.alloc _).alloc _).new hn1)).mono ?_; rintro e w2 ⟨rfl, hn2⟩; have hcur := ((((New.refl w).alloc _).alloc _).trans hn1).trans hn2)
      | (refine wpList_ldI rfl (.tmp 2) rfl _ rfl ((hx0.out.new hn1).new hn2) ?_)
      | (refine wpList_ldI rfl (.tmp 3) rfl _ rfl ((hy0.out.new hn1).new hn2) ?_)
      | (go_at_call 14; refine (knows_from _ HL hcur).mono ?_; rintro e w3 ⟨rfl, hn3⟩))
    all_goals
      go_ret
      exact ⟨rfl, hn3⟩
  · have hq : ((prtT ⟨o, d, a, b, n, t⟩).toList == (prtT ⟨o', d', a', b', n', t'⟩).toList) = false := by rw [hiff]; exact decide_eq_false heq
    have HN := Lib.hid heq
    clear hiff heq
    go_enter Tryd.func8, Tryd.ntmps8
    go_wp2_with fail
    refine (print_any o d a b n t HX.out _ ((HL.out.alloc _).alloc _)).mono ?_
    rintro e w1 ⟨rfl, hn1⟩
    go_wp2_with (first
      | (refine wpList_ldI rfl (.tmp 3) rfl _ rfl (hy0.out.new hn1) ?_)
      | (go_at_call 15; refine (print_any o' d' a' b' n' t' HY.out _ (((HL.out.alloc _).alloc _).new hn1)).mono ?_; rintro e w2 ⟨rfl, hn2⟩; have hcur := ((((New.refl w).alloc _).alloc _).trans hn1).trans hn2)
      | (refine wpList_ldI rfl (.tmp 2) rfl _ rfl ((hx0.out.new hn1).new hn2) ?_)
      | (refine wpList_ldI rfl (.tmp 3) rfl _ rfl ((hy0.out.new hn1).new hn2) ?_)
      | (go_at_call 14; refine (knows_from _ HL hcur).mono ?_; rintro e w3 ⟨rfl, hn3⟩))
    all_goals first
      | (go_ret; exact ⟨rfl, hn3⟩)
      | (exfalso; exact HN.out ⟨by assumption, by assumption, by assumption, by assumption, by assumption, by assumption⟩)
set_option maxHeartbeats 2000000 in
set_option maxRecDepth 100000 in
theorem insApart_out1 (o d a b n t o' d' a' b' n' t' : Int) (hx : In64I ⟨o, d, a, b, n, t⟩) (hy : In64I ⟨o', d', a', b', n', t'⟩) (ex : ¬ prtE ⟨o, d, a, b, n, t⟩ = 0) (w : World) (hl : Laid w) :
    Calls Tryd.prog 8 #[.agg #[.int .i64 o, .int .i64 d, .int .i64 a, .int .i64 b, .int .i64 n, .int .i64 t], .agg #[.int .i64 o', .int .i64 d', .int .i64 a', .int .i64 b', .int .i64 n', .int .i64 t']] w fun e w' => e = .returned (.bool true) ∧ New w w' := by
  have HL := Lib.hid hl
  have HX := Lib.hid hx
  have HY := Lib.hid hy
  have hy0 := Has.box (w.alloc (.cells #[.int .i64 o, .int .i64 d, .int .i64 a, .int .i64 b, .int .i64 n, .int .i64 t] 23)) ⟨o', d', a', b', n', t'⟩
  rw [alloc_size] at hy0
  have hy0 := Lib.hid hy0
  clear hl hx hy
  go_enter Tryd.func8, Tryd.ntmps8
  go_wp2_with fail
  refine (print_any o d a b n t HX.out _ ((HL.out.alloc _).alloc _)).mono ?_
  rintro e w1 ⟨rfl, hn1⟩
  go_wp2_with (first
    | (refine wpList_ldI rfl (.tmp 3) rfl _ rfl (hy0.out.new hn1) ?_)
    | (go_at_call 15; refine (print_any o' d' a' b' n' t' HY.out _ (((HL.out.alloc _).alloc _).new hn1)).mono ?_; rintro e w2 ⟨rfl, hn2⟩; have hcur := ((((New.refl w).alloc _).alloc _).trans hn1).trans hn2)
    | (go_at_call 14; refine (knows_from _ HL hcur).mono ?_; rintro e w3 ⟨rfl, hn3⟩))
  all_goals
    go_ret
    exact ⟨rfl, hn3⟩
set_option maxHeartbeats 2000000 in
set_option maxRecDepth 100000 in
theorem insApart_out2 (o d a b n t o' d' a' b' n' t' : Int) (hx : In64I ⟨o, d, a, b, n, t⟩) (hy : In64I ⟨o', d', a', b', n', t'⟩) (ex : prtE ⟨o, d, a, b, n, t⟩ = 0) (ey : (prtE ⟨o', d', a', b', n', t'⟩ != 0) = true) (w : World) (hl : Laid w) :
    Calls Tryd.prog 8 #[.agg #[.int .i64 o, .int .i64 d, .int .i64 a, .int .i64 b, .int .i64 n, .int .i64 t], .agg #[.int .i64 o', .int .i64 d', .int .i64 a', .int .i64 b', .int .i64 n', .int .i64 t']] w fun e w' => e = .returned (.bool true) ∧ New w w' := by
  have HL := Lib.hid hl
  have HX := Lib.hid hx
  have HY := Lib.hid hy
  have hy0 := Has.box (w.alloc (.cells #[.int .i64 o, .int .i64 d, .int .i64 a, .int .i64 b, .int .i64 n, .int .i64 t] 23)) ⟨o', d', a', b', n', t'⟩
  rw [alloc_size] at hy0
  have hy0 := Lib.hid hy0
  clear hl hx hy
  go_enter Tryd.func8, Tryd.ntmps8
  go_wp2_with fail
  refine (print_any o d a b n t HX.out _ ((HL.out.alloc _).alloc _)).mono ?_
  rintro e w1 ⟨rfl, hn1⟩
  go_wp2_with (first
    | (refine wpList_ldI rfl (.tmp 3) rfl _ rfl (hy0.out.new hn1) ?_)
    | (go_at_call 15; refine (print_any o' d' a' b' n' t' HY.out _ (((HL.out.alloc _).alloc _).new hn1)).mono ?_; rintro e w2 ⟨rfl, hn2⟩; have hcur := ((((New.refl w).alloc _).alloc _).trans hn1).trans hn2)
    | (go_at_call 14; refine (knows_from _ HL hcur).mono ?_; rintro e w3 ⟨rfl, hn3⟩))
  all_goals
    go_ret
    exact ⟨rfl, hn3⟩
theorem insApart_law (o d a b n t o' d' a' b' n' t' : Int) (hx : In64I ⟨o, d, a, b, n, t⟩) (hy : In64I ⟨o', d', a', b', n', t'⟩) (w : World) (hl : Laid w) :
    Calls Tryd.prog 8 #[.agg #[.int .i64 o, .int .i64 d, .int .i64 a, .int .i64 b, .int .i64 n, .int .i64 t], .agg #[.int .i64 o', .int .i64 d', .int .i64 a', .int .i64 b', .int .i64 n', .int .i64 t']] w fun e w' => e = .returned (.bool true) ∧ New w w' := by
  by_cases cx : chkV ⟨o, d, a, b, n, t⟩ 200 = 0
  · by_cases cy : chkV ⟨o', d', a', b', n', t'⟩ 200 = 0
    · exact insApart_in o d a b n t o' d' a' b' n' t' hx hy cx cy w hl
    · exact insApart_out2 o d a b n t o' d' a' b' n' t' hx hy (prtE_good cx) (by rw [prtE_bad cy]; rfl) w hl
  · exact insApart_out1 o d a b n t o' d' a' b' n' t' hx hy (by rw [prtE_bad cx]; decide) w hl
end Go.Proofs.YtlebmmlkckilfaaDoor
