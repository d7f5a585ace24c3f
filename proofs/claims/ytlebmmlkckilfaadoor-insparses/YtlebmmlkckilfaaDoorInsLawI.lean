/-
  The law InsParses: true at every input.
-/
import Derived.Test.YtlebmmlkckilfaaDoorRefPrsJ
import Derived.Test.YtlebmmlkckilfaaDoorInsKnows
namespace Go.Proofs.YtlebmmlkckilfaaDoor
open Go.RowKit

set_option maxHeartbeats 1000000 in
set_option maxRecDepth 100000 in
theorem insParses_long (s : ByteArray) (h : (1000 : Int) < (s.size : Int)) (w : World) (hl : Laid w) :
    Calls Tryd.prog 5 #[.string s] w fun e w' => e = .returned (.bool true) ∧ New w w' := by
  have HL := Lib.hid hl
  clear hl
  go_enter Tryd.func5, Tryd.ntmps5
  go_wp2_with (go_at_call 14; refine (knows_from _ HL (New.refl _)).mono ?_; rintro e w1 ⟨rfl, h1⟩)
  go_ret
  exact ⟨rfl, h1⟩
set_option maxHeartbeats 2000000 in
set_option maxRecDepth 100000 in
theorem insParses_some (o' d' a' b' n' t' : Int) (s : ByteArray) (hs : s.size ≤ 1000) (hp : prs s.data.toList = some ⟨o', d', a', b', n', t'⟩) (w : World) (hl : Laid w) :
    Calls Tryd.prog 5 #[.string s] w fun e w' => e = .returned (.bool true) ∧ New w w' := by
  have HL := Lib.hid hl
  have hlen : ¬ (1000 : Int) < (s.size : Int) := by omega
  have P : Hid (∀ w, Laid w → Calls Tryd.prog 17 #[.string s] w fun e w' => e = .returned (.tuple #[.agg #[.int .i64 ((⟨o', d', a', b', n', t'⟩ : I)).op, .int .i64 ((⟨o', d', a', b', n', t'⟩ : I)).d, .int .i64 ((⟨o', d', a', b', n', t'⟩ : I)).a, .int .i64 ((⟨o', d', a', b', n', t'⟩ : I)).b, .int .i64 ((⟨o', d', a', b', n', t'⟩ : I)).n, .int .i64 ((⟨o', d', a', b', n', t'⟩ : I)).t], .int .i64 0]) ∧ New w w') := Lib.hid fun w hl => by
    have h := insParse_any s (by omega) w hl
    rw [prsX_some hp, prsE_some hp] at h
    exact h
  have R : Hid (∀ w, Calls Tryd.prog 18 #[.string s] w fun e w' => e = .returned (.tuple #[.agg #[.int .i64 ((⟨o', d', a', b', n', t'⟩ : I)).op, .int .i64 ((⟨o', d', a', b', n', t'⟩ : I)).d, .int .i64 ((⟨o', d', a', b', n', t'⟩ : I)).a, .int .i64 ((⟨o', d', a', b', n', t'⟩ : I)).b, .int .i64 ((⟨o', d', a', b', n', t'⟩ : I)).n, .int .i64 ((⟨o', d', a', b', n', t'⟩ : I)).t], .bool true]) ∧ New w w') := Lib.hid fun w => by
    have h := refParse_any s hs w
    rw [prsX_some hp, hp] at h
    exact h
  clear hl hs hp
  go_enter Tryd.func5, Tryd.ntmps5
  go_wp2_with fail
  refine (P.out _ HL.out).mono ?_
  rintro e w1 ⟨rfl, hn1⟩
  go_wp2_with fail
  refine (R.out _).mono ?_
  rintro e w2 ⟨rfl, hn2⟩
  have hx := ((Has.box w1 (⟨o', d', a', b', n', t'⟩ : I)).new hn2).new (alloc_new _ (.cells #[.int .i64 o', .int .i64 d', .int .i64 a', .int .i64 b', .int .i64 n', .int .i64 t'] 23))
  have hcur := ((hn1.alloc (.cells #[.int .i64 o', .int .i64 d', .int .i64 a', .int .i64 b', .int .i64 n', .int .i64 t'] 23)).trans hn2).alloc (.cells #[.int .i64 o', .int .i64 d', .int .i64 a', .int .i64 b', .int .i64 n', .int .i64 t'] 23)
  go_wp2_with (first
    | (refine wpList_ldI rfl (.tmp 3) rfl _ rfl hx ?_)
    | (go_at_call 14; refine (knows_from _ HL hcur).mono ?_; rintro e w3 ⟨rfl, h3⟩))
  go_ret
  exact ⟨rfl, h3⟩
set_option maxHeartbeats 2000000 in
set_option maxRecDepth 100000 in
theorem insParses_none (s : ByteArray) (hs : s.size ≤ 1000) (hp : prs s.data.toList = none) (w : World) (hl : Laid w) :
    Calls Tryd.prog 5 #[.string s] w fun e w' => e = .returned (.bool true) ∧ New w w' := by
  have HL := Lib.hid hl
  have hlen : ¬ (1000 : Int) < (s.size : Int) := by omega
  have P : Hid (∀ w, Laid w → Calls Tryd.prog 17 #[.string s] w fun e w' => e = .returned (.tuple #[.agg #[.int .i64 ((⟨0, 0, 0, 0, 0, 0⟩ : I)).op, .int .i64 ((⟨0, 0, 0, 0, 0, 0⟩ : I)).d, .int .i64 ((⟨0, 0, 0, 0, 0, 0⟩ : I)).a, .int .i64 ((⟨0, 0, 0, 0, 0, 0⟩ : I)).b, .int .i64 ((⟨0, 0, 0, 0, 0, 0⟩ : I)).n, .int .i64 ((⟨0, 0, 0, 0, 0, 0⟩ : I)).t], .int .i64 2]) ∧ New w w') := Lib.hid fun w hl => by
    have h := insParse_any s (by omega) w hl
    rw [prsX_none hp, prsE_none hp] at h
    exact h
  have R : Hid (∀ w, Calls Tryd.prog 18 #[.string s] w fun e w' => e = .returned (.tuple #[.agg #[.int .i64 ((⟨0, 0, 0, 0, 0, 0⟩ : I)).op, .int .i64 ((⟨0, 0, 0, 0, 0, 0⟩ : I)).d, .int .i64 ((⟨0, 0, 0, 0, 0, 0⟩ : I)).a, .int .i64 ((⟨0, 0, 0, 0, 0, 0⟩ : I)).b, .int .i64 ((⟨0, 0, 0, 0, 0, 0⟩ : I)).n, .int .i64 ((⟨0, 0, 0, 0, 0, 0⟩ : I)).t], .bool false]) ∧ New w w') := Lib.hid fun w => by
    have h := refParse_any s hs w
    rw [prsX_none hp, hp] at h
    exact h
  clear hl hs hp
  go_enter Tryd.func5, Tryd.ntmps5
  go_wp2_with fail
  refine (P.out _ HL.out).mono ?_
  rintro e w1 ⟨rfl, hn1⟩
  go_wp2_with fail
  refine (R.out _).mono ?_
  rintro e w2 ⟨rfl, hn2⟩
  have hx := ((Has.box w1 (⟨0, 0, 0, 0, 0, 0⟩ : I)).new hn2).new (alloc_new _ (.cells #[.int .i64 0, .int .i64 0, .int .i64 0, .int .i64 0, .int .i64 0, .int .i64 0] 23))
  have hcur := ((hn1.alloc (.cells #[.int .i64 0, .int .i64 0, .int .i64 0, .int .i64 0, .int .i64 0, .int .i64 0] 23)).trans hn2).alloc (.cells #[.int .i64 0, .int .i64 0, .int .i64 0, .int .i64 0, .int .i64 0, .int .i64 0] 23)
  go_wp2_with (first
    | (refine wpList_ldI rfl (.tmp 3) rfl _ rfl hx ?_)
    | (go_at_call 14; refine (knows_from _ HL hcur).mono ?_; rintro e w3 ⟨rfl, h3⟩))
  go_ret
  exact ⟨rfl, h3⟩
theorem insParses_law (s : ByteArray) (_hs : s.size ≤ maxLen) (w : World) (hl : Laid w) :
    Calls Tryd.prog 5 #[.string s] w fun e w' => e = .returned (.bool true) ∧ New w w' := by
  by_cases h : s.size ≤ 1000
  · cases hp : prs s.data.toList with
    | none => exact insParses_none s h hp w hl
    | some z =>
      obtain ⟨o', d', a', b', n', t'⟩ := z
      exact insParses_some o' d' a' b' n' t' s h hp w hl
  · exact insParses_long s (by omega) w hl
end Go.Proofs.YtlebmmlkckilfaaDoor
