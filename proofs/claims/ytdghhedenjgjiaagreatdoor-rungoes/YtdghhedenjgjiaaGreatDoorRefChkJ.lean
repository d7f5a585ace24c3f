/-
  The reference's Check (joineryref03), at every instruction and every number: what ins.Check tells.
-/
import Derived.Test.YtdghhedenjgjiaaGreatDoorRefChkW
namespace Go.Proofs.YtdghhedenjgjiaaGreatDoor
open Go.RowKit

theorem only_op (x : I) : (onlyV x).op = x.op := put_op _ _
theorem refCheck_any (o d a b n t m : Int) (w : World) :
    Calls Tryz.prog 60 #[.agg #[.int .i64 o, .int .i64 d, .int .i64 a, .int .i64 b, .int .i64 n, .int .i64 t], .int .i64 m] w fun e w' => e = .returned (.int .i64 (chkV ⟨o, d, a, b, n, t⟩ m)) ∧ New w w' := by
  cases hk : knownB o with
  | false =>
    rw [chk_unknown hk]
    by_cases h1 : o < 1
    · exact rchk_low o d a b n t m h1 w
    · have h2 : 18 < o := by
        by_cases h : 18 < o
        · exact h
        · have := known_iff.mpr ⟨show 1 ≤ o by omega, show o ≤ 18 by omega⟩
          rw [this] at hk; cases hk
      exact rchk_high o d a b n t m (by simpa using h1) h2 w
  | true =>
    have hk' := known_iff.mp hk
    have k1 : decide (o < 1) = false := by simp; omega
    have k2 : decide (18 < o) = false := by simp; omega
    have H : ∀ w', New (w.alloc (.cells #[.int .i64 o, .int .i64 d, .int .i64 a, .int .i64 b, .int .i64 n, .int .i64 t] 72)) w' → Calls Tryz.prog 72 #[.agg #[.int .i64 o, .int .i64 d, .int .i64 a, .int .i64 b, .int .i64 n, .int .i64 t]] w' fun e w'' => e = .returned (.agg #[.int .i64 (onlyV ⟨o, d, a, b, n, t⟩).op, .int .i64 (onlyV ⟨o, d, a, b, n, t⟩).d, .int .i64 (onlyV ⟨o, d, a, b, n, t⟩).a, .int .i64 (onlyV ⟨o, d, a, b, n, t⟩).b, .int .i64 (onlyV ⟨o, d, a, b, n, t⟩).n, .int .i64 (onlyV ⟨o, d, a, b, n, t⟩).t]) ∧ New (w.alloc (.cells #[.int .i64 o, .int .i64 d, .int .i64 a, .int .i64 b, .int .i64 n, .int .i64 t] 72)) w'' :=
      fun w' hn => only_from o d a b n t hk w' hn
    by_cases hs : onlyV ⟨o, d, a, b, n, t⟩ = ⟨o, d, a, b, n, t⟩
    · rw [chk_refV hk hs]
      rw [hs] at H
      by_cases h15 : o = 15
      · subst h15
        by_cases n0 : n < 0
        · rw [show refV ⟨15, d, a, b, n, t⟩ m = 1 from if_pos ⟨rfl, .inl n0⟩]
          exact rchk_call_low d a b n t m n0 w (Lib.hid H)
        · by_cases n9 : 99 < n
          · rw [show refV ⟨15, d, a, b, n, t⟩ m = 1 from if_pos ⟨rfl, .inr n9⟩]
            exact rchk_call_high d a b n t m (by simpa using n0) n9 w (Lib.hid H)
          · exact rchk_call_in d a b n t m (by simpa using n0) (by simpa using n9) w (Lib.hid H)
      · exact rchk_in o d a b n t m k1 k2 (bneq_of h15) w (Lib.hid H)
    · rw [chk_spare hk hs]
      have hop := only_op ⟨o, d, a, b, n, t⟩
      rw [eq_six] at hs
      generalize onlyV ⟨o, d, a, b, n, t⟩ = y at *
      obtain ⟨o1, d1, a1, b1, n1, t1⟩ := y
      simp only at hop hs H
      subst hop
      by_cases e1 : d1 = d
      · subst e1
        by_cases e2 : a1 = a
        · subst e2
          by_cases e3 : b1 = b
          · subst e3
            by_cases e4 : n1 = n
            · subst e4
              by_cases e5 : t1 = t
              · exact absurd ⟨rfl, rfl, rfl, rfl, rfl, e5⟩ hs
              · exact rchk_diff_t _ _ _ _ _ t m t1 k1 k2 e5 w (Lib.hid H)
            · exact rchk_diff_n _ _ _ _ n t m n1 t1 k1 k2 e4 w (Lib.hid H)
          · exact rchk_diff_b _ _ _ b n t m b1 n1 t1 k1 k2 e3 w (Lib.hid H)
        · exact rchk_diff_a _ _ a b n t m a1 b1 n1 t1 k1 k2 e2 w (Lib.hid H)
      · exact rchk_diff_d _ d a b n t m d1 a1 b1 n1 t1 k1 k2 e1 w (Lib.hid H)
theorem refCheck_from {w0 : World} (o d a b n t m : Int) (w : World) (h : New w0 w) :
    Calls Tryz.prog 60 #[.agg #[.int .i64 o, .int .i64 d, .int .i64 a, .int .i64 b, .int .i64 n, .int .i64 t], .int .i64 m] w fun e w' => e = .returned (.int .i64 (chkV ⟨o, d, a, b, n, t⟩ m)) ∧ New w0 w' :=
  (refCheck_any o d a b n t m w).mono fun _ _ ⟨he, hw⟩ => ⟨he, h.trans hw⟩
end Go.Proofs.YtdghhedenjgjiaaGreatDoor
