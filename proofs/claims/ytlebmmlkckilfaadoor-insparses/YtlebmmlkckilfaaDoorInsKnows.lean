/-
  The examples at the end of layer 3's laws ('knows'): true.
-/
import Derived.Test.YtlebmmlkckilfaaDoorInsE
import Derived.Test.YtlebmmlkckilfaaDoorInsF
namespace Go.Proofs.YtlebmmlkckilfaaDoor
open Go.RowKit

/-- The load of an instruction, at an operation whose guard is met. -/
theorem wpList_ldG {ops : Array Oper} {rest : List Oper} {op : Oper} {act : Act} {w : World} {Q : Exit → Act → World → Prop} (hw : Region.wanted op (yielded ops act.tmps) = true) (p : Operand) (ho : op.op = .load 23 p)
    (g : Nat) (hx : act.eval p = .pointer (some ⟨g, 0, none⟩)) {x : I} (h : Has w g x)
    (hk : wpList Tryd.prog ops Q rest (act.put op.dst (.agg #[.int .i64 (x).op, .int .i64 (x).d, .int .i64 (x).a, .int .i64 (x).b, .int .i64 (x).n, .int .i64 (x).t])) w) : wpList Tryd.prog ops Q (op :: rest) act w := by
  unfold wpList
  rw [if_pos hw]
  exact .inl (wp_load_row _ p ho g hx _ _ _ _ h Tryd.underlying23 rfl infoI hk)

theorem parse_yes (l : List UInt8) (x : I) (hx : In64I x) (hc : chkV x 200 = 0) (hp : prtL x = l) (hz : l.length ≤ 1000) (w : World) (hl : Laid w) :
    Calls Tryd.prog 17 #[.string ⟨l.toArray⟩] w fun e w' => e = .returned (.tuple #[.agg #[.int .i64 (x).op, .int .i64 (x).d, .int .i64 (x).a, .int .i64 (x).b, .int .i64 (x).n, .int .i64 (x).t], .int .i64 0]) ∧ New w w' := by
  have h := insParse_any ⟨l.toArray⟩ (by show l.toArray.size ≤ _; simp; omega) w hl
  have hs : prs l = some x := prs_iff.mpr ⟨hx, hc, hp⟩
  rw [arr_list, prsX_some hs, prsE_some hs] at h
  exact h
theorem parse_not (l : List UInt8) (hp : prs l = none) (hz : l.length ≤ 1000) (w : World) (hl : Laid w) :
    Calls Tryd.prog 17 #[.string ⟨l.toArray⟩] w fun e w' => e = .returned (.tuple #[.agg #[.int .i64 0, .int .i64 0, .int .i64 0, .int .i64 0, .int .i64 0, .int .i64 0], .int .i64 2]) ∧ New w w' := by
  have h := insParse_any ⟨l.toArray⟩ (by show l.toArray.size ≤ _; simp; omega) w hl
  rw [arr_list, prsX_none hp, prsE_none hp] at h
  exact h

set_option maxHeartbeats 2000000 in
set_option maxRecDepth 100000 in
theorem knows_any (w : World) (hl : Laid w) : Calls Tryd.prog 14 #[] w fun e w' => e = .returned (.bool true) ∧ New w w' := by
  have p1 : ∀ w, Laid w → Calls Tryd.prog 17 #[.string ⟨#[97, 100, 100, 32, 114, 49, 32, 114, 50, 32, 114, 51]⟩] w fun e w' => e = .returned (.tuple #[.agg #[.int .i64 4, .int .i64 1, .int .i64 2, .int .i64 3, .int .i64 0, .int .i64 0], .int .i64 0]) ∧ New w w' :=
    fun w hl => parse_yes [97, 100, 100, 32, 114, 49, 32, 114, 50, 32, 114, 51] ⟨4, 1, 2, 3, 0, 0⟩ (by unfold In64I In64; simp) (by decide +kernel) (by decide +kernel) (by decide) w hl
  have p2 : ∀ w, Laid w → Calls Tryd.prog 17 #[.string ⟨#[97, 100, 100, 32, 115, 49, 32, 114, 50, 32, 114, 51]⟩] w fun e w' => e = .returned (.tuple #[.agg #[.int .i64 0, .int .i64 0, .int .i64 0, .int .i64 0, .int .i64 0, .int .i64 0], .int .i64 2]) ∧ New w w' :=
    fun w hl => parse_not [97, 100, 100, 32, 115, 49, 32, 114, 50, 32, 114, 51] (by
      have h : (prs [97, 100, 100, 32, 115, 49, 32, 114, 50, 32, 114, 51]).isNone = true := by decide +kernel
      simpa using h) (by decide) w hl
  have t1 : prtT ⟨1, 12, 0, 0, -7, 0⟩ = ⟨#[99, 111, 110, 115, 116, 32, 115, 52, 32, 45, 55]⟩ := bytes_eq (by decide +kernel)
  have t2 : prtE ⟨1, 12, 0, 0, -7, 0⟩ = 0 := by decide +kernel
  have s1 : setsV ⟨4, 1, 2, 3, 0, 0⟩ = 1 := by decide +kernel
  have s2 : setsB 4 = true := by decide +kernel
  have m1 : movesB 16 = true := by decide
  have c1 : chkV ⟨4, 1, 2, 3, 0, 0⟩ 1 = 0 := by decide +kernel
  have U : Hid (usesL ⟨4, 1, 2, 3, 0, 0⟩ = [2, 3]) := Lib.hid (by decide +kernel)
  have P1 := Lib.hid p1
  have P2 := Lib.hid p2
  have HL := Lib.hid hl
  clear p1 p2 hl
  go_enter Tryd.func14, Tryd.ntmps14
  go_wp2_with fail
  refine (P1.out _ HL.out).mono ?_
  rintro e w1 ⟨rfl, hcur⟩
  have hx := Has.box w1 ⟨4, 1, 2, 3, 0, 0⟩
  dsimp only at hx
  go_wp2_with (go_at_call 15; refine (print_any 1 12 0 0 (-7) 0 (by unfold In64I In64; simp) _ ((HL.out.new hcur).alloc _)).mono ?_; rintro e w2 ⟨rfl, hn⟩; have hcur := (hcur.alloc _).trans hn; have hx := hx.new hn)
  refine (P2.out _ (HL.out.new hcur)).mono ?_
  rintro e w3 ⟨rfl, hn⟩
  have hcur := hcur.trans hn
  have hx := (hx.new hn).new (alloc_new _ (.cells #[.int .i64 0, .int .i64 0, .int .i64 0, .int .i64 0, .int .i64 0, .int .i64 0] 23))
  have hcur := hcur.alloc (.cells #[.int .i64 0, .int .i64 0, .int .i64 0, .int .i64 0, .int .i64 0, .int .i64 0] 23)
  go_wp2_with (first
    | (refine wpList_ldG rfl (.tmp 1) rfl _ rfl hx ?_)
    | (go_at_call 21; refine (sets_any 4 1 2 3 0 0 _ (HL.out.new hcur)).mono ?_; rintro e w4 ⟨rfl, hn⟩; have hcur := hcur.trans hn; have hx := hx.new hn)
    | (go_at_call 19; refine (uses_any 4 1 2 3 0 0 _ (HL.out.new hcur)).mono ?_; rintro e w4 ⟨v, rfl, hown, hn⟩; have hcur := hcur.trans hn; have hx := hx.new hn; rw [U.out] at hown; obtain ⟨g, cap, rfl⟩ : ∃ g cap, v = .slice (some ⟨g, 0, none⟩) 2 cap := (hown.2.elim (fun h => by simp at h) (fun ⟨g, cap, _, h, _⟩ => ⟨g, cap, h⟩)))
    | (go_at_call 23; refine (moves_any 16 0 0 0 0 0 _).mono ?_; rintro e w4 ⟨rfl, hn⟩; have hcur := hcur.trans hn; have hx := hx.new hn)
    | (go_at_call 12; refine (check_any 4 1 2 3 0 0 1 _ (HL.out.new hcur)).mono ?_; rintro e w4 ⟨rfl, hn⟩; have hcur := hcur.trans hn; have hx := hx.new hn))
  go_ret
  exact ⟨rfl, hcur⟩
theorem knows_from {w0 : World} (w : World) (hl : Hid (Laid w0)) (h : New w0 w) : Calls Tryd.prog 14 #[] w fun e w' => e = .returned (.bool true) ∧ New w0 w' :=
  (knows_any w (hl.out.new h)).mono fun _ _ ⟨he, hw⟩ => ⟨he, h.trans hw⟩
end Go.Proofs.YtlebmmlkckilfaaDoor
