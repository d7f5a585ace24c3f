/-
  The reference's Parse of instructions (joineryref03), out of its callees' contracts: what ins.Parse tells.
-/
import Derived.Test.YtoeplfhigpdopaaDoorRefPrsM
import Derived.Test.YtoeplfhigpdopaaDoorInsE
import Derived.Deep.Light
import Derived.Deep.LoopGhost
namespace Go.Proofs.YtoeplfhigpdopaaDoor
open Go.RowKit

/-- What the reference's Parse calls. -/
structure Callees : Prop where
  word : ∀ k : Nat, 1 ≤ k → k ≤ 18 → ∀ w : World, Calls Tryd.prog 45 #[.int .i64 k] w fun e w' => e = .returned (.string (wordB k)) ∧ New w w'
  chk : ∀ (o d a b n t m : Int) (w : World), Calls Tryd.prog 22 #[.agg #[.int .i64 o, .int .i64 d, .int .i64 a, .int .i64 b, .int .i64 n, .int .i64 t], .int .i64 m] w fun e w' => e = .returned (.int .i64 (chkV ⟨o, d, a, b, n, t⟩ m)) ∧ New w w'
  prt : ∀ (o d a b n t : Int), In64I ⟨o, d, a, b, n, t⟩ → chkV ⟨o, d, a, b, n, t⟩ 200 = 0 → ∀ w : World, Calls Tryd.prog 27 #[.agg #[.int .i64 o, .int .i64 d, .int .i64 a, .int .i64 b, .int .i64 n, .int .i64 t]] w fun e w' => e = .returned (.string ⟨(prtL ⟨o, d, a, b, n, t⟩).toArray⟩) ∧ New w w'
  loc : ∀ (s : ByteArray) (w : World), Calls Tryd.prog 51 #[.string s] w fun e w' => e = .returned (.tuple #[.int .i64 (locN s.data.toList), .bool (locOf s.data.toList).isSome]) ∧ New w w'
  num : ∀ (s : ByteArray) (w : World), Calls Tryd.prog 52 #[.string s] w fun e w' => e = .returned (.tuple #[.int .i64 (parN s.data.toList), .bool (parseV s.data.toList).isSome]) ∧ New w w'

theorem Callees.wordF (C : Callees) {w0 : World} (k : Nat) (h1 : 1 ≤ k) (h2 : k ≤ 18) (w : World) (h : New w0 w) :
    Calls Tryd.prog 45 #[.int .i64 k] w fun e w' => e = .returned (.string (wordB k)) ∧ New w0 w' :=
  (C.word k h1 h2 w).mono fun _ _ ⟨he, hw⟩ => ⟨he, h.trans hw⟩
theorem step_d {op : Int} {k : Nat} {x : I} {wd : List UInt8} (h : (locOf wd).isSome = true) (h1 : atW op k = 1) : stepW op k x wd = { x with d := locN wd } := by
  unfold stepW; rw [if_pos h, if_pos h1]
theorem step_a {op : Int} {k : Nat} {x : I} {wd : List UInt8} (h : (locOf wd).isSome = true) (h1 : atW op k = 2) : stepW op k x wd = { x with a := locN wd } := by
  unfold stepW; rw [if_pos h, if_neg (by omega), if_pos h1]
theorem step_b {op : Int} {k : Nat} {x : I} {wd : List UInt8} (h : (locOf wd).isSome = true) (h1 : atW op k ≠ 1) (h2 : atW op k ≠ 2) : stepW op k x wd = { x with b := locN wd } := by
  unfold stepW; rw [if_pos h, if_neg h1, if_neg h2]
theorem step_t {op : Int} {k : Nat} {x : I} {wd : List UInt8} (h : (locOf wd).isSome = false) (hp : (parseV wd).isSome = true) (h1 : op = 16 ∨ op = 17) : stepW op k x wd = { x with t := parN wd } := by
  unfold stepW; rw [if_neg (by rw [h]; decide), if_pos hp, if_pos h1]
theorem step_n {op : Int} {k : Nat} {x : I} {wd : List UInt8} (h : (locOf wd).isSome = false) (hp : (parseV wd).isSome = true) (h1 : ¬ (op = 16 ∨ op = 17)) : stepW op k x wd = { x with n := parN wd } := by
  unfold stepW; rw [if_neg (by rw [h]; decide), if_pos hp, if_neg h1]
theorem step_none {op : Int} {k : Nat} {x : I} {wd : List UInt8} (h : (locOf wd).isSome = false) (hp : (parseV wd).isSome = false) : stepW op k x wd = x := by
  unfold stepW; rw [if_neg (by rw [h]; decide), if_neg (by rw [hp]; decide)]
theorem New.setC {a w : World} (h : New a w) {p : Addr} (hp : a.heap.size ≤ p.block) (u : Value) : New a (w.setCell p u) := Below.setCell h hp u
theorem has_full {w : World} {g : Nat} {x : I} (h : Has w g x) :
    w.cell? ⟨g, 1, none⟩ = some (.int .i64 x.d) ∧ w.cell? ⟨g, 2, none⟩ = some (.int .i64 x.a) ∧ w.cell? ⟨g, 3, none⟩ = some (.int .i64 x.b) ∧ w.cell? ⟨g, 4, none⟩ = some (.int .i64 x.n) ∧ w.cell? ⟨g, 5, none⟩ = some (.int .i64 x.t) ∧
    w.frozen? ⟨g, 1, none⟩ = false ∧ w.frozen? ⟨g, 2, none⟩ = false ∧ w.frozen? ⟨g, 3, none⟩ = false ∧ w.frozen? ⟨g, 4, none⟩ = false ∧ w.frozen? ⟨g, 5, none⟩ = false := by
  have hf : ∀ i, w.frozen? ⟨g, i, none⟩ = false := fun i => by
    have h' : w.heap[g]? = _ := h
    simp [World.frozen?, h']
  refine ⟨?_, ?_, ?_, ?_, ?_, hf 1, hf 2, hf 3, hf 4, hf 5⟩ <;> exact cell_of_row w g _ _ _ _ h
theorem Has.setD {w : World} {g : Nat} {x : I} (h : Has w g x) (v : Int) : Has (w.setCell ⟨g, 1, none⟩ (.int .i64 v)) g { x with d := v } := by
  unfold Has; rw [setCell_eq_setRow w g 1 _ _ _ _ h]; exact setRow_heap w g _ _ _ _ h
theorem Has.setA {w : World} {g : Nat} {x : I} (h : Has w g x) (v : Int) : Has (w.setCell ⟨g, 2, none⟩ (.int .i64 v)) g { x with a := v } := by
  unfold Has; rw [setCell_eq_setRow w g 2 _ _ _ _ h]; exact setRow_heap w g _ _ _ _ h
theorem Has.setB {w : World} {g : Nat} {x : I} (h : Has w g x) (v : Int) : Has (w.setCell ⟨g, 3, none⟩ (.int .i64 v)) g { x with b := v } := by
  unfold Has; rw [setCell_eq_setRow w g 3 _ _ _ _ h]; exact setRow_heap w g _ _ _ _ h
theorem Has.setN {w : World} {g : Nat} {x : I} (h : Has w g x) (v : Int) : Has (w.setCell ⟨g, 4, none⟩ (.int .i64 v)) g { x with n := v } := by
  unfold Has; rw [setCell_eq_setRow w g 4 _ _ _ _ h]; exact setRow_heap w g _ _ _ _ h
theorem Has.setT {w : World} {g : Nat} {x : I} (h : Has w g x) (v : Int) : Has (w.setCell ⟨g, 5, none⟩ (.int .i64 v)) g { x with t := v } := by
  unfold Has; rw [setCell_eq_setRow w g 5 _ _ _ _ h]; exact setRow_heap w g _ _ _ _ h
theorem words_list {w : World} {base e : Nat} {v : Value} {l : List (List UInt8)} (h : w.ownsRow base e 1 v l.length (l.map strV)) (hn : l ≠ []) :
    ∃ (g cap : Nat), v = .slice (some ⟨g, 0, none⟩) l.length cap ∧ ∀ k < l.length, w.cell? ⟨g, k, none⟩ = some (strV (l.getD k [])) := by
  rcases h.2 with ⟨rfl, h0⟩ | ⟨g, cap, cur, rfl, hg, hb, h1, h2, h3, h4⟩
  · exact absurd (List.eq_nil_of_length_eq_zero h0) hn
  · refine ⟨g, cap, rfl, fun k hk => ?_⟩
    rw [cell_of_row w g k cur e _ hb]
    have h5 : (cur.toList.take (l.length * 1))[k]? = (l.map strV)[k]? := by rw [h4]
    rw [List.getElem?_take, if_pos (by omega), List.getElem?_map] at h5
    rw [← Array.getElem?_toList, h5, List.getD_eq_getElem?_getD, List.getElem?_eq_getElem hk]
    rfl
theorem ldG {ops : Array Oper} {rest : List Oper} {op : Oper} {act : Act} {w : World} {Q : Exit → Act → World → Prop} (hw : Region.wanted op (yielded ops act.tmps) = true) (p : Operand) (ho : op.op = .load 41 p)
    (g : Nat) (hx : act.eval p = .pointer (some ⟨g, 0, none⟩)) {x : I} (h : Has w g x)
    (hk : wpList Tryd.prog ops Q rest (act.put op.dst (.agg #[.int .i64 (x).op, .int .i64 (x).d, .int .i64 (x).a, .int .i64 (x).b, .int .i64 (x).n, .int .i64 (x).t])) w) : wpList Tryd.prog ops Q (op :: rest) act w := by
  unfold wpList
  rw [if_pos hw]
  exact .inl (wp_load_row _ p ho g hx _ _ _ _ h Tryd.underlying41 rfl infoI hk)

set_option maxHeartbeats 8000000 in
set_option maxRecDepth 100000 in
theorem refPrs_any (C : Callees) (s : ByteArray) (hs : s.size ≤ 100000) (w : World) :
    Calls Tryd.prog 32 #[.string s] w fun e w' => e = .returned (.tuple #[.agg #[.int .i64 (prsX s.data.toList).op, .int .i64 (prsX s.data.toList).d, .int .i64 (prsX s.data.toList).a, .int .i64 (prsX s.data.toList).b, .int .i64 (prsX s.data.toList).n, .int .i64 (prsX s.data.toList).t], .bool (prs s.data.toList).isSome]) ∧ New w w' := by
  have HC := Lib.hid C
  have HS := Lib.hid hs
  have hz0 := Lib.hid (Has.zero w)
  clear C hs
  go_enter Tryd.func32, Tryd.ntmps32
  go_wp2_with fail
  refine (words_any s HS.out _).mono ?_
  rintro e w2 ⟨v, rfl, hown, hn2⟩
  obtain ⟨g0, cap, rfl, hcell⟩ := words_list hown (words_ne _ _)
  obtain ⟨N, hN⟩ : ∃ N, (wordsL s.data.toList).length = N := ⟨_, rfl⟩
  have hN1 : 1 ≤ N := by
    have := words_ne s.data.toList []
    have h2 : (wordsL s.data.toList).length ≠ 0 := fun e => this (List.eq_nil_of_length_eq_zero e)
    omega
  rw [hN] at hcell
  rw [hN]
  have HN := Lib.hid hN
  have HW := Lib.hid hcell
  have hz2 := Lib.hid (hz0.out.new hn2)
  have hcur := (alloc_new _ _).trans hn2
  clear hN hcell hown
  go_wp2_with fail
  go_loopg [5] 18 (fun gm v wr => ∃ k : Nat, 1 ≤ k ∧ k ≤ 19 ∧ gm = 19 - k ∧ v = .int .i64 k ∧ New w2 wr ∧ Hid (∀ j, 1 ≤ j → j < k → ¬ Takes s.data.toList j))
  case atStart => exact ⟨1, by omega, by omega, rfl, rfl, New.refl _, Lib.hid (fun j h1 h2 => by omega)⟩
  case round =>
    obtain ⟨k, hk1, hk2, rfl, rfl, hnw, HJ⟩ := hrel
    obtain ⟨wo, rfl⟩ : ∃ wo, wo = wr := ⟨_, rfl⟩
    by_cases hlt : k < 19
    · have hc0 : ∀ y : NewW wo, y.val.cell? ⟨g0, 0, none⟩ = some (.string ⟨((wordsL s.data.toList).getD 0 []).toArray⟩) := fun y => by
        have h := HW.out 0 (by omega)
        exact ((hnw.trans y.property).cell (World.block_lt_of_cell? _ _ h)).trans h
      have hne := newW_any wo
      have hk18 : decide ((k : Int) ≤ 18) = true := by simp; omega
      by_cases hq : wordL k = (wordsL s.data.toList).getD 0 []
      · have q : ((wordB k).toList == (wordsL s.data.toList).getD 0 []) = true := by rw [ByteArray.toList_eq, wordB_toList, hq]; simp
        by_cases hN4 : 4 < N
        · have HT : Hid (¬ Takes s.data.toList k) := Lib.hid (fun h => by have := h.2.1; have := HN.out; omega)
          generalize (wordsL s.data.toList).getD 0 [] = w0 at hc0 q hq
          clear hq
          go_wp2_with fail
          refine wp_region_new (w0 := wo) (New.refl _) (by kernel_rfl) (by kernel_rfl) ?_
          repeat (go_big_quiet_step (first | (go_at_call 45; exact quiet_new (HC.out.wordF k hk1 (by omega) _ (Subtype.property _)))))
          refine wpQuiet_nil ?_
          intro w3 h3
          go_wp2
          go_roundg (19 - (k + 1))
          case measure => omega
          case rel =>
            refine ⟨k + 1, by omega, by omega, rfl, by go_num, hnw.trans h3, Lib.hid (fun j h1 h2 => ?_)⟩
            by_cases hjk : j = k
            · rw [hjk]; exact HT.out
            · exact HJ.out j h1 (by omega)
        · by_cases hcl : k = 14 ∨ k = 16 ∨ k = 17 ∨ k = 18
          · rcases hcl with rfl | rfl | rfl | rfl
            · have HQ := Lib.hid hq
              have HAT : Hid (∀ i, atW ((14 : Nat) : Int) i = i + 1) := Lib.hid (fun i => if_pos (by omega))
              have hN4' : decide ((4 : Int) < (N : Int)) = false := by simp; omega
              generalize (wordsL s.data.toList).getD 0 [] = w0 at hc0 q
              clear hq
              go_wp2_with fail
              refine wp_region_new (w0 := wo) (New.refl _) (by kernel_rfl) (by kernel_rfl) ?_
              repeat (go_big_quiet_step (first | (go_at_call 45; exact quiet_new (HC.out.wordF 14 hk1 (by omega) _ (Subtype.property _)))))
              refine wpQuiet_nil ?_
              intro w3 h3
              go_wp2_with fail
              have hcurX : New w2 (w3.alloc (.cells #[.int .i64 14, .int .i64 0, .int .i64 0, .int .i64 0, .int .i64 0, .int .i64 0] 41)) := (hnw.trans h3).alloc _
              have hle : w2.heap.size ≤ w3.heap.size := (hnw.trans h3).size
              go_loopg [7] (N - 1) (fun gm v wr => ∃ (i : Nat) (x : I), 1 ≤ i ∧ i ≤ N ∧ gm = N - i ∧ v = .int .i64 i ∧ Has wr w3.heap.size x ∧ New w2 wr ∧ Hid (foldW ((14 : Nat) : Int) i x ((wordsL s.data.toList).drop i) = madeW s.data.toList 14))
              case atStart => exact ⟨1, zeroI ((14 : Nat) : Int), Nat.le_refl _, hN1, rfl, rfl, Has.box w3 (zeroI ((14 : Nat) : Int)), hcurX, Lib.hid rfl⟩
              case round =>
                obtain ⟨i, ⟨o', d', a', b', n', t'⟩, hi1, hi2, rfl, rfl, hx, hni, HF⟩ := hrel
                by_cases hil : i < N
                · have hdr : (wordsL s.data.toList).drop i = (wordsL s.data.toList).getD i [] :: (wordsL s.data.toList).drop (i + 1) := by
                    have hlen : i < (wordsL s.data.toList).length := by have := HN.out; omega
                    rw [List.drop_eq_getElem_cons hlen, List.getD_eq_getElem?_getD, List.getElem?_eq_getElem hlen]
                    rfl
                  have HF2 := HF.out
                  rw [hdr, foldW] at HF2
                  have hci : w2.cell? ⟨g0, i, none⟩ = some (strV ((wordsL s.data.toList).getD i [])) := HW.out i hil
                  generalize (wordsL s.data.toList).getD i [] = wd at HF2 hci
                  have hcw := (hni.cell (World.block_lt_of_cell? _ _ hci)).trans hci
                  have HI := Lib.hid hci
                  have HG := Lib.hid HF2
                  unfold strV at hcw
                  clear hdr HF HF2 hci
                  cases hlo : (locOf wd).isSome with
                  | true =>
                    go_wp2_with (first
                      | (go_at_call 51; refine (HC.out.loc ⟨wd.toArray⟩ _).mono ?_; rw [arr_list, hlo]; rintro e w4 ⟨rfl, hn4⟩; have hni4 := hni.trans hn4; have hx4 := hx.new hn4; have hcw4 := (hni4.cell (World.block_lt_of_cell? _ _ HI.out)).trans HI.out; unfold strV at hcw4)
                      | (go_at_call 52; refine (HC.out.num ⟨wd.toArray⟩ _).mono ?_; rw [arr_list]; rintro e w5 ⟨rfl, hn5⟩; have hni5 := hni4.trans hn5; have hx5 := hx4.new hn5; obtain ⟨f1, f2, f3, f4, f5, e1, e2, e3, e4, e5⟩ := has_full hx5; dsimp only at f1 f2 f3 f4 f5))
                    all_goals
                      go_roundg (N - (i + 1))
                      case measure => omega
                      case rel =>
                        go_light
                        simp only [beq_iff_eq, beq_eq_false_iff_ne, ne_eq] at *
                        have hat := HAT.out i
                        first
                          | (have h1 : atW ((14 : Nat) : Int) i = 1 := (by omega); exact ⟨i + 1, { (⟨o', d', a', b', n', t'⟩ : I) with d := locN wd }, by omega, by omega, rfl, by go_num, hx5.setD _, hni5.setC (p := ⟨w3.heap.size, 1, none⟩) hle _, Lib.hid (by rw [← HG.out, step_d hlo h1])⟩)
                          | (have h1 : atW ((14 : Nat) : Int) i = 2 := (by omega); exact ⟨i + 1, { (⟨o', d', a', b', n', t'⟩ : I) with a := locN wd }, by omega, by omega, rfl, by go_num, hx5.setA _, hni5.setC (p := ⟨w3.heap.size, 2, none⟩) hle _, Lib.hid (by rw [← HG.out, step_a hlo h1])⟩)
                          | (have h1 : atW ((14 : Nat) : Int) i ≠ 1 ∧ atW ((14 : Nat) : Int) i ≠ 2 := (by omega); exact ⟨i + 1, { (⟨o', d', a', b', n', t'⟩ : I) with b := locN wd }, by omega, by omega, rfl, by go_num, hx5.setB _, hni5.setC (p := ⟨w3.heap.size, 3, none⟩) hle _, Lib.hid (by rw [← HG.out, step_b hlo h1.1 h1.2])⟩)
                  | false =>
                    cases hpa : (parseV wd).isSome with
                    | false =>
                      go_wp2_with (first
                        | (go_at_call 51; refine (HC.out.loc ⟨wd.toArray⟩ _).mono ?_; rw [arr_list, hlo]; rintro e w4 ⟨rfl, hn4⟩; have hni4 := hni.trans hn4; have hx4 := hx.new hn4; have hcw4 := (hni4.cell (World.block_lt_of_cell? _ _ HI.out)).trans HI.out; unfold strV at hcw4)
                        | (go_at_call 52; refine (HC.out.num ⟨wd.toArray⟩ _).mono ?_; rw [arr_list, hpa]; rintro e w5 ⟨rfl, hn5⟩; have hni5 := hni4.trans hn5; have hx5 := hx4.new hn5; obtain ⟨f1, f2, f3, f4, f5, e1, e2, e3, e4, e5⟩ := has_full hx5; dsimp only at f1 f2 f3 f4 f5))
                      all_goals
                        go_roundg (N - (i + 1))
                        case measure => omega
                        case rel => exact ⟨i + 1, ⟨o', d', a', b', n', t'⟩, by omega, by omega, rfl, by go_num, hx5, hni5, Lib.hid (by rw [← HG.out, step_none hlo hpa])⟩
                    | true =>
                      go_wp2_with (first
                        | (go_at_call 51; refine (HC.out.loc ⟨wd.toArray⟩ _).mono ?_; rw [arr_list, hlo]; rintro e w4 ⟨rfl, hn4⟩; have hni4 := hni.trans hn4; have hx4 := hx.new hn4; have hcw4 := (hni4.cell (World.block_lt_of_cell? _ _ HI.out)).trans HI.out; unfold strV at hcw4)
                        | (go_at_call 52; refine (HC.out.num ⟨wd.toArray⟩ _).mono ?_; rw [arr_list, hpa]; rintro e w5 ⟨rfl, hn5⟩; have hni5 := hni4.trans hn5; have hx5 := hx4.new hn5; obtain ⟨f1, f2, f3, f4, f5, e1, e2, e3, e4, e5⟩ := has_full hx5; dsimp only at f1 f2 f3 f4 f5))
                      all_goals
                        go_roundg (N - (i + 1))
                        case measure => omega
                        case rel => exact ⟨i + 1, { (⟨o', d', a', b', n', t'⟩ : I) with n := parN wd }, by omega, by omega, rfl, by go_num, hx5.setN _, hni5.setC (p := ⟨w3.heap.size, 4, none⟩) hle _, Lib.hid (by rw [← HG.out, step_n hlo hpa (by omega)])⟩
                · have hxm : (⟨o', d', a', b', n', t'⟩ : I) = madeW s.data.toList 14 := by
                    have h := HF.out
                    rw [List.drop_of_length_le (by have := HN.out; omega)] at h
                    exact h
                  have hinI : In64I ⟨o', d', a', b', n', t'⟩ := by rw [hxm]; exact made_in (by omega)
                  have HII := Lib.hid hinI
                  by_cases hck : chkV ⟨o', d', a', b', n', t'⟩ 200 = 0
                  · have HCK := Lib.hid hck
                    by_cases hpt : prtL ⟨o', d', a', b', n', t'⟩ = s.data.toList
                    · have hps : prs s.data.toList = some ⟨o', d', a', b', n', t'⟩ := prs_iff.mpr ⟨hinI, hck, hpt⟩
                      have HXN := Lib.hid (prsX_some hps)
                      have HSN : Hid ((prs s.data.toList).isSome = true) := Lib.hid (by rw [hps]; rfl)
                      have q2 : (prtL ⟨o', d', a', b', n', t'⟩ == s.toList) = true := by rw [ByteArray.toList_eq, hpt]; simp
                      clear hxm hinI hpt hps HF
                      go_wp2_with (first
                        | (refine ldG rfl (.tmp 6) rfl _ rfl hx ?_)
                        | (go_at_call 22; refine (HC.out.chk o' d' a' b' n' t' 200 _).mono ?_; rintro e w6 ⟨rfl, hn6⟩; have hx := hx.new hn6; have hni := hni.trans hn6)
                        | (go_at_call 27; refine (HC.out.prt o' d' a' b' n' t' HII.out HCK.out _).mono ?_; rintro e w7 ⟨rfl, hn7⟩; have hx := hx.new hn7; have hni := hni.trans hn7; have hzz := hz2.out.new hni)
                        | (refine wpList_stI rfl rfl (.tmp 2) (.tmp 107) rfl _ rfl ⟨o', d', a', b', n', t'⟩ rfl hzz ?_))
                      have hv := (hzz.stored ⟨o', d', a', b', n', t'⟩).var
                      have HXX := HXN.out
                      have HSS := HSN.out
                      refine bodyPost_ret (by simp [results, Tryd.results32, asAddr, hv]; rfl) rfl ⟨by rw [HXX, HSS], ?_⟩
                      exact (hcur.trans hni).put (Nat.le_refl _) _
                    · have HT : Hid (¬ Takes s.data.toList 14) := Lib.hid (fun h => hpt (by rw [hxm]; exact h.2.2.2))
                      have q2 : (prtL ⟨o', d', a', b', n', t'⟩ == s.toList) = false := by rw [ByteArray.toList_eq]; simpa using hpt
                      clear hxm hinI hpt HF
                      go_wp2_with (first
                        | (refine ldG rfl (.tmp 6) rfl _ rfl hx ?_)
                        | (go_at_call 22; refine (HC.out.chk o' d' a' b' n' t' 200 _).mono ?_; rintro e w6 ⟨rfl, hn6⟩; have hx := hx.new hn6; have hni := hni.trans hn6)
                        | (go_at_call 27; refine (HC.out.prt o' d' a' b' n' t' HII.out HCK.out _).mono ?_; rintro e w7 ⟨rfl, hn7⟩; have hx := hx.new hn7; have hni := hni.trans hn7))
                      go_roundg (19 - (14 + 1))
                      case measure => omega
                      case rel =>
                        refine ⟨14 + 1, by omega, by omega, rfl, by go_num, hni, Lib.hid (fun j h1 h2 => ?_)⟩
                        by_cases hjk : j = 14
                        · rw [hjk]; exact HT.out
                        · exact HJ.out j h1 (by omega)
                  · have HT : Hid (¬ Takes s.data.toList 14) := Lib.hid (fun h => hck (by rw [hxm]; exact h.2.2.1))
                    clear hxm hinI HF
                    go_wp2_with (first
                      | (refine ldG rfl (.tmp 6) rfl _ rfl hx ?_)
                      | (go_at_call 22; refine (HC.out.chk o' d' a' b' n' t' 200 _).mono ?_; rintro e w6 ⟨rfl, hn6⟩; have hx := hx.new hn6; have hni := hni.trans hn6))
                    go_roundg (19 - (14 + 1))
                    case measure => omega
                    case rel =>
                      refine ⟨14 + 1, by omega, by omega, rfl, by go_num, hni, Lib.hid (fun j h1 h2 => ?_)⟩
                      by_cases hjk : j = 14
                      · rw [hjk]; exact HT.out
                      · exact HJ.out j h1 (by omega)
            · have HQ := Lib.hid hq
              have HAT : Hid (∀ i, atW ((16 : Nat) : Int) i = i) := Lib.hid (fun i => if_neg (by omega))
              have hN4' : decide ((4 : Int) < (N : Int)) = false := by simp; omega
              generalize (wordsL s.data.toList).getD 0 [] = w0 at hc0 q
              clear hq
              go_wp2_with fail
              refine wp_region_new (w0 := wo) (New.refl _) (by kernel_rfl) (by kernel_rfl) ?_
              repeat (go_big_quiet_step (first | (go_at_call 45; exact quiet_new (HC.out.wordF 16 hk1 (by omega) _ (Subtype.property _)))))
              refine wpQuiet_nil ?_
              intro w3 h3
              go_wp2_with fail
              have hcurX : New w2 (w3.alloc (.cells #[.int .i64 16, .int .i64 0, .int .i64 0, .int .i64 0, .int .i64 0, .int .i64 0] 41)) := (hnw.trans h3).alloc _
              have hle : w2.heap.size ≤ w3.heap.size := (hnw.trans h3).size
              go_loopg [7] (N - 1) (fun gm v wr => ∃ (i : Nat) (x : I), 1 ≤ i ∧ i ≤ N ∧ gm = N - i ∧ v = .int .i64 i ∧ Has wr w3.heap.size x ∧ New w2 wr ∧ Hid (foldW ((16 : Nat) : Int) i x ((wordsL s.data.toList).drop i) = madeW s.data.toList 16))
              case atStart => exact ⟨1, zeroI ((16 : Nat) : Int), Nat.le_refl _, hN1, rfl, rfl, Has.box w3 (zeroI ((16 : Nat) : Int)), hcurX, Lib.hid rfl⟩
              case round =>
                obtain ⟨i, ⟨o', d', a', b', n', t'⟩, hi1, hi2, rfl, rfl, hx, hni, HF⟩ := hrel
                by_cases hil : i < N
                · have hdr : (wordsL s.data.toList).drop i = (wordsL s.data.toList).getD i [] :: (wordsL s.data.toList).drop (i + 1) := by
                    have hlen : i < (wordsL s.data.toList).length := by have := HN.out; omega
                    rw [List.drop_eq_getElem_cons hlen, List.getD_eq_getElem?_getD, List.getElem?_eq_getElem hlen]
                    rfl
                  have HF2 := HF.out
                  rw [hdr, foldW] at HF2
                  have hci : w2.cell? ⟨g0, i, none⟩ = some (strV ((wordsL s.data.toList).getD i [])) := HW.out i hil
                  generalize (wordsL s.data.toList).getD i [] = wd at HF2 hci
                  have hcw := (hni.cell (World.block_lt_of_cell? _ _ hci)).trans hci
                  have HI := Lib.hid hci
                  have HG := Lib.hid HF2
                  unfold strV at hcw
                  clear hdr HF HF2 hci
                  cases hlo : (locOf wd).isSome with
                  | true =>
                    go_wp2_with (first
                      | (go_at_call 51; refine (HC.out.loc ⟨wd.toArray⟩ _).mono ?_; rw [arr_list, hlo]; rintro e w4 ⟨rfl, hn4⟩; have hni4 := hni.trans hn4; have hx4 := hx.new hn4; have hcw4 := (hni4.cell (World.block_lt_of_cell? _ _ HI.out)).trans HI.out; unfold strV at hcw4)
                      | (go_at_call 52; refine (HC.out.num ⟨wd.toArray⟩ _).mono ?_; rw [arr_list]; rintro e w5 ⟨rfl, hn5⟩; have hni5 := hni4.trans hn5; have hx5 := hx4.new hn5; obtain ⟨f1, f2, f3, f4, f5, e1, e2, e3, e4, e5⟩ := has_full hx5; dsimp only at f1 f2 f3 f4 f5))
                    all_goals
                      go_roundg (N - (i + 1))
                      case measure => omega
                      case rel =>
                        go_light
                        simp only [beq_iff_eq, beq_eq_false_iff_ne, ne_eq] at *
                        have hat := HAT.out i
                        first
                          | (have h1 : atW ((16 : Nat) : Int) i = 1 := (by omega); exact ⟨i + 1, { (⟨o', d', a', b', n', t'⟩ : I) with d := locN wd }, by omega, by omega, rfl, by go_num, hx5.setD _, hni5.setC (p := ⟨w3.heap.size, 1, none⟩) hle _, Lib.hid (by rw [← HG.out, step_d hlo h1])⟩)
                          | (have h1 : atW ((16 : Nat) : Int) i = 2 := (by omega); exact ⟨i + 1, { (⟨o', d', a', b', n', t'⟩ : I) with a := locN wd }, by omega, by omega, rfl, by go_num, hx5.setA _, hni5.setC (p := ⟨w3.heap.size, 2, none⟩) hle _, Lib.hid (by rw [← HG.out, step_a hlo h1])⟩)
                          | (have h1 : atW ((16 : Nat) : Int) i ≠ 1 ∧ atW ((16 : Nat) : Int) i ≠ 2 := (by omega); exact ⟨i + 1, { (⟨o', d', a', b', n', t'⟩ : I) with b := locN wd }, by omega, by omega, rfl, by go_num, hx5.setB _, hni5.setC (p := ⟨w3.heap.size, 3, none⟩) hle _, Lib.hid (by rw [← HG.out, step_b hlo h1.1 h1.2])⟩)
                  | false =>
                    cases hpa : (parseV wd).isSome with
                    | false =>
                      go_wp2_with (first
                        | (go_at_call 51; refine (HC.out.loc ⟨wd.toArray⟩ _).mono ?_; rw [arr_list, hlo]; rintro e w4 ⟨rfl, hn4⟩; have hni4 := hni.trans hn4; have hx4 := hx.new hn4; have hcw4 := (hni4.cell (World.block_lt_of_cell? _ _ HI.out)).trans HI.out; unfold strV at hcw4)
                        | (go_at_call 52; refine (HC.out.num ⟨wd.toArray⟩ _).mono ?_; rw [arr_list, hpa]; rintro e w5 ⟨rfl, hn5⟩; have hni5 := hni4.trans hn5; have hx5 := hx4.new hn5; obtain ⟨f1, f2, f3, f4, f5, e1, e2, e3, e4, e5⟩ := has_full hx5; dsimp only at f1 f2 f3 f4 f5))
                      all_goals
                        go_roundg (N - (i + 1))
                        case measure => omega
                        case rel => exact ⟨i + 1, ⟨o', d', a', b', n', t'⟩, by omega, by omega, rfl, by go_num, hx5, hni5, Lib.hid (by rw [← HG.out, step_none hlo hpa])⟩
                    | true =>
                      go_wp2_with (first
                        | (go_at_call 51; refine (HC.out.loc ⟨wd.toArray⟩ _).mono ?_; rw [arr_list, hlo]; rintro e w4 ⟨rfl, hn4⟩; have hni4 := hni.trans hn4; have hx4 := hx.new hn4; have hcw4 := (hni4.cell (World.block_lt_of_cell? _ _ HI.out)).trans HI.out; unfold strV at hcw4)
                        | (go_at_call 52; refine (HC.out.num ⟨wd.toArray⟩ _).mono ?_; rw [arr_list, hpa]; rintro e w5 ⟨rfl, hn5⟩; have hni5 := hni4.trans hn5; have hx5 := hx4.new hn5; obtain ⟨f1, f2, f3, f4, f5, e1, e2, e3, e4, e5⟩ := has_full hx5; dsimp only at f1 f2 f3 f4 f5))
                      all_goals
                        go_roundg (N - (i + 1))
                        case measure => omega
                        case rel => exact ⟨i + 1, { (⟨o', d', a', b', n', t'⟩ : I) with t := parN wd }, by omega, by omega, rfl, by go_num, hx5.setT _, hni5.setC (p := ⟨w3.heap.size, 5, none⟩) hle _, Lib.hid (by rw [← HG.out, step_t hlo hpa (by omega)])⟩
                · have hxm : (⟨o', d', a', b', n', t'⟩ : I) = madeW s.data.toList 16 := by
                    have h := HF.out
                    rw [List.drop_of_length_le (by have := HN.out; omega)] at h
                    exact h
                  have hinI : In64I ⟨o', d', a', b', n', t'⟩ := by rw [hxm]; exact made_in (by omega)
                  have HII := Lib.hid hinI
                  by_cases hck : chkV ⟨o', d', a', b', n', t'⟩ 200 = 0
                  · have HCK := Lib.hid hck
                    by_cases hpt : prtL ⟨o', d', a', b', n', t'⟩ = s.data.toList
                    · have hps : prs s.data.toList = some ⟨o', d', a', b', n', t'⟩ := prs_iff.mpr ⟨hinI, hck, hpt⟩
                      have HXN := Lib.hid (prsX_some hps)
                      have HSN : Hid ((prs s.data.toList).isSome = true) := Lib.hid (by rw [hps]; rfl)
                      have q2 : (prtL ⟨o', d', a', b', n', t'⟩ == s.toList) = true := by rw [ByteArray.toList_eq, hpt]; simp
                      clear hxm hinI hpt hps HF
                      go_wp2_with (first
                        | (refine ldG rfl (.tmp 6) rfl _ rfl hx ?_)
                        | (go_at_call 22; refine (HC.out.chk o' d' a' b' n' t' 200 _).mono ?_; rintro e w6 ⟨rfl, hn6⟩; have hx := hx.new hn6; have hni := hni.trans hn6)
                        | (go_at_call 27; refine (HC.out.prt o' d' a' b' n' t' HII.out HCK.out _).mono ?_; rintro e w7 ⟨rfl, hn7⟩; have hx := hx.new hn7; have hni := hni.trans hn7; have hzz := hz2.out.new hni)
                        | (refine wpList_stI rfl rfl (.tmp 2) (.tmp 107) rfl _ rfl ⟨o', d', a', b', n', t'⟩ rfl hzz ?_))
                      have hv := (hzz.stored ⟨o', d', a', b', n', t'⟩).var
                      have HXX := HXN.out
                      have HSS := HSN.out
                      refine bodyPost_ret (by simp [results, Tryd.results32, asAddr, hv]; rfl) rfl ⟨by rw [HXX, HSS], ?_⟩
                      exact (hcur.trans hni).put (Nat.le_refl _) _
                    · have HT : Hid (¬ Takes s.data.toList 16) := Lib.hid (fun h => hpt (by rw [hxm]; exact h.2.2.2))
                      have q2 : (prtL ⟨o', d', a', b', n', t'⟩ == s.toList) = false := by rw [ByteArray.toList_eq]; simpa using hpt
                      clear hxm hinI hpt HF
                      go_wp2_with (first
                        | (refine ldG rfl (.tmp 6) rfl _ rfl hx ?_)
                        | (go_at_call 22; refine (HC.out.chk o' d' a' b' n' t' 200 _).mono ?_; rintro e w6 ⟨rfl, hn6⟩; have hx := hx.new hn6; have hni := hni.trans hn6)
                        | (go_at_call 27; refine (HC.out.prt o' d' a' b' n' t' HII.out HCK.out _).mono ?_; rintro e w7 ⟨rfl, hn7⟩; have hx := hx.new hn7; have hni := hni.trans hn7))
                      go_roundg (19 - (16 + 1))
                      case measure => omega
                      case rel =>
                        refine ⟨16 + 1, by omega, by omega, rfl, by go_num, hni, Lib.hid (fun j h1 h2 => ?_)⟩
                        by_cases hjk : j = 16
                        · rw [hjk]; exact HT.out
                        · exact HJ.out j h1 (by omega)
                  · have HT : Hid (¬ Takes s.data.toList 16) := Lib.hid (fun h => hck (by rw [hxm]; exact h.2.2.1))
                    clear hxm hinI HF
                    go_wp2_with (first
                      | (refine ldG rfl (.tmp 6) rfl _ rfl hx ?_)
                      | (go_at_call 22; refine (HC.out.chk o' d' a' b' n' t' 200 _).mono ?_; rintro e w6 ⟨rfl, hn6⟩; have hx := hx.new hn6; have hni := hni.trans hn6))
                    go_roundg (19 - (16 + 1))
                    case measure => omega
                    case rel =>
                      refine ⟨16 + 1, by omega, by omega, rfl, by go_num, hni, Lib.hid (fun j h1 h2 => ?_)⟩
                      by_cases hjk : j = 16
                      · rw [hjk]; exact HT.out
                      · exact HJ.out j h1 (by omega)
            · have HQ := Lib.hid hq
              have HAT : Hid (∀ i, atW ((17 : Nat) : Int) i = i + 1) := Lib.hid (fun i => if_pos (by omega))
              have hN4' : decide ((4 : Int) < (N : Int)) = false := by simp; omega
              generalize (wordsL s.data.toList).getD 0 [] = w0 at hc0 q
              clear hq
              go_wp2_with fail
              refine wp_region_new (w0 := wo) (New.refl _) (by kernel_rfl) (by kernel_rfl) ?_
              repeat (go_big_quiet_step (first | (go_at_call 45; exact quiet_new (HC.out.wordF 17 hk1 (by omega) _ (Subtype.property _)))))
              refine wpQuiet_nil ?_
              intro w3 h3
              go_wp2_with fail
              have hcurX : New w2 (w3.alloc (.cells #[.int .i64 17, .int .i64 0, .int .i64 0, .int .i64 0, .int .i64 0, .int .i64 0] 41)) := (hnw.trans h3).alloc _
              have hle : w2.heap.size ≤ w3.heap.size := (hnw.trans h3).size
              go_loopg [7] (N - 1) (fun gm v wr => ∃ (i : Nat) (x : I), 1 ≤ i ∧ i ≤ N ∧ gm = N - i ∧ v = .int .i64 i ∧ Has wr w3.heap.size x ∧ New w2 wr ∧ Hid (foldW ((17 : Nat) : Int) i x ((wordsL s.data.toList).drop i) = madeW s.data.toList 17))
              case atStart => exact ⟨1, zeroI ((17 : Nat) : Int), Nat.le_refl _, hN1, rfl, rfl, Has.box w3 (zeroI ((17 : Nat) : Int)), hcurX, Lib.hid rfl⟩
              case round =>
                obtain ⟨i, ⟨o', d', a', b', n', t'⟩, hi1, hi2, rfl, rfl, hx, hni, HF⟩ := hrel
                by_cases hil : i < N
                · have hdr : (wordsL s.data.toList).drop i = (wordsL s.data.toList).getD i [] :: (wordsL s.data.toList).drop (i + 1) := by
                    have hlen : i < (wordsL s.data.toList).length := by have := HN.out; omega
                    rw [List.drop_eq_getElem_cons hlen, List.getD_eq_getElem?_getD, List.getElem?_eq_getElem hlen]
                    rfl
                  have HF2 := HF.out
                  rw [hdr, foldW] at HF2
                  have hci : w2.cell? ⟨g0, i, none⟩ = some (strV ((wordsL s.data.toList).getD i [])) := HW.out i hil
                  generalize (wordsL s.data.toList).getD i [] = wd at HF2 hci
                  have hcw := (hni.cell (World.block_lt_of_cell? _ _ hci)).trans hci
                  have HI := Lib.hid hci
                  have HG := Lib.hid HF2
                  unfold strV at hcw
                  clear hdr HF HF2 hci
                  cases hlo : (locOf wd).isSome with
                  | true =>
                    go_wp2_with (first
                      | (go_at_call 51; refine (HC.out.loc ⟨wd.toArray⟩ _).mono ?_; rw [arr_list, hlo]; rintro e w4 ⟨rfl, hn4⟩; have hni4 := hni.trans hn4; have hx4 := hx.new hn4; have hcw4 := (hni4.cell (World.block_lt_of_cell? _ _ HI.out)).trans HI.out; unfold strV at hcw4)
                      | (go_at_call 52; refine (HC.out.num ⟨wd.toArray⟩ _).mono ?_; rw [arr_list]; rintro e w5 ⟨rfl, hn5⟩; have hni5 := hni4.trans hn5; have hx5 := hx4.new hn5; obtain ⟨f1, f2, f3, f4, f5, e1, e2, e3, e4, e5⟩ := has_full hx5; dsimp only at f1 f2 f3 f4 f5))
                    all_goals
                      go_roundg (N - (i + 1))
                      case measure => omega
                      case rel =>
                        go_light
                        simp only [beq_iff_eq, beq_eq_false_iff_ne, ne_eq] at *
                        have hat := HAT.out i
                        first
                          | (have h1 : atW ((17 : Nat) : Int) i = 1 := (by omega); exact ⟨i + 1, { (⟨o', d', a', b', n', t'⟩ : I) with d := locN wd }, by omega, by omega, rfl, by go_num, hx5.setD _, hni5.setC (p := ⟨w3.heap.size, 1, none⟩) hle _, Lib.hid (by rw [← HG.out, step_d hlo h1])⟩)
                          | (have h1 : atW ((17 : Nat) : Int) i = 2 := (by omega); exact ⟨i + 1, { (⟨o', d', a', b', n', t'⟩ : I) with a := locN wd }, by omega, by omega, rfl, by go_num, hx5.setA _, hni5.setC (p := ⟨w3.heap.size, 2, none⟩) hle _, Lib.hid (by rw [← HG.out, step_a hlo h1])⟩)
                          | (have h1 : atW ((17 : Nat) : Int) i ≠ 1 ∧ atW ((17 : Nat) : Int) i ≠ 2 := (by omega); exact ⟨i + 1, { (⟨o', d', a', b', n', t'⟩ : I) with b := locN wd }, by omega, by omega, rfl, by go_num, hx5.setB _, hni5.setC (p := ⟨w3.heap.size, 3, none⟩) hle _, Lib.hid (by rw [← HG.out, step_b hlo h1.1 h1.2])⟩)
                  | false =>
                    cases hpa : (parseV wd).isSome with
                    | false =>
                      go_wp2_with (first
                        | (go_at_call 51; refine (HC.out.loc ⟨wd.toArray⟩ _).mono ?_; rw [arr_list, hlo]; rintro e w4 ⟨rfl, hn4⟩; have hni4 := hni.trans hn4; have hx4 := hx.new hn4; have hcw4 := (hni4.cell (World.block_lt_of_cell? _ _ HI.out)).trans HI.out; unfold strV at hcw4)
                        | (go_at_call 52; refine (HC.out.num ⟨wd.toArray⟩ _).mono ?_; rw [arr_list, hpa]; rintro e w5 ⟨rfl, hn5⟩; have hni5 := hni4.trans hn5; have hx5 := hx4.new hn5; obtain ⟨f1, f2, f3, f4, f5, e1, e2, e3, e4, e5⟩ := has_full hx5; dsimp only at f1 f2 f3 f4 f5))
                      all_goals
                        go_roundg (N - (i + 1))
                        case measure => omega
                        case rel => exact ⟨i + 1, ⟨o', d', a', b', n', t'⟩, by omega, by omega, rfl, by go_num, hx5, hni5, Lib.hid (by rw [← HG.out, step_none hlo hpa])⟩
                    | true =>
                      go_wp2_with (first
                        | (go_at_call 51; refine (HC.out.loc ⟨wd.toArray⟩ _).mono ?_; rw [arr_list, hlo]; rintro e w4 ⟨rfl, hn4⟩; have hni4 := hni.trans hn4; have hx4 := hx.new hn4; have hcw4 := (hni4.cell (World.block_lt_of_cell? _ _ HI.out)).trans HI.out; unfold strV at hcw4)
                        | (go_at_call 52; refine (HC.out.num ⟨wd.toArray⟩ _).mono ?_; rw [arr_list, hpa]; rintro e w5 ⟨rfl, hn5⟩; have hni5 := hni4.trans hn5; have hx5 := hx4.new hn5; obtain ⟨f1, f2, f3, f4, f5, e1, e2, e3, e4, e5⟩ := has_full hx5; dsimp only at f1 f2 f3 f4 f5))
                      all_goals
                        go_roundg (N - (i + 1))
                        case measure => omega
                        case rel => exact ⟨i + 1, { (⟨o', d', a', b', n', t'⟩ : I) with t := parN wd }, by omega, by omega, rfl, by go_num, hx5.setT _, hni5.setC (p := ⟨w3.heap.size, 5, none⟩) hle _, Lib.hid (by rw [← HG.out, step_t hlo hpa (by omega)])⟩
                · have hxm : (⟨o', d', a', b', n', t'⟩ : I) = madeW s.data.toList 17 := by
                    have h := HF.out
                    rw [List.drop_of_length_le (by have := HN.out; omega)] at h
                    exact h
                  have hinI : In64I ⟨o', d', a', b', n', t'⟩ := by rw [hxm]; exact made_in (by omega)
                  have HII := Lib.hid hinI
                  by_cases hck : chkV ⟨o', d', a', b', n', t'⟩ 200 = 0
                  · have HCK := Lib.hid hck
                    by_cases hpt : prtL ⟨o', d', a', b', n', t'⟩ = s.data.toList
                    · have hps : prs s.data.toList = some ⟨o', d', a', b', n', t'⟩ := prs_iff.mpr ⟨hinI, hck, hpt⟩
                      have HXN := Lib.hid (prsX_some hps)
                      have HSN : Hid ((prs s.data.toList).isSome = true) := Lib.hid (by rw [hps]; rfl)
                      have q2 : (prtL ⟨o', d', a', b', n', t'⟩ == s.toList) = true := by rw [ByteArray.toList_eq, hpt]; simp
                      clear hxm hinI hpt hps HF
                      go_wp2_with (first
                        | (refine ldG rfl (.tmp 6) rfl _ rfl hx ?_)
                        | (go_at_call 22; refine (HC.out.chk o' d' a' b' n' t' 200 _).mono ?_; rintro e w6 ⟨rfl, hn6⟩; have hx := hx.new hn6; have hni := hni.trans hn6)
                        | (go_at_call 27; refine (HC.out.prt o' d' a' b' n' t' HII.out HCK.out _).mono ?_; rintro e w7 ⟨rfl, hn7⟩; have hx := hx.new hn7; have hni := hni.trans hn7; have hzz := hz2.out.new hni)
                        | (refine wpList_stI rfl rfl (.tmp 2) (.tmp 107) rfl _ rfl ⟨o', d', a', b', n', t'⟩ rfl hzz ?_))
                      have hv := (hzz.stored ⟨o', d', a', b', n', t'⟩).var
                      have HXX := HXN.out
                      have HSS := HSN.out
                      refine bodyPost_ret (by simp [results, Tryd.results32, asAddr, hv]; rfl) rfl ⟨by rw [HXX, HSS], ?_⟩
                      exact (hcur.trans hni).put (Nat.le_refl _) _
                    · have HT : Hid (¬ Takes s.data.toList 17) := Lib.hid (fun h => hpt (by rw [hxm]; exact h.2.2.2))
                      have q2 : (prtL ⟨o', d', a', b', n', t'⟩ == s.toList) = false := by rw [ByteArray.toList_eq]; simpa using hpt
                      clear hxm hinI hpt HF
                      go_wp2_with (first
                        | (refine ldG rfl (.tmp 6) rfl _ rfl hx ?_)
                        | (go_at_call 22; refine (HC.out.chk o' d' a' b' n' t' 200 _).mono ?_; rintro e w6 ⟨rfl, hn6⟩; have hx := hx.new hn6; have hni := hni.trans hn6)
                        | (go_at_call 27; refine (HC.out.prt o' d' a' b' n' t' HII.out HCK.out _).mono ?_; rintro e w7 ⟨rfl, hn7⟩; have hx := hx.new hn7; have hni := hni.trans hn7))
                      go_roundg (19 - (17 + 1))
                      case measure => omega
                      case rel =>
                        refine ⟨17 + 1, by omega, by omega, rfl, by go_num, hni, Lib.hid (fun j h1 h2 => ?_)⟩
                        by_cases hjk : j = 17
                        · rw [hjk]; exact HT.out
                        · exact HJ.out j h1 (by omega)
                  · have HT : Hid (¬ Takes s.data.toList 17) := Lib.hid (fun h => hck (by rw [hxm]; exact h.2.2.1))
                    clear hxm hinI HF
                    go_wp2_with (first
                      | (refine ldG rfl (.tmp 6) rfl _ rfl hx ?_)
                      | (go_at_call 22; refine (HC.out.chk o' d' a' b' n' t' 200 _).mono ?_; rintro e w6 ⟨rfl, hn6⟩; have hx := hx.new hn6; have hni := hni.trans hn6))
                    go_roundg (19 - (17 + 1))
                    case measure => omega
                    case rel =>
                      refine ⟨17 + 1, by omega, by omega, rfl, by go_num, hni, Lib.hid (fun j h1 h2 => ?_)⟩
                      by_cases hjk : j = 17
                      · rw [hjk]; exact HT.out
                      · exact HJ.out j h1 (by omega)
            · have HQ := Lib.hid hq
              have HAT : Hid (∀ i, atW ((18 : Nat) : Int) i = i + 1) := Lib.hid (fun i => if_pos (by omega))
              have hN4' : decide ((4 : Int) < (N : Int)) = false := by simp; omega
              generalize (wordsL s.data.toList).getD 0 [] = w0 at hc0 q
              clear hq
              go_wp2_with fail
              refine wp_region_new (w0 := wo) (New.refl _) (by kernel_rfl) (by kernel_rfl) ?_
              repeat (go_big_quiet_step (first | (go_at_call 45; exact quiet_new (HC.out.wordF 18 hk1 (by omega) _ (Subtype.property _)))))
              refine wpQuiet_nil ?_
              intro w3 h3
              go_wp2_with fail
              have hcurX : New w2 (w3.alloc (.cells #[.int .i64 18, .int .i64 0, .int .i64 0, .int .i64 0, .int .i64 0, .int .i64 0] 41)) := (hnw.trans h3).alloc _
              have hle : w2.heap.size ≤ w3.heap.size := (hnw.trans h3).size
              go_loopg [7] (N - 1) (fun gm v wr => ∃ (i : Nat) (x : I), 1 ≤ i ∧ i ≤ N ∧ gm = N - i ∧ v = .int .i64 i ∧ Has wr w3.heap.size x ∧ New w2 wr ∧ Hid (foldW ((18 : Nat) : Int) i x ((wordsL s.data.toList).drop i) = madeW s.data.toList 18))
              case atStart => exact ⟨1, zeroI ((18 : Nat) : Int), Nat.le_refl _, hN1, rfl, rfl, Has.box w3 (zeroI ((18 : Nat) : Int)), hcurX, Lib.hid rfl⟩
              case round =>
                obtain ⟨i, ⟨o', d', a', b', n', t'⟩, hi1, hi2, rfl, rfl, hx, hni, HF⟩ := hrel
                by_cases hil : i < N
                · have hdr : (wordsL s.data.toList).drop i = (wordsL s.data.toList).getD i [] :: (wordsL s.data.toList).drop (i + 1) := by
                    have hlen : i < (wordsL s.data.toList).length := by have := HN.out; omega
                    rw [List.drop_eq_getElem_cons hlen, List.getD_eq_getElem?_getD, List.getElem?_eq_getElem hlen]
                    rfl
                  have HF2 := HF.out
                  rw [hdr, foldW] at HF2
                  have hci : w2.cell? ⟨g0, i, none⟩ = some (strV ((wordsL s.data.toList).getD i [])) := HW.out i hil
                  generalize (wordsL s.data.toList).getD i [] = wd at HF2 hci
                  have hcw := (hni.cell (World.block_lt_of_cell? _ _ hci)).trans hci
                  have HI := Lib.hid hci
                  have HG := Lib.hid HF2
                  unfold strV at hcw
                  clear hdr HF HF2 hci
                  cases hlo : (locOf wd).isSome with
                  | true =>
                    go_wp2_with (first
                      | (go_at_call 51; refine (HC.out.loc ⟨wd.toArray⟩ _).mono ?_; rw [arr_list, hlo]; rintro e w4 ⟨rfl, hn4⟩; have hni4 := hni.trans hn4; have hx4 := hx.new hn4; have hcw4 := (hni4.cell (World.block_lt_of_cell? _ _ HI.out)).trans HI.out; unfold strV at hcw4)
                      | (go_at_call 52; refine (HC.out.num ⟨wd.toArray⟩ _).mono ?_; rw [arr_list]; rintro e w5 ⟨rfl, hn5⟩; have hni5 := hni4.trans hn5; have hx5 := hx4.new hn5; obtain ⟨f1, f2, f3, f4, f5, e1, e2, e3, e4, e5⟩ := has_full hx5; dsimp only at f1 f2 f3 f4 f5))
                    all_goals
                      go_roundg (N - (i + 1))
                      case measure => omega
                      case rel =>
                        go_light
                        simp only [beq_iff_eq, beq_eq_false_iff_ne, ne_eq] at *
                        have hat := HAT.out i
                        first
                          | (have h1 : atW ((18 : Nat) : Int) i = 1 := (by omega); exact ⟨i + 1, { (⟨o', d', a', b', n', t'⟩ : I) with d := locN wd }, by omega, by omega, rfl, by go_num, hx5.setD _, hni5.setC (p := ⟨w3.heap.size, 1, none⟩) hle _, Lib.hid (by rw [← HG.out, step_d hlo h1])⟩)
                          | (have h1 : atW ((18 : Nat) : Int) i = 2 := (by omega); exact ⟨i + 1, { (⟨o', d', a', b', n', t'⟩ : I) with a := locN wd }, by omega, by omega, rfl, by go_num, hx5.setA _, hni5.setC (p := ⟨w3.heap.size, 2, none⟩) hle _, Lib.hid (by rw [← HG.out, step_a hlo h1])⟩)
                          | (have h1 : atW ((18 : Nat) : Int) i ≠ 1 ∧ atW ((18 : Nat) : Int) i ≠ 2 := (by omega); exact ⟨i + 1, { (⟨o', d', a', b', n', t'⟩ : I) with b := locN wd }, by omega, by omega, rfl, by go_num, hx5.setB _, hni5.setC (p := ⟨w3.heap.size, 3, none⟩) hle _, Lib.hid (by rw [← HG.out, step_b hlo h1.1 h1.2])⟩)
                  | false =>
                    cases hpa : (parseV wd).isSome with
                    | false =>
                      go_wp2_with (first
                        | (go_at_call 51; refine (HC.out.loc ⟨wd.toArray⟩ _).mono ?_; rw [arr_list, hlo]; rintro e w4 ⟨rfl, hn4⟩; have hni4 := hni.trans hn4; have hx4 := hx.new hn4; have hcw4 := (hni4.cell (World.block_lt_of_cell? _ _ HI.out)).trans HI.out; unfold strV at hcw4)
                        | (go_at_call 52; refine (HC.out.num ⟨wd.toArray⟩ _).mono ?_; rw [arr_list, hpa]; rintro e w5 ⟨rfl, hn5⟩; have hni5 := hni4.trans hn5; have hx5 := hx4.new hn5; obtain ⟨f1, f2, f3, f4, f5, e1, e2, e3, e4, e5⟩ := has_full hx5; dsimp only at f1 f2 f3 f4 f5))
                      all_goals
                        go_roundg (N - (i + 1))
                        case measure => omega
                        case rel => exact ⟨i + 1, ⟨o', d', a', b', n', t'⟩, by omega, by omega, rfl, by go_num, hx5, hni5, Lib.hid (by rw [← HG.out, step_none hlo hpa])⟩
                    | true =>
                      go_wp2_with (first
                        | (go_at_call 51; refine (HC.out.loc ⟨wd.toArray⟩ _).mono ?_; rw [arr_list, hlo]; rintro e w4 ⟨rfl, hn4⟩; have hni4 := hni.trans hn4; have hx4 := hx.new hn4; have hcw4 := (hni4.cell (World.block_lt_of_cell? _ _ HI.out)).trans HI.out; unfold strV at hcw4)
                        | (go_at_call 52; refine (HC.out.num ⟨wd.toArray⟩ _).mono ?_; rw [arr_list, hpa]; rintro e w5 ⟨rfl, hn5⟩; have hni5 := hni4.trans hn5; have hx5 := hx4.new hn5; obtain ⟨f1, f2, f3, f4, f5, e1, e2, e3, e4, e5⟩ := has_full hx5; dsimp only at f1 f2 f3 f4 f5))
                      all_goals
                        go_roundg (N - (i + 1))
                        case measure => omega
                        case rel => exact ⟨i + 1, { (⟨o', d', a', b', n', t'⟩ : I) with n := parN wd }, by omega, by omega, rfl, by go_num, hx5.setN _, hni5.setC (p := ⟨w3.heap.size, 4, none⟩) hle _, Lib.hid (by rw [← HG.out, step_n hlo hpa (by omega)])⟩
                · have hxm : (⟨o', d', a', b', n', t'⟩ : I) = madeW s.data.toList 18 := by
                    have h := HF.out
                    rw [List.drop_of_length_le (by have := HN.out; omega)] at h
                    exact h
                  have hinI : In64I ⟨o', d', a', b', n', t'⟩ := by rw [hxm]; exact made_in (by omega)
                  have HII := Lib.hid hinI
                  by_cases hck : chkV ⟨o', d', a', b', n', t'⟩ 200 = 0
                  · have HCK := Lib.hid hck
                    by_cases hpt : prtL ⟨o', d', a', b', n', t'⟩ = s.data.toList
                    · have hps : prs s.data.toList = some ⟨o', d', a', b', n', t'⟩ := prs_iff.mpr ⟨hinI, hck, hpt⟩
                      have HXN := Lib.hid (prsX_some hps)
                      have HSN : Hid ((prs s.data.toList).isSome = true) := Lib.hid (by rw [hps]; rfl)
                      have q2 : (prtL ⟨o', d', a', b', n', t'⟩ == s.toList) = true := by rw [ByteArray.toList_eq, hpt]; simp
                      clear hxm hinI hpt hps HF
                      go_wp2_with (first
                        | (refine ldG rfl (.tmp 6) rfl _ rfl hx ?_)
                        | (go_at_call 22; refine (HC.out.chk o' d' a' b' n' t' 200 _).mono ?_; rintro e w6 ⟨rfl, hn6⟩; have hx := hx.new hn6; have hni := hni.trans hn6)
                        | (go_at_call 27; refine (HC.out.prt o' d' a' b' n' t' HII.out HCK.out _).mono ?_; rintro e w7 ⟨rfl, hn7⟩; have hx := hx.new hn7; have hni := hni.trans hn7; have hzz := hz2.out.new hni)
                        | (refine wpList_stI rfl rfl (.tmp 2) (.tmp 107) rfl _ rfl ⟨o', d', a', b', n', t'⟩ rfl hzz ?_))
                      have hv := (hzz.stored ⟨o', d', a', b', n', t'⟩).var
                      have HXX := HXN.out
                      have HSS := HSN.out
                      refine bodyPost_ret (by simp [results, Tryd.results32, asAddr, hv]; rfl) rfl ⟨by rw [HXX, HSS], ?_⟩
                      exact (hcur.trans hni).put (Nat.le_refl _) _
                    · have HT : Hid (¬ Takes s.data.toList 18) := Lib.hid (fun h => hpt (by rw [hxm]; exact h.2.2.2))
                      have q2 : (prtL ⟨o', d', a', b', n', t'⟩ == s.toList) = false := by rw [ByteArray.toList_eq]; simpa using hpt
                      clear hxm hinI hpt HF
                      go_wp2_with (first
                        | (refine ldG rfl (.tmp 6) rfl _ rfl hx ?_)
                        | (go_at_call 22; refine (HC.out.chk o' d' a' b' n' t' 200 _).mono ?_; rintro e w6 ⟨rfl, hn6⟩; have hx := hx.new hn6; have hni := hni.trans hn6)
                        | (go_at_call 27; refine (HC.out.prt o' d' a' b' n' t' HII.out HCK.out _).mono ?_; rintro e w7 ⟨rfl, hn7⟩; have hx := hx.new hn7; have hni := hni.trans hn7))
                      go_roundg (19 - (18 + 1))
                      case measure => omega
                      case rel =>
                        refine ⟨18 + 1, by omega, by omega, rfl, by go_num, hni, Lib.hid (fun j h1 h2 => ?_)⟩
                        by_cases hjk : j = 18
                        · rw [hjk]; exact HT.out
                        · exact HJ.out j h1 (by omega)
                  · have HT : Hid (¬ Takes s.data.toList 18) := Lib.hid (fun h => hck (by rw [hxm]; exact h.2.2.1))
                    clear hxm hinI HF
                    go_wp2_with (first
                      | (refine ldG rfl (.tmp 6) rfl _ rfl hx ?_)
                      | (go_at_call 22; refine (HC.out.chk o' d' a' b' n' t' 200 _).mono ?_; rintro e w6 ⟨rfl, hn6⟩; have hx := hx.new hn6; have hni := hni.trans hn6))
                    go_roundg (19 - (18 + 1))
                    case measure => omega
                    case rel =>
                      refine ⟨18 + 1, by omega, by omega, rfl, by go_num, hni, Lib.hid (fun j h1 h2 => ?_)⟩
                      by_cases hjk : j = 18
                      · rw [hjk]; exact HT.out
                      · exact HJ.out j h1 (by omega)
          · have HQ := Lib.hid hq
            have z1 : ¬ (k : Int) = 14 := by omega
            have z2 : ¬ (k : Int) = 17 := by omega
            have z3 : ((k : Int) == 18) = false := bneq_of (by omega)
            have z4 : ¬ (k : Int) = 16 := by omega
            have z5 : ((k : Int) == 17) = false := bneq_of (by omega)
            have HAT : Hid (∀ i, atW (k : Int) i = i) := Lib.hid (fun i => if_neg (by omega))
            have hN4' : decide ((4 : Int) < (N : Int)) = false := by simp; omega
            generalize (wordsL s.data.toList).getD 0 [] = w0 at hc0 q
            clear hq
            go_wp2_with fail
            refine wp_region_new (w0 := wo) (New.refl _) (by kernel_rfl) (by kernel_rfl) ?_
            repeat (go_big_quiet_step (first | (go_at_call 45; exact quiet_new (HC.out.wordF k hk1 (by omega) _ (Subtype.property _)))))
            refine wpQuiet_nil ?_
            intro w3 h3
            go_wp2_with fail
            have hcurX : New w2 (w3.alloc (.cells #[.int .i64 k, .int .i64 0, .int .i64 0, .int .i64 0, .int .i64 0, .int .i64 0] 41)) := (hnw.trans h3).alloc _
            have hle : w2.heap.size ≤ w3.heap.size := (hnw.trans h3).size
            go_loopg [7] (N - 1) (fun gm v wr => ∃ (i : Nat) (x : I), 1 ≤ i ∧ i ≤ N ∧ gm = N - i ∧ v = .int .i64 i ∧ Has wr w3.heap.size x ∧ New w2 wr ∧ Hid (foldW (k : Int) i x ((wordsL s.data.toList).drop i) = madeW s.data.toList k))
            case atStart => exact ⟨1, zeroI (k : Int), Nat.le_refl _, hN1, rfl, rfl, Has.box w3 (zeroI (k : Int)), hcurX, Lib.hid rfl⟩
            case round =>
              obtain ⟨i, ⟨o', d', a', b', n', t'⟩, hi1, hi2, rfl, rfl, hx, hni, HF⟩ := hrel
              by_cases hil : i < N
              · have hdr : (wordsL s.data.toList).drop i = (wordsL s.data.toList).getD i [] :: (wordsL s.data.toList).drop (i + 1) := by
                  have hlen : i < (wordsL s.data.toList).length := by have := HN.out; omega
                  rw [List.drop_eq_getElem_cons hlen, List.getD_eq_getElem?_getD, List.getElem?_eq_getElem hlen]
                  rfl
                have HF2 := HF.out
                rw [hdr, foldW] at HF2
                have hci : w2.cell? ⟨g0, i, none⟩ = some (strV ((wordsL s.data.toList).getD i [])) := HW.out i hil
                generalize (wordsL s.data.toList).getD i [] = wd at HF2 hci
                have hcw := (hni.cell (World.block_lt_of_cell? _ _ hci)).trans hci
                have HI := Lib.hid hci
                have HG := Lib.hid HF2
                unfold strV at hcw
                clear hdr HF HF2 hci
                cases hlo : (locOf wd).isSome with
                | true =>
                  go_wp2_with (first
                    | (go_at_call 51; refine (HC.out.loc ⟨wd.toArray⟩ _).mono ?_; rw [arr_list, hlo]; rintro e w4 ⟨rfl, hn4⟩; have hni4 := hni.trans hn4; have hx4 := hx.new hn4; have hcw4 := (hni4.cell (World.block_lt_of_cell? _ _ HI.out)).trans HI.out; unfold strV at hcw4)
                    | (go_at_call 52; refine (HC.out.num ⟨wd.toArray⟩ _).mono ?_; rw [arr_list]; rintro e w5 ⟨rfl, hn5⟩; have hni5 := hni4.trans hn5; have hx5 := hx4.new hn5; obtain ⟨f1, f2, f3, f4, f5, e1, e2, e3, e4, e5⟩ := has_full hx5; dsimp only at f1 f2 f3 f4 f5))
                  all_goals
                    go_roundg (N - (i + 1))
                    case measure => omega
                    case rel =>
                      go_light
                      simp only [beq_iff_eq, beq_eq_false_iff_ne, ne_eq] at *
                      have hat := HAT.out i
                      first
                        | (have h1 : atW (k : Int) i = 1 := (by omega); exact ⟨i + 1, { (⟨o', d', a', b', n', t'⟩ : I) with d := locN wd }, by omega, by omega, rfl, by go_num, hx5.setD _, hni5.setC (p := ⟨w3.heap.size, 1, none⟩) hle _, Lib.hid (by rw [← HG.out, step_d hlo h1])⟩)
                        | (have h1 : atW (k : Int) i = 2 := (by omega); exact ⟨i + 1, { (⟨o', d', a', b', n', t'⟩ : I) with a := locN wd }, by omega, by omega, rfl, by go_num, hx5.setA _, hni5.setC (p := ⟨w3.heap.size, 2, none⟩) hle _, Lib.hid (by rw [← HG.out, step_a hlo h1])⟩)
                        | (have h1 : atW (k : Int) i ≠ 1 ∧ atW (k : Int) i ≠ 2 := (by omega); exact ⟨i + 1, { (⟨o', d', a', b', n', t'⟩ : I) with b := locN wd }, by omega, by omega, rfl, by go_num, hx5.setB _, hni5.setC (p := ⟨w3.heap.size, 3, none⟩) hle _, Lib.hid (by rw [← HG.out, step_b hlo h1.1 h1.2])⟩)
                | false =>
                  cases hpa : (parseV wd).isSome with
                  | false =>
                    go_wp2_with (first
                      | (go_at_call 51; refine (HC.out.loc ⟨wd.toArray⟩ _).mono ?_; rw [arr_list, hlo]; rintro e w4 ⟨rfl, hn4⟩; have hni4 := hni.trans hn4; have hx4 := hx.new hn4; have hcw4 := (hni4.cell (World.block_lt_of_cell? _ _ HI.out)).trans HI.out; unfold strV at hcw4)
                      | (go_at_call 52; refine (HC.out.num ⟨wd.toArray⟩ _).mono ?_; rw [arr_list, hpa]; rintro e w5 ⟨rfl, hn5⟩; have hni5 := hni4.trans hn5; have hx5 := hx4.new hn5; obtain ⟨f1, f2, f3, f4, f5, e1, e2, e3, e4, e5⟩ := has_full hx5; dsimp only at f1 f2 f3 f4 f5))
                    all_goals
                      go_roundg (N - (i + 1))
                      case measure => omega
                      case rel => exact ⟨i + 1, ⟨o', d', a', b', n', t'⟩, by omega, by omega, rfl, by go_num, hx5, hni5, Lib.hid (by rw [← HG.out, step_none hlo hpa])⟩
                  | true =>
                    go_wp2_with (first
                      | (go_at_call 51; refine (HC.out.loc ⟨wd.toArray⟩ _).mono ?_; rw [arr_list, hlo]; rintro e w4 ⟨rfl, hn4⟩; have hni4 := hni.trans hn4; have hx4 := hx.new hn4; have hcw4 := (hni4.cell (World.block_lt_of_cell? _ _ HI.out)).trans HI.out; unfold strV at hcw4)
                      | (go_at_call 52; refine (HC.out.num ⟨wd.toArray⟩ _).mono ?_; rw [arr_list, hpa]; rintro e w5 ⟨rfl, hn5⟩; have hni5 := hni4.trans hn5; have hx5 := hx4.new hn5; obtain ⟨f1, f2, f3, f4, f5, e1, e2, e3, e4, e5⟩ := has_full hx5; dsimp only at f1 f2 f3 f4 f5))
                    all_goals
                      go_roundg (N - (i + 1))
                      case measure => omega
                      case rel => exact ⟨i + 1, { (⟨o', d', a', b', n', t'⟩ : I) with n := parN wd }, by omega, by omega, rfl, by go_num, hx5.setN _, hni5.setC (p := ⟨w3.heap.size, 4, none⟩) hle _, Lib.hid (by rw [← HG.out, step_n hlo hpa (by omega)])⟩
              · have hxm : (⟨o', d', a', b', n', t'⟩ : I) = madeW s.data.toList k := by
                  have h := HF.out
                  rw [List.drop_of_length_le (by have := HN.out; omega)] at h
                  exact h
                have hinI : In64I ⟨o', d', a', b', n', t'⟩ := by rw [hxm]; exact made_in (by omega)
                have HII := Lib.hid hinI
                by_cases hck : chkV ⟨o', d', a', b', n', t'⟩ 200 = 0
                · have HCK := Lib.hid hck
                  by_cases hpt : prtL ⟨o', d', a', b', n', t'⟩ = s.data.toList
                  · have hps : prs s.data.toList = some ⟨o', d', a', b', n', t'⟩ := prs_iff.mpr ⟨hinI, hck, hpt⟩
                    have HXN := Lib.hid (prsX_some hps)
                    have HSN : Hid ((prs s.data.toList).isSome = true) := Lib.hid (by rw [hps]; rfl)
                    have q2 : (prtL ⟨o', d', a', b', n', t'⟩ == s.toList) = true := by rw [ByteArray.toList_eq, hpt]; simp
                    clear hxm hinI hpt hps HF
                    go_wp2_with (first
                      | (refine ldG rfl (.tmp 6) rfl _ rfl hx ?_)
                      | (go_at_call 22; refine (HC.out.chk o' d' a' b' n' t' 200 _).mono ?_; rintro e w6 ⟨rfl, hn6⟩; have hx := hx.new hn6; have hni := hni.trans hn6)
                      | (go_at_call 27; refine (HC.out.prt o' d' a' b' n' t' HII.out HCK.out _).mono ?_; rintro e w7 ⟨rfl, hn7⟩; have hx := hx.new hn7; have hni := hni.trans hn7; have hzz := hz2.out.new hni)
                      | (refine wpList_stI rfl rfl (.tmp 2) (.tmp 107) rfl _ rfl ⟨o', d', a', b', n', t'⟩ rfl hzz ?_))
                    have hv := (hzz.stored ⟨o', d', a', b', n', t'⟩).var
                    have HXX := HXN.out
                    have HSS := HSN.out
                    refine bodyPost_ret (by simp [results, Tryd.results32, asAddr, hv]; rfl) rfl ⟨by rw [HXX, HSS], ?_⟩
                    exact (hcur.trans hni).put (Nat.le_refl _) _
                  · have HT : Hid (¬ Takes s.data.toList k) := Lib.hid (fun h => hpt (by rw [hxm]; exact h.2.2.2))
                    have q2 : (prtL ⟨o', d', a', b', n', t'⟩ == s.toList) = false := by rw [ByteArray.toList_eq]; simpa using hpt
                    clear hxm hinI hpt HF
                    go_wp2_with (first
                      | (refine ldG rfl (.tmp 6) rfl _ rfl hx ?_)
                      | (go_at_call 22; refine (HC.out.chk o' d' a' b' n' t' 200 _).mono ?_; rintro e w6 ⟨rfl, hn6⟩; have hx := hx.new hn6; have hni := hni.trans hn6)
                      | (go_at_call 27; refine (HC.out.prt o' d' a' b' n' t' HII.out HCK.out _).mono ?_; rintro e w7 ⟨rfl, hn7⟩; have hx := hx.new hn7; have hni := hni.trans hn7))
                    go_roundg (19 - (k + 1))
                    case measure => omega
                    case rel =>
                      refine ⟨k + 1, by omega, by omega, rfl, by go_num, hni, Lib.hid (fun j h1 h2 => ?_)⟩
                      by_cases hjk : j = k
                      · rw [hjk]; exact HT.out
                      · exact HJ.out j h1 (by omega)
                · have HT : Hid (¬ Takes s.data.toList k) := Lib.hid (fun h => hck (by rw [hxm]; exact h.2.2.1))
                  clear hxm hinI HF
                  go_wp2_with (first
                    | (refine ldG rfl (.tmp 6) rfl _ rfl hx ?_)
                    | (go_at_call 22; refine (HC.out.chk o' d' a' b' n' t' 200 _).mono ?_; rintro e w6 ⟨rfl, hn6⟩; have hx := hx.new hn6; have hni := hni.trans hn6))
                  go_roundg (19 - (k + 1))
                  case measure => omega
                  case rel =>
                    refine ⟨k + 1, by omega, by omega, rfl, by go_num, hni, Lib.hid (fun j h1 h2 => ?_)⟩
                    by_cases hjk : j = k
                    · rw [hjk]; exact HT.out
                    · exact HJ.out j h1 (by omega)
      · have q : ((wordB k).toList == (wordsL s.data.toList).getD 0 []) = false := by rw [ByteArray.toList_eq, wordB_toList]; simpa using hq
        have HT : Hid (¬ Takes s.data.toList k) := Lib.hid (fun h => hq h.1)
        generalize (wordsL s.data.toList).getD 0 [] = w0 at hc0 q hq
        clear hq
        go_wp2_with fail
        refine wp_region_new (w0 := wo) (New.refl _) (by kernel_rfl) (by kernel_rfl) ?_
        repeat (go_big_quiet_step (first | (go_at_call 45; exact quiet_new (HC.out.wordF k hk1 (by omega) _ (Subtype.property _)))))
        refine wpQuiet_nil ?_
        intro w3 h3
        go_wp2
        go_roundg (19 - (k + 1))
        case measure => omega
        case rel =>
          refine ⟨k + 1, by omega, by omega, rfl, by go_num, hnw.trans h3, Lib.hid (fun j h1 h2 => ?_)⟩
          by_cases hjk : j = k
          · rw [hjk]; exact HT.out
          · exact HJ.out j h1 (by omega)
    · have hps : prs s.data.toList = none := none_takes (fun j h1 h2 => HJ.out j h1 (by omega))
      have HXN := Lib.hid (prsX_none hps)
      have HSN : Hid ((prs s.data.toList).isSome = false) := Lib.hid (by rw [hps]; rfl)
      have hzz := hz2.out.new hnw
      clear hps
      go_wp2_with (refine wpList_stI rfl rfl (.tmp 2) (.tmp 108) rfl _ rfl ⟨0, 0, 0, 0, 0, 0⟩ rfl hzz ?_)
      have hv := (hzz.stored ⟨0, 0, 0, 0, 0, 0⟩).var
      have HXX := HXN.out
      have HSS := HSN.out
      refine bodyPost_ret (by simp [results, Tryd.results32, asAddr, hv]; rfl) rfl ⟨by rw [HXX, HSS], ?_⟩
      exact (hcur.trans hnw).put (Nat.le_refl _) _
end Go.Proofs.YtoeplfhigpdopaaDoor
