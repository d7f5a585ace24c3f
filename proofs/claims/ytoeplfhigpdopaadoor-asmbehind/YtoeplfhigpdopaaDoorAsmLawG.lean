/-
  'AsmBehind': a line more, behind a function that is right, is no end to it, but a Ret's or a Jump's to a place of it: true, for every input.
-/
import Derived.Test.YtoeplfhigpdopaaDoorAsmKnows
import Derived.Test.YtoeplfhigpdopaaDoorAsmD
import Derived.Test.YtoeplfhigpdopaaDoorRefAsmA
import Derived.Test.YtoeplfhigpdopaaDoorRefAsmB
import Derived.Deep.RegionHeld3
import Derived.Deep.AppendLies
import Derived.Deep.CutRange
namespace Go.Proofs.YtoeplfhigpdopaaDoor
open Go.RowKit

/-! What the law says of the last line. -/
theorem right_one (x : I) : (chkF [x]).2 = 0 ↔ chkV x 1 = 0 ∧ endB x = true := by
  rw [right_iff]
  have e : lastI [x] = x := rfl
  rw [e]
  constructor
  · rintro ⟨_, _, a, b⟩; exact ⟨a x (by simp), b⟩
  · rintro ⟨a, b⟩; exact ⟨by simp, by simp, by simpa using a, b⟩
def jumpI (t : Int) : I := ⟨16, 0, 0, 0, 0, t⟩
theorem chk_jump {x : I} {m : Int} (h : x.op = 16) : chkV x m = 0 ↔ x = jumpI x.t ∧ 0 ≤ x.t ∧ x.t < m := by
  have hl : letters 16 = [84] := by decide +kernel
  have hk : knownB x.op = true := by rw [h]; decide
  constructor
  · intro hc
    obtain ⟨_, h2, h3⟩ := chk_zero hc
    have hf := h3 84 (by rw [h, hl]; simp)
    have h2' := put_vals hk h2
    rw [h, hl] at h2'
    simp [putAll, valsOf, fieldV, withV, zeroI] at h2'
    have hf2 : (if x.t < 0 ∨ m ≤ x.t then (4 : Int) else 0) = 0 := hf
    refine ⟨h2'.symm, ?_⟩
    by_cases c : x.t < 0 ∨ m ≤ x.t
    · rw [if_pos c] at hf2
      exact absurd hf2 (by decide)
    · omega
  · rintro ⟨e, h0, h1⟩
    refine zero_chk hk ?_ ?_
    · rw [e]
      unfold spareB
      have : letters (jumpI x.t).op = [84] := hl
      rw [this]
      have e2 : bareOf [84] (jumpI x.t) = zeroI (jumpI x.t).op := by simp [bareOf, jumpI, withV, zeroI]
      rw [e2, same_iff.mpr rfl]
      rfl
    · intro c hc
      rw [h, hl] at hc
      obtain rfl := List.mem_singleton.mp hc
      simp [faultV, fieldV]
      omega
theorem chk_ret {x : I} {m n : Int} (h : x.op = 18) : chkV x m = 0 ↔ chkV x n = 0 := by
  have hl : letters x.op = [65] := by rw [h]; decide +kernel
  have one : ∀ {m n : Int}, chkV x m = 0 → chkV x n = 0 := by
    intro m n hc
    obtain ⟨h1, h2, h3⟩ := chk_zero hc
    refine zero_chk h1 h2 ?_
    intro c hcm
    have := h3 c hcm
    rw [hl] at hcm
    obtain rfl := List.mem_singleton.mp hcm
    simpa [faultV] using this
  exact ⟨one, one⟩
/-- The law, in plain words. -/
theorem beh_iff {f : List I} {x : I} (h : (chkF f).2 = 0) (hn : f.length ≤ 199) : (chkF (f ++ [x])).2 = 0 ↔ (chkF [x]).2 = 0 ∨ (x.op = 16 ∧ x = jumpI x.t ∧ 0 ≤ x.t ∧ x.t ≤ f.length) := by
  have h0 := (right_iff.mp h).2.1
  rw [right_more h hn, right_one]
  by_cases h16 : x.op = 16
  · have he : endB x = true := by unfold endB; simp [h16]
    rw [chk_jump h16, chk_jump h16]
    constructor
    · rintro ⟨⟨a, b, c⟩, _⟩; exact .inr ⟨h16, a, b, by omega⟩
    · rintro (⟨⟨a, b, c⟩, _⟩ | ⟨_, a, b, c⟩)
      · exact ⟨⟨a, b, by omega⟩, he⟩
      · exact ⟨⟨a, b, by omega⟩, he⟩
  · by_cases h18 : x.op = 18
    · rw [chk_ret h18 (m := (f.length : Int) + 1) (n := 1)]
      constructor
      · exact .inl
      · rintro (a | ⟨a, _⟩)
        · exact a
        · exact absurd a h16
    · have he : endB x = false := by unfold endB; simp [h16, h18]
      rw [he]
      simp [h16]
theorem fun_cells {w : World} {b off : Nat} {f : List I} (h : Fun w b off f) : ∀ j u, (flat6 f)[j]? = some u → w.cell? ((⟨b, off, none⟩ : Addr).add j) = some u := by
  intro j u hj
  have hlt : j < f.length * 6 := by rw [← flat6_len]; exact (List.getElem?_eq_some_iff.mp hj).1
  have hi : j / 6 < f.length := by omega
  have hr : j % 6 < 6 := Nat.mod_lt _ (by decide)
  have hd : j / 6 * 6 + j % 6 = j := by omega
  rw [← hd, flat6_at f (j / 6) hi (j % 6) hr] at hj
  have := h (j / 6) hi (j % 6) u hj
  rw [Addr.add_mid]
  rw [show off + j = off + j / 6 * 6 + j % 6 by omega]
  exact this
theorem flat_one (f : List I) : ∀ u ∈ flat6 f, u.oneCell' = true := by
  intro u hu
  obtain ⟨x, _, hx⟩ := List.mem_flatMap.mp hu
  exact six_one x u hx
/-- An empty row, made by the call itself. -/
theorem own_empty {w : World} {base k : Nat} (hk : w.heap.size = k) (hb : base ≤ k) : (w.alloc (.cells #[] 41)).ownsRow base 41 6 (.slice (some ⟨k, 0, none⟩) 0 0) 0 [] := by
  subst hk
  exact World.ownsRow_made w #[] 0 hb (by decide) rfl
theorem asmBehind_long (ao : Option Addr) (n cap : Nat) (x : I) (h : (199 : Int) < (n : Int)) (w : World) (hl : Laid w) :
    Calls Tryd.prog 9 #[.slice ao n cap, .agg #[.int .i64 (x).op, .int .i64 (x).d, .int .i64 (x).a, .int .i64 (x).b, .int .i64 (x).n, .int .i64 (x).t]] w fun e w' => e = .returned (.bool true) ∧ New w w' := by
  have HL := Lib.hid hl
  clear hl
  go_enter Tryd.func9, Tryd.ntmps9
  go_wp2_with (go_at_call 10; refine (knows_any _ (HL.out.alloc _)).mono ?_; rintro e w1 ⟨rfl, hn1⟩)
  go_ret
  exact ⟨rfl, (alloc_new _ _).trans hn1⟩
theorem asmBehind_bad (ao : Option Addr) (n cap : Nat) (f : List I) (x : I) (h : ¬ (199 : Int) < (n : Int)) (hc : ((chkF f).2 == 0) = false) (w : World) (hf : FunAt w (.slice ao n cap) f) (hl : Laid w) :
    Calls Tryd.prog 9 #[.slice ao n cap, .agg #[.int .i64 (x).op, .int .i64 (x).d, .int .i64 (x).a, .int .i64 (x).b, .int .i64 (x).n, .int .i64 (x).t]] w fun e w' => e = .returned (.bool true) ∧ New w w' := by
  have HL := Lib.hid hl
  have HF := Lib.hid hf
  clear hl hf
  go_enter Tryd.func9, Tryd.ntmps9
  go_wp2_with (first
    | (go_at_call 15; refine (rasmRight_any _ f _ (HF.out.new (alloc_new _ _))).mono ?_; rw [hc]; rintro e w1 ⟨rfl, hn1⟩)
    | (go_at_call 10; refine (knows_any _ ((HL.out.alloc _).new hn1)).mono ?_; rintro e w2 ⟨rfl, hn2⟩))
  go_ret
  exact ⟨rfl, ((alloc_new _ _).trans hn1).trans hn2⟩
theorem has_six {w : World} {g : Nat} {x : I} (h : Has w g x) : w.cell? ⟨g, 0, none⟩ = some (.int .i64 x.op) ∧ w.cell? ⟨g, 1, none⟩ = some (.int .i64 x.d) ∧ w.cell? ⟨g, 2, none⟩ = some (.int .i64 x.a) ∧
    w.cell? ⟨g, 3, none⟩ = some (.int .i64 x.b) ∧ w.cell? ⟨g, 4, none⟩ = some (.int .i64 x.n) ∧ w.cell? ⟨g, 5, none⟩ = some (.int .i64 x.t) := by
  refine ⟨?_, ?_, ?_, ?_, ?_, ?_⟩ <;> exact cell_of_row w g _ _ _ _ h
theorem new_grown {w0 W w2 : World} {e size n : Nat} {v : Value} {xs : List Value} (hN : New w0 W) (h : W.ownsRow w0.heap.size e size v n xs) (hg : W.grownBy w2 v.ownBlock) : New w0 w2 := Below.grown hN hg hN.size (owns_row h)
/-- The row of the one more, in a world in which another row has grown. -/
theorem six_far {W w2 : World} {k kx : Nat} {x : I} {n cap : Nat} (h : W.heap[kx]? = some (.cells #[.int .i64 x.op, .int .i64 x.d, .int .i64 x.a, .int .i64 x.b, .int .i64 x.n, .int .i64 x.t] 41 (0, 0))) (hg : W.grownBy w2 (Value.slice (some ⟨k, 0, none⟩) n cap).ownBlock) (hk : kx ≠ k) :
    ∀ (j : Nat) (u : Value), (cells6 x)[j]? = some u → w2.cell? ((⟨kx, 0, none⟩ : Addr).add j) = some u := by
  intro j u hj
  have hb : w2.heap[kx]? = _ := (hg.block kx (heap_lt h) (by simp only [Value.ownBlock, ne_eq, Option.some.injEq]; exact hk)).trans h
  rw [Addr.add_mid, cell_of_row _ _ _ _ _ _ hb, Nat.zero_add, ← hj]
  simp [cells6]
theorem fun_one (w : World) (x : I) : Fun (w.alloc (.cells #[.int .i64 x.op, .int .i64 x.d, .int .i64 x.a, .int .i64 x.b, .int .i64 x.n, .int .i64 x.t] 41)) w.heap.size 0 [x] := by
  intro i hi j u hu
  obtain rfl : i = 0 := by simpa using hi
  have := six_new w x 41 j u hu
  rw [Addr.add_mid] at this
  simpa using this
/-- The ways through the law's last line. -/
theorem beh_cases {x : I} {n : Nat} {A R : Int} (h : A = 0 ↔ R = 0 ∨ (x.op = 16 ∧ x = jumpI x.t ∧ 0 ≤ x.t ∧ x.t ≤ n)) :
    ((R == 0) = true ∧ (A == 0) = true) ∨ ((R == 0) = false ∧ (A == 0) = false ∧ (x.op == 16) = false) ∨
    ((R == 0) = false ∧ (A == 0) = false ∧ x.op = 16 ∧ ¬ x.d = 0) ∨ ((R == 0) = false ∧ (A == 0) = false ∧ x.op = 16 ∧ x.d = 0 ∧ ¬ x.a = 0) ∨ ((R == 0) = false ∧ (A == 0) = false ∧ x.op = 16 ∧ x.d = 0 ∧ x.a = 0 ∧ ¬ x.b = 0) ∨
    ((R == 0) = false ∧ (A == 0) = false ∧ x.op = 16 ∧ x.d = 0 ∧ x.a = 0 ∧ x.b = 0 ∧ ¬ x.n = 0) ∨
    ((R == 0) = false ∧ (A == 0) = false ∧ ∃ t, x = ⟨16, 0, 0, 0, 0, t⟩ ∧ decide ((0 : Int) ≤ t) = false) ∨ ((R == 0) = false ∧ (A == 0) = true ∧ ∃ t, x = ⟨16, 0, 0, 0, 0, t⟩ ∧ decide ((0 : Int) ≤ t) = true ∧ decide (t ≤ (n : Int)) = true) ∨ ((R == 0) = false ∧ (A == 0) = false ∧ ∃ t, x = ⟨16, 0, 0, 0, 0, t⟩ ∧ decide ((0 : Int) ≤ t) = true ∧ decide (t ≤ (n : Int)) = false) := by
  by_cases hr : R = 0
  · left
    have ha := h.mpr (.inl hr)
    simp [hr, ha]
  · have qr : (R == 0) = false := by simp [hr]
    right
    by_cases h16 : x.op = 16
    · right
      by_cases hj : x = jumpI x.t
      · by_cases ht : 0 ≤ x.t
        · by_cases hn : x.t ≤ n
          · have ha := h.mpr (.inr ⟨h16, hj, ht, hn⟩)
            exact .inr (.inr (.inr (.inr (.inr (.inl ⟨qr, by simp [ha], x.t, hj, by simp [ht], by simp [hn]⟩)))))
          · have ha : ¬ A = 0 := fun e => (h.mp e).elim hr fun q => hn q.2.2.2
            exact .inr (.inr (.inr (.inr (.inr (.inr ⟨qr, by simp [ha], x.t, hj, by simp [ht], by simp [hn]⟩)))))
        · have ha : ¬ A = 0 := fun e => (h.mp e).elim hr fun q => ht q.2.2.1
          exact .inr (.inr (.inr (.inr (.inl ⟨qr, by simp [ha], x.t, hj, by simp [ht]⟩))))
      · have ha : ¬ A = 0 := fun e => (h.mp e).elim hr fun q => hj q.2.1
        have qa : (A == 0) = false := by simp [ha]
        rcases first_unlike hj with k | ⟨k1, k⟩ | ⟨k1, k2, k⟩ | ⟨k1, k2, k3, k⟩ | ⟨k1, k2, k3, k4, k⟩ | ⟨k1, k2, k3, k4, k5, k⟩
        · exact absurd h16 k
        · exact .inl ⟨qr, qa, h16, k⟩
        · exact .inr (.inl ⟨qr, qa, h16, k2, k⟩)
        · exact .inr (.inr (.inl ⟨qr, qa, h16, k2, k3, k⟩))
        · exact .inr (.inr (.inr (.inl ⟨qr, qa, h16, k2, k3, k4, k⟩)))
        · exact absurd rfl k
    · left
      have ha : ¬ A = 0 := fun e => (h.mp e).elim hr fun q => h16 q.1
      exact ⟨qr, by simp [ha], by simp [h16]⟩
theorem newcells_six {a : World} {g : Nat} {x : I} (h : Has a g x) :
    (∀ y : NewW a, y.val.cell? ⟨g, 0, none⟩ = some (.int .i64 x.op)) ∧ (∀ y : NewW a, y.val.cell? ⟨g, 1, none⟩ = some (.int .i64 x.d)) ∧ (∀ y : NewW a, y.val.cell? ⟨g, 2, none⟩ = some (.int .i64 x.a)) ∧
    (∀ y : NewW a, y.val.cell? ⟨g, 3, none⟩ = some (.int .i64 x.b)) ∧ (∀ y : NewW a, y.val.cell? ⟨g, 4, none⟩ = some (.int .i64 x.n)) ∧ (∀ y : NewW a, y.val.cell? ⟨g, 5, none⟩ = some (.int .i64 x.t)) := by
  refine ⟨fun y => ?_, fun y => ?_, fun y => ?_, fun y => ?_, fun y => ?_, fun y => ?_⟩ <;> exact cell_of_row y.val g _ _ _ _ (h.new y.property)
theorem has_range {w : World} {g : Nat} {x : I} (h : Has w g x) : w.rangeAt g 0 (cells6 x) := by
  intro j v hv
  rw [cell_of_row _ _ _ _ _ _ h, Nat.zero_add, ← hv]
  simp [cells6]
/-- What is left of a region that draws its order, where all that is left answers one value each in every world in which nothing has turned. -/
theorem wpAnyH_quiet {P : Program} {md : Region.Mode} {ops : Array Oper} {C S : World → Prop} {Q : Act → Prop} {Q' : Exit → Act → World → Prop} (hQ : ∀ a w, C w → Q a → Q' .normal a w) (hS : ∀ w, C w → S w) :
    ∀ (fuel : Nat) (listed : Array Bool) (a : Act) (w : World), C w → wpAnyQ P md ops C Q fuel listed a → wpAnyH P md ops Q' S fuel listed a w
  | 0, _, _, _, hw, h => ⟨h.1, hQ _ _ hw h.2⟩
  | fuel + 1, _, _, _, hw, h => ⟨fun h0 => hQ _ _ hw (h.1 h0), fun i hi => wpOp_of_qOp hw (fun a' w' hw' hh => ⟨hS _ hw', wpAnyH_quiet hQ hS fuel _ a' w' hw' hh⟩) (h.2 i hi)⟩
theorem wpAnyH_tail {P : Program} {l : List Oper} {wc w : World} {Q : Exit → Act → World → Prop} {fuel : Nat} {listed : Array Bool} {a : Act} (k : Nat) (hf : fuel = (l.drop k).length) (hs : Region.noSelect l.toArray = true)
    (hB : Region.lexFrom .any l.toArray (l.drop k).length k listed = true) (hC : New wc w) (h : wpQuiet P l.toArray (fun w' => ∃ y : NewW wc, w' = y.val) (fun a' => ∀ w', New wc w' → Q .normal a' w') (l.drop k) a) :
    wpAnyH P .any l.toArray Q (fun w' => New wc w') fuel listed a w := by
  subst hf
  refine wpAnyH_quiet (C := fun w' => ∃ y : NewW wc, w' = y.val) (Q := fun a' => ∀ w', New wc w' → Q .normal a' w') (fun a' w' hw' hq => ?_) (fun w' hw' => ?_) _ _ _ _ ⟨⟨w, hC⟩, rfl⟩ ?_
  · obtain ⟨y, rfl⟩ := hw'; exact hq _ y.property
  · obtain ⟨y, rfl⟩ := hw'; exact y.property
  · exact wpAnyQ_lex hs (l.drop k) k listed a (fun j => by simp [List.getElem?_drop]) hB h
set_option maxHeartbeats 4000000 in
set_option maxRecDepth 100000 in
theorem asmBehind_in (b off cap n : Nat) (f : List I) (x : I) (hn : f.length = n) (h1 : n ≤ 199) (h0 : 0 < n) (hc : ((chkF f).2 == 0) = true) (w : World) (hf : Fun w b off f) (hl : Laid w) :
    Calls Tryd.prog 9 #[.slice (some ⟨b, off, none⟩) n cap, .agg #[.int .i64 (x).op, .int .i64 (x).d, .int .i64 (x).a, .int .i64 (x).b, .int .i64 (x).n, .int .i64 (x).t]] w fun e w' => e = .returned (.bool true) ∧ New w w' := by
  have HL := Lib.hid hl
  have HF := Lib.hid hf
  have HN := Lib.hid hn
  have HA : Hid (FunAt w (.slice (some ⟨b, off, none⟩) n cap) f) := Lib.hid (.inr ⟨b, off, cap, by rw [hn], hf⟩)
  have HX := Lib.hid (Has.box w x)
  have q1 : decide ((199 : Int) < (n : Int)) = false := by simp; omega
  obtain ⟨i0, hi, hz0, hz1, hz2⟩ := info_parts infoI6
  have HI := Lib.hid hi; have HZ0 := Lib.hid hz0; have HZ1 := Lib.hid hz1; have HZ2 := Lib.hid hz2
  clear hl hf hn hi hz0 hz1 hz2
  go_enter Tryd.func9, Tryd.ntmps9
  go_upto_region 3 with (go_at_call 15; refine (rasmRight_any _ f _ (HA.out.new (alloc_new _ _))).mono ?_; rw [hc]; rintro e w1 ⟨rfl, hn1⟩)
  have hcur := Lib.hid ((alloc_new w (.cells #[.int .i64 x.op, .int .i64 x.d, .int .i64 x.a, .int .i64 x.b, .int .i64 x.n, .int .i64 x.t] 41)).trans hn1)
  have hx1 := Lib.hid (HX.out.new hn1)
  obtain ⟨c0, c1, c2, c3, c4, c5⟩ := has_six hx1.out
  have hne := World.new_ne w1 _ c0
  have hlt1 : w.heap.size < w1.heap.size := heap_lt hx1.out
  have HF1 := Lib.hid (HF.out.new hcur.out)
  clear hn1
  go_cut [5] from 15 to 20 (fun v5 wx => Hid (FunAt wx v5 (f ++ [x])) ∧ Hid (New w wx) ∧ Hid (Has wx w.heap.size x))
  case first =>
    go_region_held3 (fun w' => w'.cell? ⟨w.heap.size, 0, none⟩ = some (.int .i64 x.op) ∧ w'.cell? ⟨w.heap.size, 1, none⟩ = some (.int .i64 x.d) ∧ w'.cell? ⟨w.heap.size, 2, none⟩ = some (.int .i64 x.a) ∧ w'.cell? ⟨w.heap.size, 3, none⟩ = some (.int .i64 x.b) ∧ w'.cell? ⟨w.heap.size, 4, none⟩ = some (.int .i64 x.n) ∧ w'.cell? ⟨w.heap.size, 5, none⟩ = some (.int .i64 x.t)) (go_keep)
      (first
        | (refine step_append_lies (w1.drew.alloc (.cells #[] 41)) (by rfl) (.tmp 15) (.tmp 16) _ (by rfl) w1.heap.size 41 i0 _ 6 48 Tryd.underlying22 HI.out HZ0.out HZ1.out HZ2.out rfl (by omega) _ 0 [] (by rfl) (own_empty (w := w1.drew) (k := w1.heap.size) rfl (Nat.le_refl _)) ⟨b, off, none⟩ n cap (flat6 f) (by rfl) (by rw [flat6_len, HN.out]) (fun_cells (HF1.out.new ((New.drew (New.refl w1)).alloc (.cells #[] 41)))) (flat_one f) h0 (by unfold maxLen; omega) (by omega) (by have := (Below.size ((New.drew (New.refl w1)).alloc (.cells #[] 41))); exact this) _ rfl ?_; intro g1 cap1 w2 hownR hgrow1 hat1 hlt2; have hown1 := hownR; simp only [Nat.zero_add, List.nil_append] at hown1; have hN2 := new_grown ((New.drew (New.refl w1)).alloc (.cells #[] 41)) (own_empty (w := w1.drew) (k := w1.heap.size) rfl (Nat.le_refl _)) hgrow1; have hz := has_six (hx1.out.new hN2); clear hgrow1 hat1)
        | (refine step_append_lies ((w1.drew.alloc (.cells #[] 41)).alloc (.cells #[.int .i64 x.op, .int .i64 x.d, .int .i64 x.a, .int .i64 x.b, .int .i64 x.n, .int .i64 x.t] 41)) (by rfl) (.tmp 15) (.tmp 16) _ (by rfl) w1.heap.size 41 i0 _ 6 48 Tryd.underlying22 HI.out HZ0.out HZ1.out HZ2.out rfl (by omega) _ 0 [] (by rfl) (World.ownsRow.alloc (own_empty (w := w1.drew) (k := w1.heap.size) rfl (Nat.le_refl _)) (.cells #[.int .i64 x.op, .int .i64 x.d, .int .i64 x.a, .int .i64 x.b, .int .i64 x.n, .int .i64 x.t] 41)) ⟨b, off, none⟩ n cap (flat6 f) (by rfl) (by rw [flat6_len, HN.out]) (fun_cells (HF1.out.new (((New.drew (New.refl w1)).alloc (.cells #[] 41)).alloc (.cells #[.int .i64 x.op, .int .i64 x.d, .int .i64 x.a, .int .i64 x.b, .int .i64 x.n, .int .i64 x.t] 41)))) (flat_one f) h0 (by unfold maxLen; omega) (by omega) (by have := (Below.size (((New.drew (New.refl w1)).alloc (.cells #[] 41)).alloc (.cells #[.int .i64 x.op, .int .i64 x.d, .int .i64 x.a, .int .i64 x.b, .int .i64 x.n, .int .i64 x.t] 41))); exact this) _ rfl ?_; intro g1 cap1 w2 hownR hgrow1 hat1 hlt2; have hown1 := hownR; simp only [Nat.zero_add, List.nil_append] at hown1; have hN2 := new_grown (((New.drew (New.refl w1)).alloc (.cells #[] 41)).alloc (.cells #[.int .i64 x.op, .int .i64 x.d, .int .i64 x.a, .int .i64 x.b, .int .i64 x.n, .int .i64 x.t] 41)) (World.ownsRow.alloc (own_empty (w := w1.drew) (k := w1.heap.size) rfl (Nat.le_refl _)) (.cells #[.int .i64 x.op, .int .i64 x.d, .int .i64 x.a, .int .i64 x.b, .int .i64 x.n, .int .i64 x.t] 41)) hgrow1; have hxb := six_far (kx := w1.heap.size + 1) (x := x) (alloc_at (by rw [alloc_size]; rfl) _) hgrow1 (by omega); have hz := has_six (hx1.out.new hN2); clear hgrow1 hat1)
        | (refine step_append_lies ((w1.drew.alloc (.cells #[.int .i64 x.op, .int .i64 x.d, .int .i64 x.a, .int .i64 x.b, .int .i64 x.n, .int .i64 x.t] 41)).alloc (.cells #[] 41)) (by rfl) (.tmp 15) (.tmp 16) _ (by rfl) w1.heap.size 41 i0 _ 6 48 Tryd.underlying22 HI.out HZ0.out HZ1.out HZ2.out rfl (by omega) _ 0 [] (by rfl) (own_empty (w := w1.drew.alloc (.cells #[.int .i64 x.op, .int .i64 x.d, .int .i64 x.a, .int .i64 x.b, .int .i64 x.n, .int .i64 x.t] 41)) (k := w1.heap.size + 1) (alloc_size _ _) (Nat.le_succ _)) ⟨b, off, none⟩ n cap (flat6 f) (by rfl) (by rw [flat6_len, HN.out]) (fun_cells (HF1.out.new (((New.drew (New.refl w1)).alloc (.cells #[.int .i64 x.op, .int .i64 x.d, .int .i64 x.a, .int .i64 x.b, .int .i64 x.n, .int .i64 x.t] 41)).alloc (.cells #[] 41)))) (flat_one f) h0 (by unfold maxLen; omega) (by omega) (by have := (Below.size (((New.drew (New.refl w1)).alloc (.cells #[.int .i64 x.op, .int .i64 x.d, .int .i64 x.a, .int .i64 x.b, .int .i64 x.n, .int .i64 x.t] 41)).alloc (.cells #[] 41))); exact this) _ rfl ?_; intro g1 cap1 w2 hownR hgrow1 hat1 hlt2; have hown1 := hownR; simp only [Nat.zero_add, List.nil_append] at hown1; have hN2 := new_grown (((New.drew (New.refl w1)).alloc (.cells #[.int .i64 x.op, .int .i64 x.d, .int .i64 x.a, .int .i64 x.b, .int .i64 x.n, .int .i64 x.t] 41)).alloc (.cells #[] 41)) (own_empty (w := w1.drew.alloc (.cells #[.int .i64 x.op, .int .i64 x.d, .int .i64 x.a, .int .i64 x.b, .int .i64 x.n, .int .i64 x.t] 41)) (k := w1.heap.size + 1) (alloc_size _ _) (Nat.le_succ _)) hgrow1; have hxb := six_far (W := (w1.drew.alloc (.cells #[.int .i64 x.op, .int .i64 x.d, .int .i64 x.a, .int .i64 x.b, .int .i64 x.n, .int .i64 x.t] 41)).alloc (.cells #[] 41)) (kx := w1.heap.size) (x := x) ((alloc_new (w1.drew.alloc (.cells #[.int .i64 x.op, .int .i64 x.d, .int .i64 x.a, .int .i64 x.b, .int .i64 x.n, .int .i64 x.t] 41)) _).heap (alloc_at (w := w1.drew) rfl _)) hgrow1 (by omega); have hz := has_six (hx1.out.new hN2); clear hgrow1 hat1)
        | (refine step_append_lies (w2.alloc (.cells #[.int .i64 x.op, .int .i64 x.d, .int .i64 x.a, .int .i64 x.b, .int .i64 x.n, .int .i64 x.t] 41)) (by rfl) (.tmp 17) (.tmp 19) _ (by rfl) w1.heap.size 41 i0 _ 6 48 Tryd.underlying22 HI.out HZ0.out HZ1.out HZ2.out rfl (by omega) _ n (flat6 f) (by rfl) (World.ownsRow.alloc hown1 (.cells #[.int .i64 x.op, .int .i64 x.d, .int .i64 x.a, .int .i64 x.b, .int .i64 x.n, .int .i64 x.t] 41)) ⟨w2.heap.size, 0, none⟩ 1 1 (cells6 x) (by rfl) rfl (six_new _ _ _) (six_one x) (by decide) (by unfold maxLen; omega) (by omega) (by have := (Below.size (hN2.alloc (.cells #[.int .i64 x.op, .int .i64 x.d, .int .i64 x.a, .int .i64 x.b, .int .i64 x.n, .int .i64 x.t] 41))); exact this) _ rfl ?_; intro g2 cap2 w3 hown2 hgrow2 hat2 hlt3; have hN3 := new_grown (hN2.alloc (.cells #[.int .i64 x.op, .int .i64 x.d, .int .i64 x.a, .int .i64 x.b, .int .i64 x.n, .int .i64 x.t] 41)) (World.ownsRow.alloc hown1 (.cells #[.int .i64 x.op, .int .i64 x.d, .int .i64 x.a, .int .i64 x.b, .int .i64 x.n, .int .i64 x.t] 41)) hgrow2; have hz3 := has_six (hx1.out.new hN3); clear hgrow2 hat2)
        | (refine step_append_lies w2 (by rfl) (.tmp 17) (.tmp 19) _ (by rfl) w1.heap.size 41 i0 _ 6 48 Tryd.underlying22 HI.out HZ0.out HZ1.out HZ2.out rfl (by omega) _ (0 + n) ([] ++ flat6 f) (by rfl) hownR ⟨_, 0, none⟩ 1 1 (cells6 x) (by rfl) rfl hxb (six_one x) (by decide) (by unfold maxLen; omega) (by omega) (by have := (Below.size hN2); exact this) _ rfl ?_; intro g2 cap2 w3 hown2 hgrow2 hat2 hlt3; have hN3 := new_grown hN2 hownR hgrow2; have hz3 := has_six (hx1.out.new hN3); clear hgrow2 hat2))
    all_goals
      go_wp2_with fail
      go_meet
      refine ⟨Lib.hid (fun_own (base := w1.heap.size) ?_), Lib.hid (hcur.out.trans hN3), Lib.hid (hx1.out.new hN3)⟩
      rw [flat6_app, flat6_one, List.length_append, HN.out]
      first | exact hown2 | (simp only [Nat.zero_add, List.nil_append] at hown2 ⊢; exact hown2)
  case rest =>
  obtain ⟨HG, HNC, HXC⟩ := hcut
  clear c0 c1 c2 c3 c4 c5 hne hlt1 HF1 hcur hx1 HI HZ0 HZ1 HZ2 HX HF
  have hb := beh_iff (x := x) (by simpa using hc) (by rw [HN.out]; exact h1)
  rw [HN.out] at hb
  have hcase := beh_cases hb
  clear hb
  have HCS := Lib.hid hcase
  clear hcase
  have HR6 : Hid (∀ w', New wc w' → w'.rangeAt w.heap.size 0 (cells6 x)) := Lib.hid (fun w' hw' => has_range (HXC.out.new hw'))
  have hne := newW_any wc
  have HLC := Lib.hid (HL.out.new HNC.out)
  go_wp2_with fail
  refine wp_region_noPanic ?_
  refine wp_region_held_drew (S := fun w' => New wc w') (by kernel_rfl) ((New.refl wc).drew) (fun _ => ?_)
  refine wpAnyH_take (i := 0) (v := _) rfl (by kernel_rfl) (by kernel_rfl) (by kernel_rfl) (fun _ _ _ h => h) (Or.inl ⟨rfl, fun _ _ => rfl⟩) ((New.refl wc).drew) ?_
  simp only [Act.put, List.setIfInBounds_toArray]
  refine wpAnyH_take (i := 2) (v := .agg #[.int .i64 (x).op, .int .i64 (x).d, .int .i64 (x).a, .int .i64 (x).b, .int .i64 (x).n, .int .i64 (x).t]) rfl (by kernel_rfl) (by kernel_rfl) (by kernel_rfl) (fun _ _ _ h => h) (yieldsIf_load_mid (by rfl) _ _ rfl w.heap.size 0 rfl (cells6 x) _ HR6.out Tryd.underlying41 rfl (by rw [cells6_len]; exact infoI)) ((New.refl wc).drew) ?_
  simp only [Act.put]
  refine wpAnyH_ready (rs := [1, 3]) (by kernel_rfl) (by simp) ?_
  refine AllReadyH.cons rfl (fun K hK => ?_) (AllReadyH.cons rfl (fun K hK => ?_) AllReadyH.nil)
  · rw [if_pos (by rfl)]
    go_simp
    refine (asmRight_any _ (f ++ [x]) wc.drew (HL.out.new (HNC.out.trans ((New.refl wc).drew))) (HG.out.new ((New.refl wc).drew))).mono ?_
    rintro e wa ⟨rfl, hna⟩
    have hNa := Lib.hid (((New.refl wc).drew).trans hna)
    clear hna
    dsimp only
    refine hK.out _ _ hNa.out (fun _ => ?_)
    try simp only [Act.put, List.setIfInBounds_toArray, List.set_cons_zero, List.set_cons_succ]
    refine wpAnyH_ready (rs := [3]) (by kernel_rfl) (by simp) ?_
    refine AllReadyH.cons rfl (fun K hK => ?_) AllReadyH.nil
    rw [if_pos (by rfl)]
    go_simp
    refine hK.out _ _ (hNa.out.alloc _) (fun _ => ?_)
    try simp only [Act.put, List.setIfInBounds_toArray, List.set_cons_zero, List.set_cons_succ]
    refine wpAnyH_ready (rs := [4]) (by kernel_rfl) (by simp) ?_
    refine AllReadyH.cons rfl (fun K hK => ?_) AllReadyH.nil
    rw [if_pos (by rfl)]
    go_simp
    refine (rasmRight_any _ [x] _ (.inr ⟨_, 0, 1, rfl, fun_one wa x⟩)).mono ?_
    rintro e wb ⟨rfl, hnb⟩
    have hNb := Lib.hid ((hNa.out.alloc _).trans hnb)
    clear hnb
    dsimp only
    refine hK.out _ _ hNb.out (fun _ => ?_)
    try simp only [Act.put, List.setIfInBounds_toArray, List.set_cons_zero, List.set_cons_succ]
    refine wpAnyH_tail 5 rfl (by kernel_rfl) (by kernel_rfl) hNb.out ?_
    simp only [List.drop_succ_cons, List.drop_zero]
    rcases HCS.out with ⟨qr, qa⟩ | ⟨qr, qa, e1⟩ | ⟨qr, qa, e1, e2⟩ | ⟨qr, qa, e1, e2, e3⟩ | ⟨qr, qa, e1, e2, e3, e4⟩ | ⟨qr, qa, e1, e2, e3, e4, e5⟩ | ⟨qr, qa, t, rfl, e2⟩ | ⟨qr, qa, t, rfl, e2, e3⟩ | ⟨qr, qa, t, rfl, e2, e3⟩
    all_goals
      obtain ⟨c0, c1, c2, c3, c4, c5⟩ := newcells_six HXC.out
      simp only [qr, qa]
      repeat (go_big_quiet_step (first | (go_at_call 10; exact quiet_new (knows_from _ HLC (Subtype.property _)))))
      refine wpQuiet_nil ?_
      intro w2 h2
      refine NoPanic.normal ?_
      go_wp2
      go_ret
      exact ⟨rfl, HNC.out.trans h2⟩
  · rw [if_pos (by rfl)]
    go_simp
    refine hK.out _ _ (((New.refl wc).drew).alloc _) (fun _ => ?_)
    try simp only [Act.put, List.setIfInBounds_toArray, List.set_cons_zero, List.set_cons_succ]
    refine wpAnyH_ready (rs := [1]) (by kernel_rfl) (by simp) ?_
    refine AllReadyH.cons rfl (fun K hK => ?_) AllReadyH.nil
    rw [if_pos (by rfl)]
    go_simp
    refine (asmRight_any _ (f ++ [x]) (wc.drew.alloc (.cells #[.int .i64 x.op, .int .i64 x.d, .int .i64 x.a, .int .i64 x.b, .int .i64 x.n, .int .i64 x.t] 41)) (HL.out.new (HNC.out.trans (((New.refl wc).drew).alloc _))) (HG.out.new (((New.refl wc).drew).alloc _))).mono ?_
    rintro e wa ⟨rfl, hna⟩
    have hNa := Lib.hid ((((New.refl wc).drew).alloc _).trans hna)
    have hfo := Lib.hid ((fun_one wc.drew x).new hna)
    clear hna
    dsimp only
    refine hK.out _ _ hNa.out (fun _ => ?_)
    try simp only [Act.put, List.setIfInBounds_toArray, List.set_cons_zero, List.set_cons_succ]
    refine wpAnyH_ready (rs := [4]) (by kernel_rfl) (by simp) ?_
    refine AllReadyH.cons rfl (fun K hK => ?_) AllReadyH.nil
    rw [if_pos (by rfl)]
    go_simp
    refine (rasmRight_any _ [x] _ (.inr ⟨_, 0, 1, rfl, hfo.out⟩)).mono ?_
    rintro e wb ⟨rfl, hnb⟩
    have hNb := Lib.hid (hNa.out.trans hnb)
    clear hnb
    dsimp only
    refine hK.out _ _ hNb.out (fun _ => ?_)
    try simp only [Act.put, List.setIfInBounds_toArray, List.set_cons_zero, List.set_cons_succ]
    refine wpAnyH_tail 5 rfl (by kernel_rfl) (by kernel_rfl) hNb.out ?_
    simp only [List.drop_succ_cons, List.drop_zero]
    rcases HCS.out with ⟨qr, qa⟩ | ⟨qr, qa, e1⟩ | ⟨qr, qa, e1, e2⟩ | ⟨qr, qa, e1, e2, e3⟩ | ⟨qr, qa, e1, e2, e3, e4⟩ | ⟨qr, qa, e1, e2, e3, e4, e5⟩ | ⟨qr, qa, t, rfl, e2⟩ | ⟨qr, qa, t, rfl, e2, e3⟩ | ⟨qr, qa, t, rfl, e2, e3⟩
    all_goals
      obtain ⟨c0, c1, c2, c3, c4, c5⟩ := newcells_six HXC.out
      simp only [qr, qa]
      repeat (go_big_quiet_step (first | (go_at_call 10; exact quiet_new (knows_from _ HLC (Subtype.property _)))))
      refine wpQuiet_nil ?_
      intro w2 h2
      refine NoPanic.normal ?_
      go_wp2
      go_ret
      exact ⟨rfl, HNC.out.trans h2⟩
theorem asmBehind_law (v : Value) (f : List I) (o d a b n t : Int) (w : World) (hf : FunAt w v f) (_hi : ∀ y ∈ f, In64I y) (_hm : f.length ≤ maxLen) (_hx : In64I ⟨o, d, a, b, n, t⟩) (hl : Laid w) :
    Calls Tryd.prog 9 #[v, .agg #[.int .i64 o, .int .i64 d, .int .i64 a, .int .i64 b, .int .i64 n, .int .i64 t]] w fun e w' => e = .returned (.bool true) ∧ New w w' := by
  by_cases hn : f.length ≤ 199
  · by_cases h : (chkF f).2 = 0
    · have h0 := (right_iff.mp h).2.1
      rcases hf with ⟨rfl, _⟩ | ⟨bk, off, cap, rfl, hf⟩
      · exact absurd rfl h0
      · exact asmBehind_in bk off cap f.length f ⟨o, d, a, b, n, t⟩ rfl hn (by omega) (by simp [h]) w hf hl
    · have hf' := hf
      obtain ⟨ao, cap, rfl⟩ := hf.form
      exact asmBehind_bad ao f.length cap f ⟨o, d, a, b, n, t⟩ (by omega) (by simp [h]) w hf' hl
  · obtain ⟨ao, cap, rfl⟩ := hf.form
    exact asmBehind_long ao f.length cap ⟨o, d, a, b, n, t⟩ (by omega) w hl
end Go.Proofs.YtoeplfhigpdopaaDoor
