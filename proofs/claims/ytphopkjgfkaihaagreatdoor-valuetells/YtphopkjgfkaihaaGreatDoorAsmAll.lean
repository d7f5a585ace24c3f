/-
  Rows that the call itself makes by append: what keeps them, and what they keep.
  A slice's value that holds a function: what it is, that it stays in grown memory, that a row of the call's own is one; the load of one of its instructions, at the operation.
  A function's value at a place: the instruction that is there.
  The last instruction of a function.
  The contracts of asm.ends, Check and Right: for every function.
  What a closure that appends to two captured slices does: laws on loads and stores of a block of one cell, on rows of the call's own; asm.Parse's closure, for every line.
  The contracts of asm.eachLine (with Parse's closure) and asm.Parse: for every text.
-/
import Derived.Test.YtphopkjgfkaihaaGreatDoorPlain
import Derived.Test.YtphopkjgfkaihaaGreatDoorProg
import Derived.Test.YtphopkjgfkaihaaGreatDoorInsAll
import Derived.Deep.MidRow
namespace Go.Proofs.YtphopkjgfkaihaaGreatDoor
open Go.RowKit

theorem infoInt : (Tryz.prog.info? 3).map (fun i => (i.zero, i.size, i.bytes)) = some (some (.int .i64 0), 1, 8) := by kernel_rfl
theorem owns_put {w : World} {base e size n g : Nat} {v : Value} {xs : List Value} (h : w.ownsRow base e size v n xs) (hg : g < base) (o : Obj) : (putO w g o).ownsRow base e size v n xs :=
  ⟨h.1, h.2.elim .inl fun ⟨k, cap, cur, h1, h2, h3, h4⟩ => .inr ⟨k, cap, cur, h1, h2, by rw [putO_other (by omega)]; exact h3, h4⟩⟩
theorem owns_row {w : World} {base e size n : Nat} {v : Value} {xs : List Value} (h : w.ownsRow base e size v n xs) : ∀ k, v.ownBlock = some k → base ≤ k := fun k hk => (h.lt k hk).1
theorem grown_heap {w w' : World} {row : Option Nat} {g : Nat} {o : Obj} (h : w.grownBy w' row) (hg : w.heap[g]? = some o) (hr : ∀ k, row = some k → g < k) : w'.heap[g]? = some o := by
  rw [h.block g (heap_lt hg) (fun e => by have := hr g e.symm; omega)]; exact hg
theorem one_new (w : World) (x : Value) (t : TypeId) : ∀ (j : Nat) (u : Value), [x][j]? = some u → (w.alloc (.cells #[x] t)).cell? ((⟨w.heap.size, 0, none⟩ : Addr).add j) = some u := by
  intro j u hj
  exact cell_one_new w x t j u hj
end Go.Proofs.YtphopkjgfkaihaaGreatDoor
namespace Go.Proofs.YtphopkjgfkaihaaGreatDoor
open Go.RowKit

/-- An instruction's cells. -/
def cells6 (x : I) : List Value := [.int .i64 x.op, .int .i64 x.d, .int .i64 x.a, .int .i64 x.b, .int .i64 x.n, .int .i64 x.t]
theorem cells6_len (x : I) : (cells6 x).length = 6 := rfl
/-- The instructions lie one behind the other. -/
def Fun (w : World) (b off : Nat) (f : List I) : Prop := ∀ i (h : i < f.length), w.rangeAt b (off + i * 6) (cells6 f[i])
/-- A slice's value holds a function. -/
def FunAt (w : World) (v : Value) (f : List I) : Prop :=
  (f = [] ∧ ∃ ao cap, v = .slice ao 0 cap) ∨ ∃ b off cap, v = .slice (some ⟨b, off, none⟩) f.length cap ∧ Fun w b off f
theorem New.cell {w w' : World} (h : New w w') {a : Addr} {v : Value} (hc : w.cell? a = some v) : w'.cell? a = some v := by
  have hlt : a.block < w.heap.size := by
    unfold World.cell? at hc
    cases hb : w.heap[a.block]? with
    | none => rw [hb] at hc; simp at hc
    | some o => exact heap_lt hb
  have := h.block a.block hlt
  unfold World.cell? at hc ⊢
  rw [this]
  exact hc
theorem Fun.new {w w' : World} {b off : Nat} {f : List I} (h : Fun w b off f) (n : New w w') : Fun w' b off f := fun i hi j v hv => n.cell (h i hi j v hv)
theorem FunAt.new {w w' : World} {v : Value} {f : List I} (h : FunAt w v f) (n : New w w') : FunAt w' v f := by
  rcases h with h | ⟨b, off, cap, h1, h2⟩
  · exact .inl h
  · exact .inr ⟨b, off, cap, h1, h2.new n⟩
theorem FunAt.nil (w : World) (ao : Option Addr) (cap : Nat) : FunAt w (.slice ao 0 cap) [] := .inl ⟨rfl, ao, cap, rfl⟩
def flat6 (f : List I) : List Value := f.flatMap cells6
theorem flat6_len : ∀ f : List I, (flat6 f).length = f.length * 6
  | [] => rfl
  | x :: f => by
    have := flat6_len f
    unfold flat6 at this ⊢
    rw [List.flatMap_cons, List.length_append, this, cells6_len, List.length_cons]
    omega
theorem flat6_app (f g : List I) : flat6 (f ++ g) = flat6 f ++ flat6 g := by unfold flat6; rw [List.flatMap_append]
theorem flat6_one (x : I) : flat6 [x] = cells6 x := by simp [flat6]
theorem flat6_at : ∀ (f : List I) (i : Nat) (h : i < f.length) (j : Nat), j < 6 → (flat6 f)[i * 6 + j]? = (cells6 f[i])[j]?
  | [], i, h, j, hj => absurd h (Nat.not_lt_zero _)
  | x :: f, 0, h, j, hj => by
    unfold flat6
    rw [List.flatMap_cons, List.getElem?_append_left (by rw [cells6_len]; omega)]
    simp
  | x :: f, i + 1, h, j, hj => by
    have := flat6_at f i (by simpa using h) j hj
    unfold flat6 at this ⊢
    rw [List.flatMap_cons, List.getElem?_append_right (by rw [cells6_len]; omega), cells6_len]
    rw [show (i + 1) * 6 + j - 6 = i * 6 + j by omega, this]
    simp
/-- A row of the call's own. -/
theorem fun_own {w : World} {base : Nat} {v : Value} {f : List I} (h : w.ownsRow base 79 6 v f.length (flat6 f)) : FunAt w v f := by
  rcases h.2 with ⟨hv, h0⟩ | ⟨g, cap, cur, hv, _⟩
  · exact .inl ⟨List.length_eq_zero_iff.mp h0, none, 0, hv⟩
  · refine .inr ⟨g, 0, cap, hv, fun i hi j u hu => ?_⟩
    have hj : j < 6 := by
      rw [← cells6_len f[i]]
      exact (List.getElem?_eq_some_iff.mp hu).1
    have := h.cells (g := g) (by rw [hv]; rfl) (i * 6 + j) u (by rw [flat6_at f i hi j hj]; exact hu)
    rw [Addr.add_mid] at this
    rw [show 0 + i * 6 + j = 0 + (i * 6 + j) by omega]
    exact this
/-- The load of an instruction that lies among others, at the operation. -/
theorem wpList_ldE {ops : Array Oper} {rest : List Oper} {op : Oper} {act : Act} {w : World} {Q : Exit → Act → World → Prop} (hgd : op.guard = none) (p : Operand) (ho : op.op = .load 79 p)
    (b o : Nat) (hx : act.eval p = .pointer (some ⟨b, o, none⟩)) {x : I} (h : w.rangeAt b o (cells6 x))
    (hk : wpList Tryz.prog ops Q rest (act.put op.dst (.agg #[.int .i64 (x).op, .int .i64 (x).d, .int .i64 (x).a, .int .i64 (x).b, .int .i64 (x).n, .int .i64 (x).t])) w) : wpList Tryz.prog ops Q (op :: rest) act w :=
  wpList_load_mid hgd _ p ho b o hx (cells6 x) _ h Tryz.underlying79 rfl (by rw [cells6_len]; exact infoI) hk
theorem FunAt.form {w : World} {v : Value} {f : List I} (h : FunAt w v f) : ∃ ao cap, v = .slice ao f.length cap := by
  rcases h with ⟨rfl, ao, cap, rfl⟩ | ⟨b, off, cap, rfl, _⟩
  · exact ⟨ao, cap, rfl⟩
  · exact ⟨_, cap, rfl⟩
end Go.Proofs.YtphopkjgfkaihaaGreatDoor
namespace Go.Proofs.YtphopkjgfkaihaaGreatDoor
open Go.RowKit

theorem sizeI6 : ∀ w, (sizeOf 79).run Tryz.prog w = .ok 6 w := Tryz.sizeOf79
theorem FunAt.ix {w : World} {ao : Option Addr} {n cap : Nat} {f : List I} (h : FunAt w (.slice ao n cap) f) {i : Nat} (hi : i < n) :
    ∃ (b o : Nat) (x : I), f[i]? = some x ∧ (∀ w', (Instr.indexAt 22 (.slice ao n cap) (.int .i64 (i : Int))).run Tryz.prog w' = .ok (.pointer (some ⟨b, o, none⟩)) w') ∧ ∀ w', New w w' → w'.rangeAt b o (cells6 x) := by
  rcases h with ⟨_, ao', cap', e⟩ | ⟨b, off, cap', e, hf⟩
  · simp only [Value.slice.injEq] at e
    omega
  · simp only [Value.slice.injEq] at e
    obtain ⟨rfl, rfl, rfl⟩ := e
    refine ⟨b, off + i * 6, f[i], List.getElem?_eq_getElem hi, fun w' => ?_, fun w' hn => (hf.new hn) i hi⟩
    have h1 : (0 : Int) ≤ (i : Int) ∧ (i : Int) < (f.length : Int) := by omega
    simp [Instr.indexAt, run_underlying Tryz.underlying22, asIntOf, Addr.add_mid]
    intro; omega
theorem FunAt.len {w : World} {ao : Option Addr} {n cap : Nat} {f : List I} (h : FunAt w (.slice ao n cap) f) : n = f.length := by
  rcases h with ⟨rfl, ao', cap', e⟩ | ⟨b, off, cap', e, hf⟩ <;> simp only [Value.slice.injEq] at e
  · exact e.2.1
  · exact e.2.1
end Go.Proofs.YtphopkjgfkaihaaGreatDoor
namespace Go.Proofs.YtphopkjgfkaihaaGreatDoor
open Go.RowKit

theorem last_at {f : List I} (h : f.length ≠ 0) : lastI f = f[f.length - 1]'(by omega) := by
  unfold lastI
  rw [List.getD_eq_getElem?_getD, List.getElem?_eq_getElem (by omega)]
  rfl
end Go.Proofs.YtphopkjgfkaihaaGreatDoor
namespace Go.Proofs.YtphopkjgfkaihaaGreatDoor
open Go.RowKit

theorem ends_any (x : I) (w : World) :
    Calls Tryz.prog 95 #[.agg #[.int .i64 (x).op, .int .i64 (x).d, .int .i64 (x).a, .int .i64 (x).b, .int .i64 (x).n, .int .i64 (x).t]] w fun e w' => e = .returned (.bool (endB x)) ∧ New w w' := by
  go_enter Tryz.func95, Tryz.ntmps95
  go_wp2
  all_goals
    go_ret
    exact ⟨by first | (simp_all [endB]; done) | (by_cases h : x.op = 16 <;> by_cases h' : x.op = 18 <;> simp_all [endB]), (New.refl _).alloc _⟩
def cF1 (f : List I) : Int := ((chkF f).1 : Nat)
theorem check_none (ao : Option Addr) (cap : Nat) (w : World) :
    Calls Tryz.prog 59 #[.slice ao 0 cap] w fun e w' => e = .returned (.tuple #[.int .i64 0, .int .i64 5]) ∧ New w w' := by
  go_enter Tryz.func59, Tryz.ntmps59
  go_wp2
  all_goals
    go_ret2
    exact ⟨rfl, New.refl _⟩
theorem check_full (a : Addr) (n cap : Nat) (h : 200 < n) (w : World) :
    Calls Tryz.prog 59 #[.slice (some a) n cap] w fun e w' => e = .returned (.tuple #[.int .i64 0, .int .i64 3]) ∧ New w w' := by
  go_enter Tryz.func59, Tryz.ntmps59
  go_wp2
  all_goals
    go_ret2
    exact ⟨rfl, New.refl _⟩
theorem check_I (x : I) (m : Int) (w : World) (hl : Laid w) : Calls Tryz.prog 94 #[.agg #[.int .i64 (x).op, .int .i64 (x).d, .int .i64 (x).a, .int .i64 (x).b, .int .i64 (x).n, .int .i64 (x).t], .int .i64 m] w fun e w' => e = .returned (.int .i64 (chkV x m)) ∧ New w w' := check_any x.op x.d x.a x.b x.n x.t m w hl
set_option maxHeartbeats 2000000 in
set_option maxRecDepth 100000 in
theorem check_some (b off cap n : Nat) (f : List I) (hn : f.length = n) (h0 : 0 < n) (h2 : n ≤ 200) (w : World) (hl : Laid w) (hf : Fun w b off f) :
    Calls Tryz.prog 59 #[.slice (some ⟨b, off, none⟩) n cap] w fun e w' => e = .returned (.tuple #[.int .i64 (chkF f).1, .int .i64 (chkF f).2]) ∧ New w w' := by
  have HL := Lib.hid hl
  have HF := Lib.hid hf
  have HN := Lib.hid hn
  clear hl hf hn
  have q0 : ((n : Int) == 0) = false := by simp; omega
  have q1 : decide ((200 : Int) < (n : Int)) = false := by simp; omega
  go_enter Tryz.func59, Tryz.ntmps59
  go_wp2
  go_loopw [16] (fun i wr => ∃ k : Nat, i = .int .i64 k ∧ k ≤ n ∧ New w wr ∧ Hid (badF n (f.drop k) k = badF n f 0)) (fun i _ => n - (intOf i).toNat)
  case atStart => exact ⟨0, rfl, Nat.zero_le _, New.refl _, Lib.hid rfl⟩
  case round =>
    obtain ⟨k, rfl, hk, hnw, HB⟩ := hrel
    by_cases hkn : k < n
    · obtain ⟨x, HX⟩ : ∃ x : I, Hid (f[k]'(by rw [HN.out]; exact hkn) = x) := ⟨_, Lib.hid rfl⟩
      have hr : Hid (wr.rangeAt b (off + k * 6) (cells6 x)) := Lib.hid (by have := (HF.out.new hnw) k (by rw [HN.out]; exact hkn); rw [HX.out] at this; exact this)
      have HZ := Lib.hid (Has.zero wr)
      by_cases hc : chkV x n = 0
      · have q : (chkV x n != 0) = false := by simp [hc]
        have HC := Lib.hid hc
        clear hc
        go_wp2_with (first
          | (refine wpList_ldE rfl (.tmp 19) rfl b (off + k * 6) rfl hr.out ?_)
          | (refine wpList_stI rfl rfl (.tmp 6) (.tmp 20) rfl _ rfl x rfl HZ.out ?_)
          | (refine wpList_ldI rfl (.tmp 6) rfl _ rfl (HZ.out.stored x) ?_)
          | (go_at_call 94; refine (check_I x n _ ((HL.out.new hnw).new (((New.refl _).alloc _).put (Nat.le_refl _) _))).mono ?_; rintro e w1 ⟨rfl, hn1⟩))
        go_roundw
        case rel => exact ⟨k + 1, by go_num, by omega, (hnw.trans (((New.refl _).alloc _).put (Nat.le_refl _) _)).trans hn1, Lib.hid ((bad_drop (by rw [HN.out]; exact hkn) (by rw [HX.out]; exact HC.out)).symm.trans HB.out)⟩
        case measure => simp [intOf]; omega
      · have q : (chkV x n != 0) = true := by simp [hc]
        have hb : Hid (chkF f = (k, chkV x n)) := Lib.hid (by
          refine chkF_bad (by rw [HN.out]; omega) ?_
          rw [HN.out, ← HB.out, bad_here (by rw [HN.out]; exact hkn) (by rw [HX.out]; exact hc), HX.out])
        clear hc
        go_wp2_with (first
          | (refine wpList_ldE rfl (.tmp 19) rfl b (off + k * 6) rfl hr.out ?_)
          | (refine wpList_stI rfl rfl (.tmp 6) (.tmp 20) rfl _ rfl x rfl HZ.out ?_)
          | (refine wpList_ldI rfl (.tmp 6) rfl _ rfl (HZ.out.stored x) ?_)
          | (go_at_call 94; refine (check_I x n _ ((HL.out.new hnw).new (((New.refl _).alloc _).put (Nat.le_refl _) _))).mono ?_; rintro e w1 ⟨rfl, hn1⟩))
        have hb := hb.out
        rw [hb]
        go_ret2
        exact ⟨rfl, (hnw.trans (((New.refl _).alloc _).put (Nat.le_refl _) _)).trans hn1⟩
    · obtain rfl : k = n := by omega
      have hbn : badF (f.length : Nat) f 0 = none := by rw [HN.out, ← HB.out, List.drop_of_length_le (by rw [HN.out]; omega), badF]
      have hlast := chkF_last (by rw [HN.out]; omega) (by rw [HN.out]; omega) hbn
      rw [HN.out] at hlast
      have hrg := (HF.out.new hnw) (f.length - 1) (by rw [HN.out]; omega)
      rw [← last_at (by rw [HN.out]; omega), HN.out] at hrg
      generalize lastI f = x at hrg hlast
      obtain ⟨m, rfl⟩ : ∃ m, k = m + 1 := ⟨k - 1, by omega⟩
      rw [Nat.add_sub_cancel] at hrg hlast
      have hr := Lib.hid hrg
      have HC := Lib.hid hlast
      clear hrg hlast hbn hkn HB hk
      rw [Int.natCast_add] at q0 q1
      cases he : endB x with
      | true =>
        go_wp2_with (first
          | (refine wpList_ldE rfl (.tmp 32) rfl b (off + m * 6) rfl hr.out ?_)
          | (go_at_call 95; refine (ends_any x _).mono ?_; rw [he]; rintro e w1 ⟨rfl, hn1⟩))
        have hc := HC.out
        rw [if_pos he] at hc
        rw [hc]
        go_ret2
        exact ⟨rfl, hnw.trans hn1⟩
      | false =>
        go_wp2_with (first
          | (refine wpList_ldE rfl (.tmp 32) rfl b (off + m * 6) rfl hr.out ?_)
          | (go_at_call 95; refine (ends_any x _).mono ?_; rw [he]; rintro e w1 ⟨rfl, hn1⟩))
        have hc := HC.out
        rw [if_neg (by rw [he]; decide)] at hc
        rw [hc]
        go_ret2
        exact ⟨rfl, hnw.trans hn1⟩
theorem asmCheck_any (v : Value) (f : List I) (w : World) (hl : Laid w) (hf : FunAt w v f) :
    Calls Tryz.prog 59 #[v] w fun e w' => e = .returned (.tuple #[.int .i64 (chkF f).1, .int .i64 (chkF f).2]) ∧ New w w' := by
  rcases hf with ⟨rfl, ao, cap, rfl⟩ | ⟨b, off, cap, rfl, hf⟩
  · exact check_none ao cap w
  · by_cases h0 : f.length = 0
    · rw [chkF_none h0, h0]; exact check_none _ cap w
    · by_cases h2 : 200 < f.length
      · rw [chkF_full h2]; exact check_full _ _ cap h2 w
      · exact check_some b off cap f.length f rfl (by omega) (by omega) w hl hf
theorem asmCheck_from {w0 : World} (v : Value) (f : List I) (w : World) (hl : Hid (Laid w0)) (h : New w0 w) (hf : FunAt w v f) :
    Calls Tryz.prog 59 #[v] w fun e w' => e = .returned (.tuple #[.int .i64 (chkF f).1, .int .i64 (chkF f).2]) ∧ New w0 w' :=
  (asmCheck_any v f w (hl.out.new h) hf).mono fun _ _ ⟨he, hw⟩ => ⟨he, h.trans hw⟩
theorem asmRight_any (v : Value) (f : List I) (w : World) (hl : Laid w) (hf : FunAt w v f) :
    Calls Tryz.prog 31 #[v] w fun e w' => e = .returned (.bool ((chkF f).2 == 0)) ∧ New w w' := by
  have HL := Lib.hid hl
  have HF := Lib.hid hf
  clear hl hf
  go_enter Tryz.func31, Tryz.ntmps31
  go_wp2_with (go_at_call 59; refine (asmCheck_any v f _ HL.out HF.out).mono ?_; rintro e w1 ⟨rfl, hn1⟩)
  go_ret
  exact ⟨rfl, hn1⟩
theorem asmRight_from {w0 : World} (v : Value) (f : List I) (w : World) (hl : Hid (Laid w0)) (h : New w0 w) (hf : FunAt w v f) :
    Calls Tryz.prog 31 #[v] w fun e w' => e = .returned (.bool ((chkF f).2 == 0)) ∧ New w0 w' :=
  (asmRight_any v f w (hl.out.new h) hf).mono fun _ _ ⟨he, hw⟩ => ⟨he, h.trans hw⟩
end Go.Proofs.YtphopkjgfkaihaaGreatDoor
namespace Go.Proofs.YtphopkjgfkaihaaGreatDoor
open Go.RowKit

/-! A variable in a block of one cell. -/
theorem wpList_ld1 {ops : Array Oper} {rest : List Oper} {op : Oper} {act : Act} {w : World} {Q : Exit → Act → World → Prop} (hgd : op.guard = none) (t : TypeId) (hagg : ∀ w, (isAgg t).run Tryz.prog w = .ok false w) (p : Operand) (ho : op.op = .load t p)
    (g : Nat) (hx : act.eval p = .pointer (some ⟨g, 0, none⟩)) {v : Value} {t' : TypeId} (h : w.heap[g]? = some (.cells #[v] t' (0, 0)))
    (hk : wpList Tryz.prog ops Q rest (act.put op.dst v) w) : wpList Tryz.prog ops Q (op :: rest) act w :=
  wpList_plain hgd fun _ hK => by
    unfold Oper.wp execOp
    have hc := cell_of_one h
    simp only [ho, hx, Instr.loadAt, Instr.sureAddr, loadVar, Sem.run_bind, Sem.run_pure, Result.andThen_ok, hagg w]
    simp [hc]
    exact hK _ _ hk
theorem store_one (w : World) (g : Nat) (ty ty' : TypeId) (v u : Value) (h : w.heap[g]? = some (.cells #[v] ty' (0, 0))) (hu : u.cells = #[u]) (h1 : u.oneCell' = true) (hi : (Tryz.prog.info? ty).map (·.size) = some 1) :
    (Instr.storeAt ty (.pointer (some ⟨g, 0, none⟩)) u).run Tryz.prog w = .ok () (putO w g (.cells #[u] ty' (0, 0))) := by
  have hs := run_storeCells_at (P := Tryz.prog) g 0 ty' [u] 0 #[v] w h (by simp) (by simpa using h1)
  cases hq : Tryz.prog.info? ty with
  | none => simp [hq] at hi
  | some i =>
    have h6 : i.size = 1 := by simpa [hq] using hi
    simp at hs
    rw [← setRow_putO h]
    simp [Instr.storeAt, Instr.sureAddr, storeVar, sizeOf, typeInfo, hq, hu, h6, hs]
theorem wpList_st1 {ops : Array Oper} {rest : List Oper} {op : Oper} {act : Act} {w : World} {Q : Exit → Act → World → Prop} (hgd : op.guard = none) (hdst : op.dst = none) (t : TypeId) (hi : (Tryz.prog.info? t).map (·.size) = some 1) (p q : Operand) (ho : op.op = .store t p q)
    (g : Nat) (hx : act.eval p = .pointer (some ⟨g, 0, none⟩)) {u : Value} (hy : act.eval q = u) {v : Value} {t' : TypeId} (h : w.heap[g]? = some (.cells #[v] t' (0, 0))) (hu : u.cells = #[u]) (h1 : u.oneCell' = true)
    (hk : wpList Tryz.prog ops Q rest act (putO w g (.cells #[u] t' (0, 0)))) : wpList Tryz.prog ops Q (op :: rest) act w :=
  wpList_plain hgd fun _ hK => by
    unfold Oper.wp execOp
    simp only [ho, hx, hy, store_one w g t t' v u h hu h1 hi, Sem.run_bind, Sem.run_pure, Result.andThen_ok]
    refine hK _ _ ?_
    rw [hdst]
    exact hk
theorem own_slice {w : World} {base e size n : Nat} {v : Value} {xs : List Value} (h : w.ownsRow base e size v n xs) : v.cells = #[v] ∧ v.oneCell' = true := by
  rcases h.2 with ⟨rfl, _⟩ | ⟨g, cap, cur, rfl, _⟩ <;> exact ⟨rfl, rfl⟩
theorem owns_new {w w' : World} {base e size n : Nat} {v : Value} {xs : List Value} (h : w.ownsRow base e size v n xs) (hn : New w w') : w'.ownsRow base e size v n xs :=
  ⟨h.1, h.2.elim .inl fun ⟨g, cap, cur, h1, h2, h3, h4⟩ => .inr ⟨g, cap, cur, h1, h2, hn.heap h3, h4⟩⟩
/-- Iterators over texts stand. -/
def Its (w w' : World) : Prop := ∀ (k : Nat) (s : ByteArray) (p : Nat), w.heap[k]? = some (Obj.stringIter s p) → w'.heap[k]? = some (Obj.stringIter s p)
theorem Its.trans {a b c : World} (h : Its a b) (k : Its b c) : Its a c := fun i s p hi => k i s p (h i s p hi)
theorem New.its {w w' : World} (h : New w w') : Its w w' := fun _ _ _ hk => h.heap hk
/-- Two rows of unlike elements are two rows. -/
theorem rows_apart {w : World} {base e e' size size' n m : Nat} {v u : Value} {xs ys : List Value} (he : e ≠ e') (h : w.ownsRow base e size v n xs) (k : w.ownsRow base e' size' u m ys) : u.ownBlock = none ∨ u.ownBlock ≠ v.ownBlock := by
  rcases k.2 with ⟨rfl, _⟩ | ⟨g, cap, cur, rfl, _, k3, _⟩
  · left; rfl
  · right
    rcases h.2 with ⟨rfl, _⟩ | ⟨g', cap', cur', rfl, _, h3, _⟩
    · simp [Value.ownBlock]
    · simp only [Value.ownBlock, ne_eq, Option.some.injEq]
      rintro rfl
      rw [h3] at k3
      simp only [Option.some.injEq, Obj.cells.injEq] at k3
      exact he k3.2.1
theorem its_grown {w w' : World} {base e size n : Nat} {v : Value} {xs : List Value} (h : w.ownsRow base e size v n xs) (hg : w.grownBy w' v.ownBlock) : Its w w' := by
  intro k s p hk
  rw [hg.block k (heap_lt hk) ?_]
  · exact hk
  · rcases h.2 with ⟨rfl, _⟩ | ⟨g, cap, cur, rfl, _, h3, _⟩
    · simp [Value.ownBlock]
    · simp only [Value.ownBlock, ne_eq, Option.some.injEq]
      rintro rfl
      rw [h3] at hk
      simp at hk
theorem its_put {w : World} {g : Nat} {cs : Array Value} {t : TypeId} {fr : Nat × Nat} (h : w.heap[g]? = some (.cells cs t fr)) (o : Obj) : Its w (putO w g o) := by
  intro k s p hk
  rw [putO_other (by rintro rfl; rw [h] at hk; simp at hk)]
  exact hk
/-- One of two variables that hold slices of the call's own is appended to. -/
theorem own_step {w0 wa w3 : World} {B g g' t t' e e' size size' n m n' : Nat} {v v' u : Value} {xs ys xs' : List Value} {o : Obj}
    (hg : g < B) (hg' : g' < B) (hgg : g ≠ g') (hw0 : w0.heap.size ≤ g) (he : e ≠ e')
    (h1 : wa.heap[g]? = some (.cells #[v] t (0, 0))) (h2 : wa.heap[g']? = some (.cells #[u] t' (0, 0))) (o1 : wa.ownsRow B e size v n xs) (o2 : wa.ownsRow B e' size' u m ys) (hn : New w0 wa)
    (hgr : (wa.alloc o).grownBy w3 v.ownBlock) (o1' : w3.ownsRow B e size v' n' xs') :
    w3.heap[g]? = some (.cells #[v] t (0, 0)) ∧ (putO w3 g (.cells #[v'] t (0, 0))).heap[g]? = some (.cells #[v'] t (0, 0)) ∧ (putO w3 g (.cells #[v'] t (0, 0))).heap[g']? = some (.cells #[u] t' (0, 0)) ∧
      (putO w3 g (.cells #[v'] t (0, 0))).ownsRow B e size v' n' xs' ∧ (putO w3 g (.cells #[v'] t (0, 0))).ownsRow B e' size' u m ys ∧ New w0 (putO w3 g (.cells #[v'] t (0, 0))) ∧ Its wa (putO w3 g (.cells #[v'] t (0, 0))) := by
  have hr := owns_row o1
  have a1 : w3.heap[g]? = some (.cells #[v] t (0, 0)) := grown_heap hgr ((alloc_new _ _).heap h1) (fun k hk => by have := hr k hk; omega)
  have a2 : w3.heap[g']? = some (.cells #[u] t' (0, 0)) := grown_heap hgr ((alloc_new _ _).heap h2) (fun k hk => by have := hr k hk; omega)
  have a3 : w3.ownsRow B e' size' u m ys := (o2.alloc o).kept hgr (rows_apart he o1 o2)
  have a4 : New w0 w3 := Below.grown (hn.alloc _) hgr (hn.alloc o).size (fun k hk => by have := hr k hk; omega)
  refine ⟨a1, putO_same a1, ?_, owns_put o1' hg _, owns_put a3 hg _, a4.put hw0 _, ?_⟩
  · rw [putO_other (Ne.symm hgg)]; exact a2
  · exact ((alloc_new wa o).its.trans (its_grown (o1.alloc o) hgr)).trans (its_put a1 _)

def natV (b : Nat) : Value := .int .i64 (b : Int)
/-- The two variables that the closure captures, and what they hold. -/
def StA (w : World) (B : Nat) (vf vb : Value) (f : List I) (bs : List Nat) : Prop :=
  w.heap[B]? = some (.cells #[vf] 22 (0, 0)) ∧ w.heap[B + 1]? = some (.cells #[vb] 101 (0, 0)) ∧ w.ownsRow (B + 2) 79 6 vf f.length (flat6 f) ∧ w.ownsRow (B + 2) 3 1 vb bs.length (bs.map natV)
theorem StA.new {w w' : World} {B : Nat} {vf vb : Value} {f : List I} {bs : List Nat} (h : StA w B vf vb f bs) (hn : New w w') : StA w' B vf vb f bs := ⟨hn.heap h.1, hn.heap h.2.1, owns_new h.2.2.1 hn, owns_new h.2.2.2 hn⟩
def St (w : World) (B : Nat) (f : List I) (bs : List Nat) : Prop := ∃ vf vb, StA w B vf vb f bs
theorem infoI6 : (Tryz.prog.info? 79).map (fun i => (i.zero, i.size, i.bytes)) = some (some (.agg #[.int .i64 0, .int .i64 0, .int .i64 0, .int .i64 0, .int .i64 0, .int .i64 0]), 6, 48) := by kernel_rfl
theorem info22 : (Tryz.prog.info? 22).map (·.size) = some 1 := by kernel_rfl
theorem info58 : (Tryz.prog.info? 101).map (·.size) = some 1 := by kernel_rfl
theorem six_new (w : World) (x : I) (t : TypeId) : ∀ (j : Nat) (u : Value), (cells6 x)[j]? = some u → (w.alloc (.cells #[.int .i64 x.op, .int .i64 x.d, .int .i64 x.a, .int .i64 x.b, .int .i64 x.n, .int .i64 x.t] t)).cell? ((⟨w.heap.size, 0, none⟩ : Addr).add j) = some u := by
  intro j u hj
  rw [Addr.add_mid]
  rw [cell_of_row _ _ _ _ _ _ (heap_alloc_new w (.cells #[.int .i64 x.op, .int .i64 x.d, .int .i64 x.a, .int .i64 x.b, .int .i64 x.n, .int .i64 x.t] t))]
  rw [Nat.zero_add, ← hj]
  simp [cells6]
theorem six_one (x : I) : ∀ u ∈ cells6 x, u.oneCell' = true := by
  intro u hu
  simp only [cells6, List.mem_cons, List.not_mem_nil, or_false] at hu
  rcases hu with rfl | rfl | rfl | rfl | rfl | rfl <;> rfl
theorem box_new (w : World) (x : I) : New w (putO (w.alloc (.cells #[.int .i64 0, .int .i64 0, .int .i64 0, .int .i64 0, .int .i64 0, .int .i64 0] 79)) w.heap.size (.cells #[.int .i64 x.op, .int .i64 x.d, .int .i64 x.a, .int .i64 x.b, .int .i64 x.n, .int .i64 x.t] 79 (0, 0))) := ((New.refl _).alloc _).put (Nat.le_refl _) _
set_option maxHeartbeats 2000000 in
set_option maxRecDepth 100000 in
theorem take_bad {w0 : World} (B b : Nat) (s : ByteArray) (hs : s.size ≤ 281474976710656) (f : List I) (bs : List Nat) (hp : prs s.data.toList = none) (w : World) (hl : Hid (Laid w0)) (hn : New w0 w) (h : St w B f bs) :
    Calls Tryz.prog 57 #[.int .i64 b, .string s, .pointer (some ⟨B, 0, none⟩), .pointer (some ⟨B + 1, 0, none⟩)] w fun e w' => e = .returned (.bool false) ∧ St w' B f bs ∧ New w0 w' ∧ Its w w' := by
  have HS := Lib.hid hs
  have HH := Lib.hid h
  have HX := Lib.hid (prsX_none hp)
  have HE := Lib.hid (prsE_none hp)
  clear hs h hp
  go_enter Tryz.func57, Tryz.ntmps57
  go_wp2_with (first
    | (go_at_call 58; refine (insParse_any s HS.out _ (hl.out.new hn)).mono ?_; rw [HX.out, HE.out]; rintro e w1 ⟨rfl, hn1⟩)
    | (refine wpList_stI rfl rfl (.tmp 7) (.tmp 12) rfl _ rfl ⟨0, 0, 0, 0, 0, 0⟩ rfl (Has.zero _) ?_))
  have hb := hn1.trans (box_new w1 ⟨0, 0, 0, 0, 0, 0⟩)
  obtain ⟨vf, vb, hst⟩ := HH.out
  go_ret
  exact ⟨rfl, ⟨vf, vb, hst.new hb⟩, hn.trans hb, hb.its⟩
set_option maxHeartbeats 2000000 in
set_option maxRecDepth 100000 in
theorem take_good {w0 : World} (B b : Nat) (s : ByteArray) (hs : s.size ≤ 281474976710656) (f : List I) (bs : List Nat) (x : I) (hp : prs s.data.toList = some x) (hfl : f.length ≤ 100000) (hbl : bs.length ≤ 100000) (hB : w0.heap.size ≤ B) (w : World) (hl : Hid (Laid w0)) (hn : New w0 w) (h : St w B f bs) :
    Calls Tryz.prog 57 #[.int .i64 b, .string s, .pointer (some ⟨B, 0, none⟩), .pointer (some ⟨B + 1, 0, none⟩)] w fun e w' => e = .returned (.bool true) ∧ St w' B (f ++ [x]) (bs ++ [b]) ∧ New w0 w' ∧ Its w w' := by
  obtain ⟨vf, vb, hst⟩ := h
  have HS := Lib.hid hs
  have HH := Lib.hid hst
  have HX := Lib.hid (prsX_some hp)
  have HE := Lib.hid (prsE_some hp)
  obtain ⟨i0, hi, hz0, hz1, hz2⟩ := info_parts infoI6
  obtain ⟨j0, hj, hy0, hy1, hy2⟩ := info_parts infoInt
  have HI := Lib.hid hi; have HZ0 := Lib.hid hz0; have HZ1 := Lib.hid hz1; have HZ2 := Lib.hid hz2
  have HJ := Lib.hid hj; have HY0 := Lib.hid hy0; have HY1 := Lib.hid hy1; have HY2 := Lib.hid hy2
  have HBB := Lib.hid hB
  clear hs hst hp hi hz0 hz1 hz2 hj hy0 hy1 hy2 hB
  go_enter Tryz.func57, Tryz.ntmps57
  go_wp2_with (first
    | (go_at_call 58; refine (insParse_any s HS.out _ (hl.out.new hn)).mono ?_; rw [HX.out, HE.out]; rintro e w1 ⟨rfl, hn1⟩)
    | (refine wpList_stI rfl rfl (.tmp 7) (.tmp 12) rfl _ rfl x rfl (Has.zero _) ?_; have HN2 := Lib.hid (hn1.trans (box_new w1 x)))
    | (refine wpList_ld1 rfl 22 Tryz.isAgg22 (.tmp 2) rfl B rfl (HH.out.new HN2.out).1 ?_)
    | (refine wpList_ldI rfl (.tmp 7) rfl _ rfl ((Has.zero w1).stored x) ?_)
    | (at_builtin; refine wpList_append_own _ rfl (.tmp 16) (.tmp 18) 22 rfl (B + 2) 79 i0 _ 6 48 Tryz.underlying22 HI.out HZ0.out HZ1.out HZ2.out rfl (by decide) _ _ _ rfl ((HH.out.new HN2.out).2.2.1.alloc _) ⟨_, 0, none⟩ 1 1 (cells6 x) rfl rfl (six_new _ _ _) (six_one x) (by unfold maxLen; omega) (by omega) (by have := heap_lt (HH.out.new HN2.out).2.1; rw [alloc_size]; omega) ?_; intro v3 w3 hown3 hgrow3 hnil3; have S3 := Lib.hid (own_step (g := B) (g' := B + 1) (by omega) (by omega) (by omega) HBB.out (by decide) (HH.out.new HN2.out).1 (HH.out.new HN2.out).2.1 (HH.out.new HN2.out).2.2.1 (HH.out.new HN2.out).2.2.2 (hn.trans HN2.out) hgrow3 hown3); have C3 := own_slice hown3; clear hown3 hgrow3 hnil3)
    | (refine wpList_st1 rfl rfl 22 info22 (.tmp 2) (.tmp 19) rfl B rfl rfl S3.out.1 C3.1 C3.2 ?_)
    | (refine wpList_ld1 rfl 101 Tryz.isAgg101 (.tmp 3) rfl (B + 1) rfl S3.out.2.2.1 ?_)
    | (at_builtin; refine wpList_append_own _ rfl (.tmp 20) (.tmp 22) 101 rfl (B + 2) 3 j0 _ 1 8 Tryz.underlying101 HJ.out HY0.out HY1.out HY2.out rfl (by decide) _ _ _ rfl (S3.out.2.2.2.2.1.alloc _) ⟨_, 0, none⟩ 1 1 [natV b] rfl rfl (one_new _ _ _) (by intro u hu; simp at hu; subst hu; rfl) (by unfold maxLen; omega) (by omega) (by have := heap_lt S3.out.2.2.1; rw [alloc_size]; omega) ?_; intro v4 w4 hown4 hgrow4 hnil4; have S4 := Lib.hid (own_step (g := B + 1) (g' := B) (by omega) (by omega) (by omega) (by have := HBB.out; omega) (by decide) S3.out.2.2.1 S3.out.2.1 S3.out.2.2.2.2.1 S3.out.2.2.2.1 S3.out.2.2.2.2.2.1 hgrow4 hown4); have C4 := own_slice hown4; clear hown4 hgrow4 hnil4)
    | (refine wpList_st1 rfl rfl 101 info58 (.tmp 3) (.tmp 23) rfl (B + 1) rfl rfl S4.out.1 C4.1 C4.2 ?_))
  obtain ⟨_, t1, t2, t3, t4, t5, t6⟩ := S4.out
  go_ret
  refine ⟨rfl, ⟨v3, v4, t2, t1, ?_, ?_⟩, t5, (HN2.out.its.trans S3.out.2.2.2.2.2.2).trans t6⟩
  · rw [flat6_app, flat6_one, List.length_append]; exact t4
  · rw [List.map_append, List.length_append]; exact t3
end Go.Proofs.YtphopkjgfkaihaaGreatDoor
namespace Go.Proofs.YtphopkjgfkaihaaGreatDoor
open Go.RowKit

theorem cut_extract (s : ByteArray) (b p : Nat) : (s.extract b p).data.toList = cutB s.data.toList b p := by
  rw [Lib.extract_eq]; simp [cutB]
theorem cut_size (s : ByteArray) (b p : Nat) : (s.extract b p).size ≤ s.size := by
  rw [ByteArray.size_extract]; omega
theorem St.new {w w' : World} {B : Nat} {f : List I} {bs : List Nat} (h : St w B f bs) (hn : New w w') : St w' B f bs := by
  obtain ⟨vf, vb, h⟩ := h
  exact ⟨vf, vb, h.new hn⟩
theorem St.put {w : World} {B G : Nat} {f : List I} {bs : List Nat} {s : ByteArray} {p : Nat} (h : St w B f bs) (hG : w.heap[G]? = some (Obj.stringIter s p)) (p' : Nat) : St (putO w G (Obj.stringIter s p')) B f bs := by
  obtain ⟨vf, vb, h1, h2, h3, h4⟩ := h
  have ne : ∀ {k : Nat} {cs : Array Value} {t : TypeId} {fr : Nat × Nat}, w.heap[k]? = some (.cells cs t fr) → k ≠ G := by
    rintro k cs t fr hk rfl
    rw [hG] at hk
    simp at hk
  have own : ∀ {base e size n : Nat} {v : Value} {xs : List Value}, w.ownsRow base e size v n xs → (putO w G (Obj.stringIter s p')).ownsRow base e size v n xs := by
    intro base e size n v xs h
    exact ⟨h.1, h.2.elim .inl fun ⟨g, cap, cur, k1, k2, k3, k4⟩ => .inr ⟨g, cap, cur, k1, k2, by rw [putO_other (ne k3)]; exact k3, k4⟩⟩
  exact ⟨vf, vb, by rw [putO_other (ne h1)]; exact h1, by rw [putO_other (ne h2)]; exact h2, own h3, own h4⟩
set_option maxHeartbeats 2000000 in
set_option maxRecDepth 100000 in
theorem eachLine_any {w0 : World} (s : ByteArray) (hs : s.size ≤ 20000) (B : Nat) (hB : w0.heap.size ≤ B) (w : World) (hl : Hid (Laid w0)) (hn : New w0 w) (h : St w B [] []) :
    Calls Tryz.prog 56 #[.string s, .func (.func 57) #[] #[.pointer (some ⟨B, 0, none⟩), .pointer (some ⟨B + 1, 0, none⟩)]] w fun e w' =>
      e = .returned (.int .i64 (readF s.data.toList).1) ∧ St w' B (readF s.data.toList).2.1 (readF s.data.toList).2.2 ∧ New w0 w' := by
  have HS := Lib.hid hs
  have HH := Lib.hid h
  have HB0 := Lib.hid hB
  have HBW : Hid (B < w.heap.size) := Lib.hid (by obtain ⟨vf, vb, h1, _⟩ := h; exact heap_lt h1)
  have HNW := Lib.hid hn
  clear h hB hn
  go_enter Tryz.func56, Tryz.ntmps56
  go_wp2
  go_loopw [5] (fun bv wr => ∃ (pos b : Nat) (f : List I) (bs : List Nat), bv = .int .i64 b ∧ b ≤ pos ∧ pos ≤ s.size ∧ wr.heap[w.heap.size]? = some (Obj.stringIter s pos) ∧ Hid (St wr B f bs) ∧ Hid (New w0 wr) ∧ Hid (rdF (s.data.toList.drop pos) (cutB s.data.toList b pos) b f bs = readF s.data.toList) ∧ Hid (f.length ≤ b ∧ bs.length ≤ b)) (fun _ wr => s.size - wr.iterPos w.heap.size)
  case atStart =>
    exact ⟨0, 0, [], [], rfl, Nat.le_refl _, Nat.zero_le _, alloc_at rfl _, Lib.hid (HH.out.new (alloc_new _ _)), Lib.hid (HNW.out.alloc _), Lib.hid rfl, Lib.hid ⟨Nat.zero_le _, Nat.zero_le _⟩⟩
  case round =>
    obtain ⟨pos, b, f, bs, rfl, hbp, hps, hit, hst, hnw, HB, HF⟩ := hrel
    by_cases hp : pos < s.size
    · have hnx : ∀ ty, (Instr.next (.pointer (some ⟨w.heap.size, 0, none⟩)) true ty).run Tryz.prog wr = _ := fun ty => next_at hit hp ty
      have hra := rune_at s pos hp
      generalize hdc : Utf8.decode s pos = dc at hnx hra
      obtain ⟨r, sz⟩ := dc
      have HNP := Lib.hid (hnw.out.put (g := w.heap.size) HNW.out.size (Obj.stringIter s (pos + sz)))
      have HTP := Lib.hid (hst.out.put hit (pos + sz))
      have HIP := Lib.hid (putO_same (o := Obj.stringIter s (pos + sz)) hit)
      have HIT := Lib.hid hit
      clear hdc
      simp only [] at hnx hra
      rcases hra with ⟨h10, hsz, hdrop⟩ | ⟨h10, h1, h2, hno⟩
      · subst h10
        subst hsz
        have HD := Lib.hid hdrop
        clear hdrop
        have HE : Hid ((s.extract b pos).data.toList = cutB s.data.toList b pos) := Lib.hid (cut_extract s b pos)
        have HZ : Hid ((s.extract b pos).size ≤ 281474976710656) := Lib.hid (by have := cut_size s b pos; have := HS.out; omega)
        cases hpr : prs (cutB s.data.toList b pos) with
        | none =>
          have HR : Hid ((b, f, bs) = readF s.data.toList) := Lib.hid (by rw [← HB.out, rd_leave HD.out hpr])
          have HP := Lib.hid hpr
          clear hpr
          go_wp2_with (go_at_call 57; refine (take_bad B b (s.extract b pos) HZ.out f bs (by rw [HE.out]; exact HP.out) _ hl HNP.out HTP.out).mono ?_; rintro e w1 ⟨rfl, ht1, ht2, ht3⟩)
          have HR := HR.out
          rw [← HR]
          go_ret
          exact ⟨rfl, ht1, ht2⟩
        | some x =>
          have HR : Hid (rdF (s.data.toList.drop (pos + 1)) (cutB s.data.toList (pos + 1) (pos + 1)) (pos + 1) (f ++ [x]) (bs ++ [b]) = readF s.data.toList) := Lib.hid (by rw [← HB.out, rd_take hbp hp HD.out hpr])
          have HP := Lib.hid hpr
          clear hpr
          go_wp2_with (go_at_call 57; refine (take_good B b (s.extract b pos) HZ.out f bs x (by rw [HE.out]; exact HP.out) (by have := HF.out.1; omega) (by have := HF.out.2; omega) HB0.out _ hl HNP.out HTP.out).mono ?_; rintro e w1 ⟨rfl, ht1, ht2, ht3⟩)
          go_roundw
          case rel => exact ⟨pos + 1, pos + 1, f ++ [x], bs ++ [b], by go_num, Nat.le_refl _, hp, ht3 _ _ _ HIP.out, Lib.hid ht1, Lib.hid ht2, Lib.hid HR.out, Lib.hid (by have := HF.out; simp; omega)⟩
          case measure => rw [iterPos_at (ht3 _ _ _ HIP.out), iterPos_at HIT.out]; omega
      · have q : (((r : Nat) : Int) != 10) = true := by simp; omega
        have HR : Hid (rdF (s.data.toList.drop (pos + sz)) (cutB s.data.toList b (pos + sz)) b f bs = readF s.data.toList) := Lib.hid (by rw [← HB.out, rd_pass hbp hno])
        clear h10 hno
        go_wp2
        go_roundw
        case rel => exact ⟨pos + sz, b, f, bs, rfl, by omega, h2, HIP.out, HTP, HNP, Lib.hid HR.out, HF⟩
        case measure => rw [iterPos_at HIP.out, iterPos_at HIT.out]; omega
    · have hnx : ∀ ty, (Instr.next (.pointer (some ⟨w.heap.size, 0, none⟩)) true ty).run Tryz.prog wr = _ := fun ty => next_stop hit hp ty
      have HR : Hid ((b, f, bs) = readF s.data.toList) := Lib.hid (by rw [← HB.out, rd_end hp])
      go_wp2
      have HR := HR.out
      rw [← HR]
      go_ret
      exact ⟨rfl, hst.out, hnw.out⟩
/-- The two variables, as Parse makes them. -/
theorem st_made (w : World) : St ((w.alloc (.cells #[.slice none 0 0] 22)).alloc (.cells #[.slice none 0 0] 101)) w.heap.size [] [] := by
  refine ⟨.slice none 0 0, .slice none 0 0, ?_, ?_, World.ownsRow_nil _ _ _ _, World.ownsRow_nil _ _ _ _⟩
  · exact (alloc_new _ _).heap (heap_alloc_new _ _)
  · exact alloc_at (by rw [alloc_size]) _
theorem int_at {w : World} {base e n : Nat} {v : Value} {bs : List Nat} (h : w.ownsRow base e 1 v n (bs.map natV)) (k : Nat) (hk : k < bs.length) :
    ∃ g cap, v = .slice (some ⟨g, 0, none⟩) n cap ∧ k < n ∧ w.cell? ⟨g, k, none⟩ = some (.int .i64 (bs.getD k 0 : Nat)) := by
  have hn := h.1
  rw [List.length_map, Nat.mul_one] at hn
  rcases h.2 with ⟨_, h0⟩ | ⟨g, cap, cur, hv, _⟩
  · omega
  · refine ⟨g, cap, hv, by omega, ?_⟩
    have := h.cells (g := g) (by rw [hv]; rfl) k (natV (bs.getD k 0)) (by rw [List.getElem?_map, List.getElem?_eq_getElem hk, List.getD_eq_getElem?_getD, List.getElem?_eq_getElem hk]; rfl)
    rw [Addr.add_mid, Nat.zero_add] at this
    exact this
theorem own_form {w : World} {base e size n : Nat} {v : Value} {xs : List Value} (h : w.ownsRow base e size v n xs) : ∃ ao cap, v = .slice ao n cap := by
  rcases h.2 with ⟨h1, rfl⟩ | ⟨g, cap, cur, h1, _⟩
  · exact ⟨none, 0, h1⟩
  · exact ⟨_, cap, h1⟩
theorem asmParse_full (s : ByteArray) (h : 20000 < s.size) (w : World) :
    Calls Tryz.prog 30 #[.string s] w fun e w' => e = .returned (.tuple #[.slice none 0 0, .int .i64 0, .int .i64 3]) ∧ New w w' := by
  go_enter Tryz.func30, Tryz.ntmps30
  go_wp2
  all_goals refine bodyPost_ret (by simp [results, Tryz.results30]) rfl ⟨rfl, ?_⟩
  all_goals exact New.refl _
set_option maxHeartbeats 2000000 in
set_option maxRecDepth 100000 in
theorem asmParse_form (s : ByteArray) (h : s.size ≤ 20000) (r : Nat) (f : List I) (bs : List Nat) (hr : readF s.data.toList = (r, f, bs)) (hrs : r < s.size) (w : World) (hl : Laid w) :
    Calls Tryz.prog 30 #[.string s] w fun e w' => e = .returned (.tuple #[.slice none 0 0, .int .i64 r, .int .i64 2]) ∧ New w w' := by
  have HL := Lib.hid hl
  have HR := Lib.hid hr
  have HS := Lib.hid h
  clear hl hr
  go_enter Tryz.func30, Tryz.ntmps30
  go_wp2_with (go_at_call 56; refine (eachLine_any (w0 := w) s HS.out w.heap.size (Nat.le_refl _) _ HL (((New.refl _).alloc _).alloc _) (st_made w)).mono ?_; rw [HR.out]; rintro e w1 ⟨rfl, hst, hn1⟩)
  refine bodyPost_ret (by simp [results, Tryz.results30]) rfl ⟨rfl, hn1⟩
set_option maxHeartbeats 2000000 in
set_option maxRecDepth 100000 in
theorem asmParse_good (s : ByteArray) (h : s.size ≤ 20000) (r : Nat) (f : List I) (bs : List Nat) (hr : readF s.data.toList = (r, f, bs)) (hrs : ¬ r < s.size) (hc : (chkF f).2 = 0) (w : World) (hl : Laid w) :
    Calls Tryz.prog 30 #[.string s] w fun e w' => ∃ v, e = .returned (.tuple #[v, .int .i64 0, .int .i64 0]) ∧ FunAt w' v f ∧ New w w' := by
  have HL := Lib.hid hl
  have HR := Lib.hid hr
  have HS := Lib.hid h
  clear hl hr
  go_enter Tryz.func30, Tryz.ntmps30
  go_wp2_with (first
    | (go_at_call 56; refine (eachLine_any (w0 := w) s HS.out w.heap.size (Nat.le_refl _) _ HL (((New.refl _).alloc _).alloc _) (st_made w)).mono ?_; rw [HR.out]; rintro e w1 ⟨rfl, hst, hn1⟩; obtain ⟨vf, vb, hst⟩ := hst; have HST := Lib.hid hst; clear hst)
    | (refine wpList_ld1 rfl 22 Tryz.isAgg22 (.tmp 5) rfl _ rfl HST2.out.1 ?_)
    | (refine wpList_ld1 rfl 22 Tryz.isAgg22 (.tmp 5) rfl _ rfl HST.out.1 ?_)
    | (go_at_call 59; refine (asmCheck_any vf f _ (HL.out.new hn1) (fun_own HST.out.2.2.1)).mono ?_; rintro e w2 ⟨rfl, hn2⟩; have HST2 := Lib.hid (HST.out.new hn2)))
  refine bodyPost_ret (by simp [results, Tryz.results30]) rfl ⟨vf, rfl, fun_own HST2.out.2.2.1, hn1.trans hn2⟩
set_option maxHeartbeats 2000000 in
set_option maxRecDepth 100000 in
theorem asmParse_none (s : ByteArray) (h : s.size ≤ 20000) (r : Nat) (f : List I) (hr : readF s.data.toList = (r, f, [])) (hrs : ¬ r < s.size) (hc : ((chkF f).2 == 0) = false) (w : World) (hl : Laid w) :
    Calls Tryz.prog 30 #[.string s] w fun e w' => e = .returned (.tuple #[.slice none 0 0, .int .i64 0, .int .i64 (chkF f).2]) ∧ New w w' := by
  have HL := Lib.hid hl
  have HR := Lib.hid hr
  have HS := Lib.hid h
  clear hl hr
  go_enter Tryz.func30, Tryz.ntmps30
  go_wp2_with (first
    | (go_at_call 56; refine (eachLine_any (w0 := w) s HS.out w.heap.size (Nat.le_refl _) _ HL (((New.refl _).alloc _).alloc _) (st_made w)).mono ?_; rw [HR.out]; rintro e w1 ⟨rfl, hst, hn1⟩; obtain ⟨vf, vb, hst⟩ := hst; have HST := Lib.hid hst; clear hst)
    | (refine wpList_ld1 rfl 22 Tryz.isAgg22 (.tmp 5) rfl _ rfl HST2.out.1 ?_)
    | (refine wpList_ld1 rfl 22 Tryz.isAgg22 (.tmp 5) rfl _ rfl HST.out.1 ?_)
    | (refine wpList_ld1 rfl 101 Tryz.isAgg101 (.tmp 6) rfl _ rfl HST2.out.2.1 ?_)
    | (go_at_call 59; refine (asmCheck_any vf f _ (HL.out.new hn1) (fun_own HST.out.2.2.1)).mono ?_; rintro e w2 ⟨rfl, hn2⟩; have HST2 := Lib.hid (HST.out.new hn2); obtain ⟨ao, cap, rfl⟩ := own_form HST2.out.2.2.2))
  refine bodyPost_ret (by simp [results, Tryz.results30]) rfl ⟨rfl, hn1.trans hn2⟩
set_option maxHeartbeats 2000000 in
set_option maxRecDepth 100000 in
theorem asmParse_bad (s : ByteArray) (h : s.size ≤ 20000) (r : Nat) (f : List I) (bs : List Nat) (hr : readF s.data.toList = (r, f, bs)) (hrs : ¬ r < s.size) (hc : ((chkF f).2 == 0) = false) (h0 : ((bs.length : Int) == 0) = false) (hlt : (chkF f).1 < bs.length) (w : World) (hl : Laid w) :
    Calls Tryz.prog 30 #[.string s] w fun e w' => e = .returned (.tuple #[.slice none 0 0, .int .i64 (bs.getD (chkF f).1 0 : Nat), .int .i64 (chkF f).2]) ∧ New w w' := by
  have HL := Lib.hid hl
  have HR := Lib.hid hr
  have HS := Lib.hid h
  clear hl hr
  go_enter Tryz.func30, Tryz.ntmps30
  go_wp2_with (first
    | (go_at_call 56; refine (eachLine_any (w0 := w) s HS.out w.heap.size (Nat.le_refl _) _ HL (((New.refl _).alloc _).alloc _) (st_made w)).mono ?_; rw [HR.out]; rintro e w1 ⟨rfl, hst, hn1⟩; obtain ⟨vf, vb, hst⟩ := hst; have HST := Lib.hid hst; clear hst)
    | (refine wpList_ld1 rfl 22 Tryz.isAgg22 (.tmp 5) rfl _ rfl HST2.out.1 ?_)
    | (refine wpList_ld1 rfl 22 Tryz.isAgg22 (.tmp 5) rfl _ rfl HST.out.1 ?_)
    | (refine wpList_ld1 rfl 101 Tryz.isAgg101 (.tmp 6) rfl _ rfl HST2.out.2.1 ?_)
    | (go_at_call 59; refine (asmCheck_any vf f _ (HL.out.new hn1) (fun_own HST.out.2.2.1)).mono ?_; rintro e w2 ⟨rfl, hn2⟩; have HST2 := Lib.hid (HST.out.new hn2); obtain ⟨g, cap, rfl, hkn, hck⟩ := int_at HST2.out.2.2.2 (chkF f).1 hlt; have hcb := cell_of_one HST2.out.2.1))
  go_region
  all_goals (try go_wp2)
  all_goals refine bodyPost_ret (by simp [results, Tryz.results30, List.getElem?_eq_getElem hlt]) rfl ⟨rfl, (hn1.trans hn2).drew⟩
theorem asmParse_any (s : ByteArray) (w : World) (hl : Laid w) :
    Calls Tryz.prog 30 #[.string s] w fun e w' => ∃ v, e = .returned (.tuple #[v, .int .i64 ((prsF s.data.toList).2.1 : Nat), .int .i64 (prsF s.data.toList).2.2]) ∧ FunAt w' v (prsF s.data.toList).1 ∧ New w w' := by
  have hsz := size_list s
  unfold prsF
  by_cases c1 : 20000 < s.data.toList.length
  · rw [if_pos c1]
    refine (asmParse_full s (by omega) w).mono fun e w' ⟨he, hn⟩ => ⟨_, he, FunAt.nil _ _ _, hn⟩
  · rw [if_neg c1]
    generalize hr : readF s.data.toList = R
    obtain ⟨r, f, bs⟩ := R
    by_cases c2 : r < s.data.toList.length
    · rw [if_pos c2]
      exact (asmParse_form s (by omega) r f bs hr (by omega) w hl).mono fun e w' ⟨he, hn⟩ => ⟨_, he, FunAt.nil _ _ _, hn⟩
    · rw [if_neg c2]
      by_cases c3 : (chkF f).2 = 0
      · rw [if_pos c3]
        exact asmParse_good s (by omega) r f bs hr (by omega) c3 w hl
      · rw [if_neg c3]
        by_cases c4 : bs.length = 0
        · rw [if_pos c4]
          obtain rfl := List.length_eq_zero_iff.mp c4
          exact (asmParse_none s (by omega) r f hr (by omega) (by simp [c3]) w hl).mono fun e w' ⟨he, hn⟩ => ⟨_, he, FunAt.nil _ _ _, hn⟩
        · rw [if_neg c4]
          have hb := rd_begins s.data.toList [] 0 [] [] rfl
          have hb : bs.length = f.length := by
            have e : rdF s.data.toList [] 0 [] [] = (r, f, bs) := hr
            rw [e] at hb
            exact hb
          exact (asmParse_bad s (by omega) r f bs hr (by omega) (by simp [c3]) (by simp; intro e; exact c4 (by rw [e]; rfl)) (by rw [hb]; exact chkF_lt (by omega)) w hl).mono fun e w' ⟨he, hn⟩ => ⟨_, he, FunAt.nil _ _ _, hn⟩
theorem asmParse_from {w0 : World} (s : ByteArray) (w : World) (hl : Hid (Laid w0)) (h : New w0 w) :
    Calls Tryz.prog 30 #[.string s] w fun e w' => ∃ v, e = .returned (.tuple #[v, .int .i64 ((prsF s.data.toList).2.1 : Nat), .int .i64 (prsF s.data.toList).2.2]) ∧ FunAt w' v (prsF s.data.toList).1 ∧ New w0 w' ∧ New w w' :=
  (asmParse_any s w (hl.out.new h)).mono fun _ _ ⟨v, he, hf, hw⟩ => ⟨v, he, hf, h.trans hw, hw⟩
end Go.Proofs.YtphopkjgfkaihaaGreatDoor
