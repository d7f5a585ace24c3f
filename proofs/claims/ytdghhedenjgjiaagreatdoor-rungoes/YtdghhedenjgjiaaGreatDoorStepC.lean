/-
  The contract of step.follow: what an instruction makes of a state, for every state, instruction and row of answers.
-/
import Derived.Test.YtdghhedenjgjiaaGreatDoorStepB
import Derived.Test.YtdghhedenjgjiaaGreatDoorNumOpDo
import Derived.Test.YtdghhedenjgjiaaGreatDoorHeapB0
import Derived.Test.YtdghhedenjgjiaaGreatDoorOrder4
namespace Go.Proofs.YtdghhedenjgjiaaGreatDoor
open Go.RowKit

/-- Where follow's variables lie. -/
structure Ds (n g3 g4 g6 g9 g10 g11 : Nat) : Prop where
  n3 : n ≤ g3
  n6 : n ≤ g6
  a4 : g4 ≠ g3
  a6 : g6 ≠ g3
  a9 : g9 ≠ g3
  a10 : g10 ≠ g3
  a11 : g11 ≠ g3
/-- What they hold. -/
structure Fr (w wx : World) (g3 g4 g6 g9 g10 g11 : Nat) (l : Ws) (s : Sl) (p q : Int) (x : I) (dd da db : Wd) : Prop where
  st : HasS wx g3 l s p q
  ins : Has wx g4 x
  res : HasS wx g6 noWs nilS 0 0
  d : HasD wx g9 dd
  a : HasD wx g10 da
  b : HasD wx g11 db
  new : New w wx
section
variable {w wx wy : World} {g3 g4 g6 g9 g10 g11 : Nat} {l l' : Ws} {s s' : Sl} {p q p' q' : Int} {x : I} {dd da db : Wd}
theorem Fr.turn (h : Fr w wx g3 g4 g6 g9 g10 g11 l s p q x dd da db) (D : Ds w.heap.size g3 g4 g6 g9 g10 g11) (H : HasS wy g3 l' s' p' q') (k : Kept g3 wx wy) : Fr w wy g3 g4 g6 g9 g10 g11 l' s' p' q' x dd da db :=
  ⟨H, (k.other _ D.a4).trans h.ins, HasC.kept h.res k D.a6, HasC.kept h.d k D.a9, HasC.kept h.a k D.a10, HasC.kept h.b k D.a11, k.below _ D.n3 h.new⟩
theorem Fr.grow (h : Fr w wx g3 g4 g6 g9 g10 g11 l s p q x dd da db) (n : New wx wy) : Fr w wy g3 g4 g6 g9 g10 g11 l s p q x dd da db :=
  ⟨HasC.new h.st n, h.ins.new n, HasC.new h.res n, HasC.new h.d n, HasC.new h.a n, HasC.new h.b n, h.new.trans n⟩
theorem Has.cell5 {w : World} {g : Nat} {x : I} (h : Has w g x) : w.cell? ⟨g, 5, none⟩ = some (.int .i64 x.t) := cell_of_row w g _ _ _ _ h
theorem Fr.cells (h : Fr w wx g3 g4 g6 g9 g10 g11 l s p q x dd da db) :
    wx.cell? ⟨g4, 0, none⟩ = some (.int .i64 x.op) ∧ wx.cell? ⟨g4, 1, none⟩ = some (.int .i64 x.d) ∧ wx.cell? ⟨g4, 2, none⟩ = some (.int .i64 x.a) ∧ wx.cell? ⟨g4, 4, none⟩ = some (.int .i64 x.n) ∧ wx.cell? ⟨g4, 5, none⟩ = some (.int .i64 x.t) ∧
    wx.cell? ⟨g3, 48, none⟩ = some (.slice s.ao s.n s.c) ∧ wx.cell? ⟨g3, 49, none⟩ = some (.int .i64 p) ∧ wx.cell? ⟨g3, 50, none⟩ = some (.int .i64 q) ∧ wx.cell? ⟨g10, 1, none⟩ = some (.int .i64 da.2) ∧ wx.cell? ⟨g11, 1, none⟩ = some (.int .i64 db.2) :=
  ⟨h.ins.cell.1, h.ins.cell.2.1, h.ins.cell.2.2.1, h.ins.cell4, h.ins.cell5, HasS.hp h.st, HasS.at h.st, HasS.ask h.st, HasD.num h.a, HasD.num h.b⟩
end
theorem run_ixA (g k : Nat) (hk : k < 24) (w : World) : (Instr.indexAt 25 (.pointer (some ⟨g, 0, none⟩)) (.int .i64 (k : Int))).run Tryz.prog w = .ok (.pointer (some ⟨g, k * 2, none⟩)) w := by
  have ea : (⟨g, 0, none⟩ : Addr).add (k * 2) = ⟨g, k * 2, none⟩ := by unfold Addr.add; split <;> simp_all
  simp [Instr.indexAt, run_underlying Tryz.underlying25, asIntOf, Instr.sureAddr, Tryz.sizeOf24, ea]
  intro; omega
section
variable {ops : Array Oper} {S : World → Prop} {op : Oper} {act : Act}
theorem ldC_if (hw : Region.wanted op (yielded ops act.tmps) = true) (t : TypeId) (hagg : ∀ w, (isAgg t).run Tryz.prog w = .ok false w) (p : Operand) (ho : op.op = .load t p) (a : Addr) (hx : act.eval p = .pointer (some a)) {v : Value} (h : ∀ w, S w → w.cell? a = some v) :
    YieldsIf Tryz.prog ops S op v act := .inl ⟨hw, fun w hw' => by
  unfold execOp
  simp only [ho, hx, Instr.loadAt, Instr.sureAddr, loadVar, Sem.run_bind, Sem.run_pure, Result.andThen_ok, hagg w]
  simp [h w hw']⟩
theorem ixA_if (hw : Region.wanted op (yielded ops act.tmps) = true) (p i : Operand) (ho : op.op = .indexAddr 25 p i) (g k : Nat) (hk : k < 24) (hx : act.eval p = .pointer (some ⟨g, 0, none⟩)) (hi : act.eval i = .int .i64 (k : Int)) :
    YieldsIf Tryz.prog ops S op (.pointer (some ⟨g, k * 2, none⟩)) act := .inl ⟨hw, fun w _ => by
  unfold execOp
  simp only [ho, hx, hi, run_ixA g k hk w, Sem.run_bind, Sem.run_pure, Result.andThen_ok]⟩
end
def oD : Obj := .cells (wcells (false, 0)).toArray 24 (0, 0)
theorem run_alD {op : Oper} (ho : op.op = .alloc 24) (a : Act) (w : World) : (execOp a.eval op).run Tryz.prog w = .ok (.value (ptr w.heap.size)) (w.alloc oD) := by
  unfold execOp
  simp only [ho, Instr.alloc, Sem.run_bind, zeroD_run w, Result.andThen_ok, newVar, newRow, Value.cells, run_newObj_alloc, Sem.run_pure]
  rfl
theorem hasD_at {w : World} {g k : Nat} (h : w.heap.size = g) (hk : g = k) : HasD (w.alloc oD) k (false, 0) := by
  subst hk h
  exact heap_alloc_new _ _
/-- Three new words. -/
theorem three_D {w : World} {x y z : Nat} (h : Three w.heap.size x y z) : HasD (((w.alloc oD).alloc oD).alloc oD) x (false, 0) ∧ HasD (((w.alloc oD).alloc oD).alloc oD) y (false, 0) ∧ HasD (((w.alloc oD).alloc oD).alloc oD) z (false, 0) := by
  have one : ∀ k, w.heap.size ≤ k → k < w.heap.size + 3 → HasD (((w.alloc oD).alloc oD).alloc oD) k (false, 0) := by
    intro k h0 h1
    have z1 : (w.alloc oD).heap.size = w.heap.size + 1 := alloc_size _ _
    have z2 : ((w.alloc oD).alloc oD).heap.size = w.heap.size + 2 := by rw [alloc_size, z1]
    have : k = w.heap.size ∨ k = w.heap.size + 1 ∨ k = w.heap.size + 2 := by omega
    rcases this with e | e | e
    · exact HasC.new (HasC.new (hasD_at rfl e.symm) (alloc_new _ _)) (alloc_new _ _)
    · exact HasC.new (hasD_at z1 e.symm) (alloc_new _ _)
    · exact hasD_at z2 e.symm
  exact ⟨one _ h.a0 h.a1, one _ h.b0 h.b1, one _ h.c0 h.c1⟩
theorem wpLS_stD {ops : Array Oper} {S : World → Prop} {Q : Exit → Act → World → Prop} {op : Oper} {rest : List Oper} {act : Act} {w : World} (hgd : op.guard = none) (hdst : op.dst = none) (a b : Operand) (ho : op.op = .store 24 a b) (g : Nat) (hx : act.eval a = .pointer (some ⟨g, 0, none⟩)) (x : Wd) (hy : act.eval b = .agg #[.bool x.1, .int .i64 x.2])
    {y : Wd} (h : HasD w g y) (hk : ∀ w', HasD w' g x → Kept g w w' → S w' ∧ wpLS Tryz.prog ops Q S rest act w') : wpLS Tryz.prog ops Q S (op :: rest) act w := by
  have hs := h.store 0 (wcells x) 24 (.agg #[.bool x.1, .int .i64 x.2]) rfl (by simp [wcells]) (by simp [wcells, Value.oneCell']) infoWd
  have hc : (wcells y).take 0 ++ wcells x ++ (wcells y).drop (0 + (wcells x).length) = wcells x := by simp [wcells]
  rw [hc] at hs
  have hr : (execOp act.eval op).run Tryz.prog w = .ok .skip (putO w g (.cells (wcells x).toArray 24 (0, 0))) := by
    unfold execOp
    simp only [ho, hx, hy, hs, Sem.run_bind, Sem.run_pure, Result.andThen_ok]
  obtain ⟨h1, h2⟩ := hk _ (putO_same h) (Kept.put _ _ _)
  exact wpLS_skip hgd hr hdst h1 h2
theorem results_ctt {fn : Func} {p u v : Tmp} {ty : TypeId} (h : fn.results = #[.cell p ty, .tmp u, .tmp v]) (tmps : Array Value) (w : World) (g : Nat) (x y z : Value) (hp : tmps.getD p undef = .pointer (some ⟨g, 0, none⟩)) (hl : (loadVar ty ⟨g, 0, none⟩).run Tryz.prog w = .ok x w)
    (hu : tmps.getD u undef = y) (hv : tmps.getD v undef = z) : (results fn tmps).run Tryz.prog w = .ok (.tuple #[x, y, z]) w := by
  have hp' : tmps[p]?.getD undef = .pointer (some ⟨g, 0, none⟩) := by simpa using hp
  have hu' : tmps[u]?.getD undef = y := by simpa using hu
  have hv' : tmps[v]?.getD undef = z := by simpa using hv
  simp [results, h, hp', hu', hv', asAddr, hl]

/-- An event's cells; a slice's value holds events. -/
def evCells (x : Ev) : List Value := [.int .i64 x.1, .int .i64 x.2.1, .int .i64 x.2.2]
def EvAt (w : World) (v : Value) (es : List Ev) : Prop := ∃ ao cap, v = .slice ao es.length cap ∧ (ao = none → cap = 0) ∧ ∀ i (h : i < es.length), ∃ b off, ao = some ⟨b, off, none⟩ ∧ w.rangeAt b (off + i * 3) (evCells es[i])
theorem EvAt.new {w w' : World} {v : Value} {es : List Ev} (h : EvAt w v es) (n : New w w') : EvAt w' v es := by
  obtain ⟨ao, cap, e, ht, hh⟩ := h
  refine ⟨ao, cap, e, ht, fun i hi => ?_⟩
  obtain ⟨b, off, e1, h1⟩ := hh i hi
  exact ⟨b, off, e1, fun j u hu => n.cell (h1 j u hu)⟩
theorem EvAt.far {w w' : World} {v : Value} {es : List Ev} {B g : Nat} (h : EvAt w v es) (f : Fresh B v es) (hg : g < B) (hk : ∀ k, k ≠ g → w'.heap[k]? = w.heap[k]?) : EvAt w' v es := by
  obtain ⟨ao, cap, e, ht, hh⟩ := h
  refine ⟨ao, cap, e, ht, fun i hi => ?_⟩
  obtain ⟨b, off, e1, h1⟩ := hh i hi
  refine ⟨b, off, e1, fun j u hu => ?_⟩
  have hb : b ≠ g := by
    rcases f with rfl | ⟨b', off', n', cap', e', hb'⟩
    · simp at hi
    · rw [e'] at e
      simp only [Value.slice.injEq] at e
      rw [← e.1] at e1
      simp only [Option.some.injEq, Addr.mk.injEq] at e1
      omega
  have := hk b hb
  have h2 := h1 j u hu
  unfold World.cell? at h2 ⊢
  simp only [this]
  exact h2
theorem EvAt.nil (w : World) : EvAt w (.slice none 0 0) [] := ⟨none, 0, rfl, fun _ => rfl, fun _ hi => absurd hi (Nat.not_lt_zero _)⟩
theorem EvAt.one {w : World} {g : Nat} {x : Ev} (h : HasC w g 67 (evCells x)) : EvAt w (.slice (some ⟨g, 0, none⟩) 1 1) [x] :=
  ⟨some ⟨g, 0, none⟩, 1, rfl, nofun, fun i hi => ⟨g, 0, rfl, by
    have : i = 0 := by simpa using hi
    subst this
    exact h.all⟩⟩
/-- What follow answers. -/
def Rs (w w' : World) (s : Sl) (e : Ending) (r : Mc × List Ev × Int) : Prop :=
  ∃ (s' : Sl) (v : Value), e = .returned (.tuple #[.agg (cellsS r.1.l s' r.1.p r.1.q).toArray, v, .int .i64 r.2.2]) ∧ Hp w' (.slice s'.ao s'.n s'.c) r.1.h ∧ EvAt w' v r.2.1 ∧ New w w' ∧ (s' = s ∨ Fresh w.heap.size (.slice s'.ao s'.n s'.c) r.1.h) ∧ Fresh w.heap.size v r.2.1
theorem Rs.of {w w' : World} {r : Mc × List Ev × Int} {l : Ws} {h : List Int} {p q how : Int} {es : List Ev} {s s0 : Sl} {v : Value} (hr : r = (⟨l, h, p, q⟩, es, how)) (h1 : Hp w' (.slice s.ao s.n s.c) h) (h2 : EvAt w' v es) (h3 : New w w') (h4 : s = s0 ∨ Fresh w.heap.size (.slice s.ao s.n s.c) h) (h5 : Fresh w.heap.size v es) :
    Rs w w' s0 (.returned (.tuple #[.agg (cellsS l s p q).toArray, v, .int .i64 how])) r := by
  subst hr
  exact ⟨s, v, rfl, h1, h2, h3, h4, h5⟩
set_option maxHeartbeats 16000000 in
set_option maxRecDepth 100000 in
theorem follow_in (l : Ws) (s : Sl) (p q o n t : Int) (kd ka kb : Nat) (hkd : kd < 24) (hka : ka < 24) (hkb : kb < 24) (hp0 : 0 ≤ p) (hp1 : p < 200) (hq0 : 0 ≤ q) (ho : 1 ≤ o ∧ o ≤ 18) (zs az : List Int) (ao : Option Addr) (an ac : Nat) (w : World)
    (hs : Hp w (.slice s.ao s.n s.c) zs) (ha : Hp w (.slice ao an ac) az) (hal : an ≤ 100000) :
    Calls Tryz.prog 36 #[.agg (cellsS l s p q).toArray, .agg #[.int .i64 o, .int .i64 kd, .int .i64 ka, .int .i64 kb, .int .i64 n, .int .i64 t], .slice ao an ac] w fun e w' => Rs w w' s e (flw ⟨o, kd, ka, kb, n, t⟩ ⟨l, zs, p, q⟩ az) := by
  have HA := Lib.hid ha
  have HAL : Hid (an = az.length) := Lib.hid ha.len
  clear ha
  have hkd' : (kd : Int) < 24 := by omega
  have hka' : (ka : Int) < 24 := by omega
  have HL := Lib.hid hs
  clear hs
  go_enter Tryz.func36, Tryz.ntmps36
  go_wp2_with (first
    | (refine wpList_boxX rfl 28 (.tmp 0) rfl (cellsS l s p q) rfl ?_; intro w1 g3 hg3 hl3 H3 hn1; have HS := Lib.hid H3; clear H3)
    | (refine wpList_boxX rfl 72 (.tmp 1) rfl [.int .i64 o, .int .i64 kd, .int .i64 ka, .int .i64 kb, .int .i64 n, .int .i64 t] rfl ?_; intro w2 g4 hg4 hl4 H4 hn2; have HI : Hid (Has w2 g4 ⟨o, kd, ka, kb, n, t⟩) := Lib.hid H4; clear H4)
    | (refine wpList_alX rfl 28 rfl _ zeroS_run _ rfl ?_; intro w3 g6 hg6 hl6 H6 hn3; have HR : Hid (HasS w3 g6 noWs nilS 0 0) := Lib.hid H6; clear H6))
  have R3 : Hid (∀ w', New w3 w' → HasS w' g3 l s p q) := Lib.hid (fun w' h => HasC.new (HasC.new (HasC.new HS.out hn2) hn3) h)
  have R4 : Hid (∀ w', New w3 w' → Has w' g4 ⟨o, kd, ka, kb, n, t⟩) := Lib.hid (fun w' h => (HI.out.new hn3).new h)
  have N3 := Lib.hid ((hn1.trans hn2).trans hn3)
  refine wp_region_noPanic ?_
  refine wp_region_held_drew (S := fun w' => New w3 w') (by kernel_rfl) ((New.refl w3).drew) (fun _ => ?_)
  refine wpAnyH_take (i := 0) (v := .pointer (some ⟨g4, 1, none⟩)) rfl (by kernel_rfl) (by kernel_rfl) (by kernel_rfl) (fun _ _ _ h => h) (Or.inl ⟨rfl, fun _ _ => by go_simp⟩) ((New.refl w3).drew) ?_
  simp only [List.getElem_toArray, List.getElem_cons_zero, Act.put, List.setIfInBounds_toArray, List.set_cons_zero, List.set_cons_succ]
  refine wpAnyH_take (i := 1) (v := .int .i64 (kd : Int)) rfl (by kernel_rfl) (by kernel_rfl) (by kernel_rfl) (fun _ _ _ h => h) (ldC_if rfl 3 Tryz.isAgg3 (.tmp 15) rfl ⟨g4, 1, none⟩ rfl (fun w' h => (R4.out w' h).cell.2.1)) ((New.refl w3).drew) ?_
  simp only [List.getElem_toArray, List.getElem_cons_zero, List.getElem_cons_succ, Act.put, List.setIfInBounds_toArray, List.set_cons_zero, List.set_cons_succ]
  refine wpAnyH_take (i := 2) (v := .pointer (some ⟨g3, 0, none⟩)) rfl (by kernel_rfl) (by kernel_rfl) (by kernel_rfl) (fun _ _ _ h => h) (Or.inl ⟨rfl, fun _ _ => by go_simp⟩) ((New.refl w3).drew) ?_
  simp only [List.getElem_toArray, List.getElem_cons_zero, List.getElem_cons_succ, Act.put, List.setIfInBounds_toArray, List.set_cons_zero, List.set_cons_succ]
  refine wpAnyH_take (i := 3) (v := .pointer (some ⟨g3, kd * 2, none⟩)) rfl (by kernel_rfl) (by kernel_rfl) (by kernel_rfl) (fun _ _ _ h => h) (ixA_if rfl (.tmp 17) (.tmp 16) rfl g3 kd hkd rfl rfl) ((New.refl w3).drew) ?_
  simp only [List.getElem_toArray, List.getElem_cons_zero, List.getElem_cons_succ, Act.put, List.setIfInBounds_toArray, List.set_cons_zero, List.set_cons_succ]
  refine wpAnyH_take (i := 4) (v := .agg #[.bool (l kd).1, .int .i64 (l kd).2]) rfl (by kernel_rfl) (by kernel_rfl) (by kernel_rfl) (fun _ _ _ h => h) (yieldsIf_load_mid (by rfl) _ _ rfl g3 (kd * 2) rfl (wcells (l kd)) _ (fun w' h => by rw [Nat.mul_comm]; exact HasS.word (R3.out w' h) hkd) Tryz.underlying24 rfl infoWd) ((New.refl w3).drew) ?_
  simp only [List.getElem_toArray, List.getElem_cons_zero, List.getElem_cons_succ, Act.put, List.setIfInBounds_toArray, List.set_cons_zero, List.set_cons_succ]
  refine wpAnyH_take (i := 5) (v := .pointer (some ⟨g4, 2, none⟩)) rfl (by kernel_rfl) (by kernel_rfl) (by kernel_rfl) (fun _ _ _ h => h) (Or.inl ⟨rfl, fun _ _ => by go_simp⟩) ((New.refl w3).drew) ?_
  simp only [List.getElem_toArray, List.getElem_cons_zero, List.getElem_cons_succ, Act.put, List.setIfInBounds_toArray, List.set_cons_zero, List.set_cons_succ]
  refine wpAnyH_take (i := 6) (v := .int .i64 (ka : Int)) rfl (by kernel_rfl) (by kernel_rfl) (by kernel_rfl) (fun _ _ _ h => h) (ldC_if rfl 3 Tryz.isAgg3 (.tmp 20) rfl ⟨g4, 2, none⟩ rfl (fun w' h => (R4.out w' h).cell.2.2.1)) ((New.refl w3).drew) ?_
  simp only [List.getElem_toArray, List.getElem_cons_zero, List.getElem_cons_succ, Act.put, List.setIfInBounds_toArray, List.set_cons_zero, List.set_cons_succ]
  refine wpAnyH_take (i := 7) (v := .pointer (some ⟨g3, 0, none⟩)) rfl (by kernel_rfl) (by kernel_rfl) (by kernel_rfl) (fun _ _ _ h => h) (Or.inl ⟨rfl, fun _ _ => by go_simp⟩) ((New.refl w3).drew) ?_
  simp only [List.getElem_toArray, List.getElem_cons_zero, List.getElem_cons_succ, Act.put, List.setIfInBounds_toArray, List.set_cons_zero, List.set_cons_succ]
  refine wpAnyH_take (i := 8) (v := .pointer (some ⟨g3, ka * 2, none⟩)) rfl (by kernel_rfl) (by kernel_rfl) (by kernel_rfl) (fun _ _ _ h => h) (ixA_if rfl (.tmp 22) (.tmp 21) rfl g3 ka hka rfl rfl) ((New.refl w3).drew) ?_
  simp only [List.getElem_toArray, List.getElem_cons_zero, List.getElem_cons_succ, Act.put, List.setIfInBounds_toArray, List.set_cons_zero, List.set_cons_succ]
  refine wpAnyH_take (i := 9) (v := .agg #[.bool (l ka).1, .int .i64 (l ka).2]) rfl (by kernel_rfl) (by kernel_rfl) (by kernel_rfl) (fun _ _ _ h => h) (yieldsIf_load_mid (by rfl) _ _ rfl g3 (ka * 2) rfl (wcells (l ka)) _ (fun w' h => by rw [Nat.mul_comm]; exact HasS.word (R3.out w' h) hka) Tryz.underlying24 rfl infoWd) ((New.refl w3).drew) ?_
  simp only [List.getElem_toArray, List.getElem_cons_zero, List.getElem_cons_succ, Act.put, List.setIfInBounds_toArray, List.set_cons_zero, List.set_cons_succ]
  refine wpAnyH_take (i := 10) (v := .pointer (some ⟨g4, 3, none⟩)) rfl (by kernel_rfl) (by kernel_rfl) (by kernel_rfl) (fun _ _ _ h => h) (Or.inl ⟨rfl, fun _ _ => by go_simp⟩) ((New.refl w3).drew) ?_
  simp only [List.getElem_toArray, List.getElem_cons_zero, List.getElem_cons_succ, Act.put, List.setIfInBounds_toArray, List.set_cons_zero, List.set_cons_succ]
  refine wpAnyH_take (i := 11) (v := .int .i64 (kb : Int)) rfl (by kernel_rfl) (by kernel_rfl) (by kernel_rfl) (fun _ _ _ h => h) (ldC_if rfl 3 Tryz.isAgg3 (.tmp 25) rfl ⟨g4, 3, none⟩ rfl (fun w' h => (R4.out w' h).cell.2.2.2)) ((New.refl w3).drew) ?_
  simp only [List.getElem_toArray, List.getElem_cons_zero, List.getElem_cons_succ, Act.put, List.setIfInBounds_toArray, List.set_cons_zero, List.set_cons_succ]
  refine wpAnyH_take (i := 12) (v := .pointer (some ⟨g3, 0, none⟩)) rfl (by kernel_rfl) (by kernel_rfl) (by kernel_rfl) (fun _ _ _ h => h) (Or.inl ⟨rfl, fun _ _ => by go_simp⟩) ((New.refl w3).drew) ?_
  simp only [List.getElem_toArray, List.getElem_cons_zero, List.getElem_cons_succ, Act.put, List.setIfInBounds_toArray, List.set_cons_zero, List.set_cons_succ]
  refine wpAnyH_take (i := 13) (v := .pointer (some ⟨g3, kb * 2, none⟩)) rfl (by kernel_rfl) (by kernel_rfl) (by kernel_rfl) (fun _ _ _ h => h) (ixA_if rfl (.tmp 27) (.tmp 26) rfl g3 kb hkb rfl rfl) ((New.refl w3).drew) ?_
  simp only [List.getElem_toArray, List.getElem_cons_zero, List.getElem_cons_succ, Act.put, List.setIfInBounds_toArray, List.set_cons_zero, List.set_cons_succ]
  refine wpAnyH_take (i := 14) (v := .agg #[.bool (l kb).1, .int .i64 (l kb).2]) rfl (by kernel_rfl) (by kernel_rfl) (by kernel_rfl) (fun _ _ _ h => h) (yieldsIf_load_mid (by rfl) _ _ rfl g3 (kb * 2) rfl (wcells (l kb)) _ (fun w' h => by rw [Nat.mul_comm]; exact HasS.word (R3.out w' h) hkb) Tryz.underlying24 rfl infoWd) ((New.refl w3).drew) ?_
  simp only [List.getElem_toArray, List.getElem_cons_zero, List.getElem_cons_succ, Act.put, List.setIfInBounds_toArray, List.set_cons_zero, List.set_cons_succ]
  refine wpAnyH_new3 (i := 15) (j := 16) (k := 17) (o := oD) (di := 9) (dj := 10) (dk := 11) (m := 3) rfl rfl rfl rfl rfl rfl rfl rfl rfl (run_alD rfl) (run_alD rfl) (run_alD rfl) (by kernel_rfl) (by decide) (by decide) (by decide) (by decide) (by decide) (by decide) (fun _ h => h.alloc _) ((New.refl w3).drew) ?_
  intro g9 g10 g11 h3 hS
  simp only [Act.put, List.setIfInBounds_toArray, List.set_cons_zero, List.set_cons_succ]
  simp only [ptr]
  have hz : w3.drew.heap.size = w3.heap.size := rfl
  rw [hz] at h3
  obtain ⟨d9, d10, d11⟩ := three_D (w := w3.drew) h3
  generalize ((w3.drew.alloc oD).alloc oD).alloc oD = wa at d9 d10 d11 hS ⊢
  refine wpAnyH_forced [18, 19, 20] _ _ _ hS (by kernel_rfl) (by simp) ?_
  simp only [List.map_cons, List.map_nil, Array.getD_eq_getD_getElem?, List.getElem?_toArray, List.getElem?_cons_succ, List.getElem?_cons_zero, Option.getD_some]
  have e9 : w3.heap.size ≤ g9 := h3.a0
  have e10 : w3.heap.size ≤ g10 := h3.b0
  have e11 : w3.heap.size ≤ g11 := h3.c0
  refine wpLS_stD rfl rfl (.tmp 9) (.tmp 19) rfl g9 rfl (l kd) rfl d9 ?_
  intro wb b9 kb9
  have nb := kb9.below w3 e9 hS
  refine ⟨nb, ?_⟩
  refine wpLS_stD rfl rfl (.tmp 10) (.tmp 24) rfl g10 rfl (l ka) rfl (HasC.kept d10 kb9 (Ne.symm h3.ab)) ?_
  intro wc b10 kb10
  have nc := kb10.below w3 e10 nb
  refine ⟨nc, ?_⟩
  refine wpLS_stD rfl rfl (.tmp 11) (.tmp 29) rfl g11 rfl (l kb) rfl (HasC.kept (HasC.kept d11 kb9 (Ne.symm h3.ac)) kb10 (Ne.symm h3.bc)) ?_
  intro wd b11 kb11
  have nd := kb11.below w3 e11 nc
  refine ⟨nd, ?_⟩
  refine wpLS_nil ?_
  refine NoPanic.normal ?_
  have D : Hid (Ds w.heap.size g3 g4 g6 g9 g10 g11) := Lib.hid ⟨hg3, by omega, by omega, by omega, by omega, by omega, by omega⟩
  have FR : Hid (Fr w wd g3 g4 g6 g9 g10 g11 l s p q ⟨o, kd, ka, kb, n, t⟩ (l kd) (l ka) (l kb)) := Lib.hid ⟨R3.out _ nd, R4.out _ nd, HasC.new HR.out nd, HasC.kept (HasC.kept b9 kb10 h3.ab) kb11 h3.ac, HasC.kept b10 kb11 h3.bc, b11, N3.out.trans nd⟩
  obtain ⟨c0, c1, c2, c4, c5, c48, c49, c50, ca, cb⟩ := FR.out.cells
  have HP : Hid (∀ w', New w w' → Hp w' (.slice s.ao s.n s.c) zs) := Lib.hid (fun w' h => HL.out.new h)
  clear HS HI HR R3 R4 N3 d9 d10 d11 b9 b10 b11 kb9 kb10 kb11 nb nc nd hS h3 e9 e10 e11 hz hg3 hg4 hg6 hl3 hl4 hl6 hn1 hn2 hn3
  have hop : o = 3 ∨ o = 2 ∨ o = 1 ∨ o = 13 ∨ o = 14 ∨ o = 15 ∨ o = 17 ∨ o = 16 ∨ o = 18 ∨ (4 ≤ o ∧ o ≤ 12) := by omega
  clear ho
  rcases hop with rfl | rfl | rfl | rfl | rfl | rfl | rfl | rfl | rfl | hop
  · have HF : Hid (flw ⟨3, kd, ka, kb, n, t⟩ ⟨l, zs, p, q⟩ az = (⟨updW (updW l ka (l kd)) kd (l ka), zs, p + 1, q⟩, [], 0)) := Lib.hid (by simp [flw])
    go_wp2_with (first
      | (refine wpList_stAt rfl rfl (.tmp 33) (.tmp 32) rfl g3 rfl (p + 1) rfl FR.out.st ?_; intro wy Hy ky; replace FR := Lib.hid (FR.out.turn D.out Hy ky); clear Hy ky; obtain ⟨c0, c1, c2, c4, c5, c48, c49, c50, ca, cb⟩ := FR.out.cells)
      | (refine wpList_ldDd rfl (.tmp 9) rfl g9 rfl FR.out.d ?_)
      | (refine wpList_ldDd rfl (.tmp 10) rfl g10 rfl FR.out.a ?_)
      | (refine wpList_stWd rfl rfl (.tmp 58) (.tmp 56) rfl g3 ka hka rfl (l kd) rfl FR.out.st ?_; intro wy Hy ky; replace FR := Lib.hid (FR.out.turn D.out Hy ky); clear Hy ky; obtain ⟨c0, c1, c2, c4, c5, c48, c49, c50, ca, cb⟩ := FR.out.cells)
      | (refine wpList_stWd rfl rfl (.tmp 63) (.tmp 61) rfl g3 kd hkd rfl (l ka) rfl FR.out.st ?_; intro wy Hy ky; replace FR := Lib.hid (FR.out.turn D.out Hy ky); clear Hy ky; obtain ⟨c0, c1, c2, c4, c5, c48, c49, c50, ca, cb⟩ := FR.out.cells)
      | (refine wpList_ldS rfl (.tmp 3) rfl g3 rfl FR.out.st ?_)
      | (refine wpList_stS rfl rfl (.tmp 6) (.tmp 146) rfl g6 rfl rfl FR.out.res ?_; intro wz Hz kz))
    exact bodyPost_ret (results_ctt (p := 6) (u := 7) (v := 8) rfl _ _ g6 _ (.slice none 0 0) (.int .i64 (0)) rfl (loadVar_C Hz Tryz.underlying28 rfl (by rw [cellsS_len]; exact infoSt)) rfl rfl) rfl (Rs.of HF.out (HP.out _ (kz.below _ D.out.n6 FR.out.new)) (EvAt.nil _) (kz.below _ D.out.n6 FR.out.new) (.inl rfl) (.inl rfl))
  · have HF : Hid (flw ⟨2, kd, ka, kb, n, t⟩ ⟨l, zs, p, q⟩ az = (⟨updW l kd (l ka), zs, p + 1, q⟩, [], 0)) := Lib.hid (by simp [flw])
    go_wp2_with (first
      | (refine wpList_stAt rfl rfl (.tmp 33) (.tmp 32) rfl g3 rfl (p + 1) rfl FR.out.st ?_; intro wy Hy ky; replace FR := Lib.hid (FR.out.turn D.out Hy ky); clear Hy ky; obtain ⟨c0, c1, c2, c4, c5, c48, c49, c50, ca, cb⟩ := FR.out.cells)
      | (refine wpList_ldDd rfl (.tmp 10) rfl g10 rfl FR.out.a ?_)
      | (refine wpList_stWd rfl rfl (.tmp 63) (.tmp 61) rfl g3 kd hkd rfl (l ka) rfl FR.out.st ?_; intro wy Hy ky; replace FR := Lib.hid (FR.out.turn D.out Hy ky); clear Hy ky; obtain ⟨c0, c1, c2, c4, c5, c48, c49, c50, ca, cb⟩ := FR.out.cells)
      | (refine wpList_ldS rfl (.tmp 3) rfl g3 rfl FR.out.st ?_)
      | (refine wpList_stS rfl rfl (.tmp 6) (.tmp 146) rfl g6 rfl rfl FR.out.res ?_; intro wz Hz kz))
    exact bodyPost_ret (results_ctt (p := 6) (u := 7) (v := 8) rfl _ _ g6 _ (.slice none 0 0) (.int .i64 (0)) rfl (loadVar_C Hz Tryz.underlying28 rfl (by rw [cellsS_len]; exact infoSt)) rfl rfl) rfl (Rs.of HF.out (HP.out _ (kz.below _ D.out.n6 FR.out.new)) (EvAt.nil _) (kz.below _ D.out.n6 FR.out.new) (.inl rfl) (.inl rfl))
  · have HF : Hid (flw ⟨1, kd, ka, kb, n, t⟩ ⟨l, zs, p, q⟩ az = (⟨updW l kd (true, n), zs, p + 1, q⟩, [], 0)) := Lib.hid (by simp [flw])
    go_wp2_with (first
      | (refine wpList_stAt rfl rfl (.tmp 33) (.tmp 32) rfl g3 rfl (p + 1) rfl FR.out.st ?_; intro wy Hy ky; replace FR := Lib.hid (FR.out.turn D.out Hy ky); clear Hy ky; obtain ⟨c0, c1, c2, c4, c5, c48, c49, c50, ca, cb⟩ := FR.out.cells)
      | (refine wpList_ldS rfl (.tmp 3) rfl g3 rfl FR.out.st ?_)
      | (refine wpList_stS rfl rfl (.tmp 6) (.tmp 146) rfl g6 rfl rfl FR.out.res ?_; intro wz Hz kz))
    have hne := newW_any wy
    have y1 : ∀ y : NewW wy, y.val.cell? ⟨g4, 1, none⟩ = some (.int .i64 kd) := fun y => (FR.out.grow y.property).cells.2.1
    have y4 : ∀ y : NewW wy, y.val.cell? ⟨g4, 4, none⟩ = some (.int .i64 n) := fun y => (FR.out.grow y.property).cells.2.2.2.1
    refine wp_region_pref 7 (New.refl wy) (by kernel_rfl) (by kernel_rfl) (by kernel_rfl) (by kernel_rfl) (by kernel_rfl) ?_
    simp only [List.take_succ_cons, List.take_zero, List.drop_succ_cons, List.drop_zero]
    repeat (go_big_quiet_step (first | (go_at_call 54; exact quiet_new (number_from _ _ (Subtype.property _)))))
    refine wpQuiet_nil ?_
    intro w7 hn7
    replace FR := Lib.hid (FR.out.grow hn7)
    obtain ⟨c0, c1, c2, c4, c5, c48, c49, c50, ca, cb⟩ := FR.out.cells
    clear y1 y4 hne hn7
    go_wp2_with (first
      | (refine wpList_stWd rfl rfl (.tmp 70) (.tmp 68) rfl g3 kd hkd rfl (true, n) rfl FR.out.st ?_; intro wy Hy ky; replace FR := Lib.hid (FR.out.turn D.out Hy ky); clear Hy ky; obtain ⟨c0, c1, c2, c4, c5, c48, c49, c50, ca, cb⟩ := FR.out.cells)
      | (refine wpList_ldS rfl (.tmp 3) rfl g3 rfl FR.out.st ?_)
      | (refine wpList_stS rfl rfl (.tmp 6) (.tmp 146) rfl g6 rfl rfl FR.out.res ?_; intro wz Hz kz))
    exact bodyPost_ret (results_ctt (p := 6) (u := 7) (v := 8) rfl _ _ g6 _ (.slice none 0 0) (.int .i64 (0)) rfl (loadVar_C Hz Tryz.underlying28 rfl (by rw [cellsS_len]; exact infoSt)) rfl rfl) rfl (Rs.of HF.out (HP.out _ (kz.below _ D.out.n6 FR.out.new)) (EvAt.nil _) (kz.below _ D.out.n6 FR.out.new) (.inl rfl) (.inl rfl))
  · have HF : Hid (flw ⟨13, kd, ka, kb, n, t⟩ ⟨l, zs, p, q⟩ az = (⟨updW l kd (true, hpLd zs (l ka).2), zs, p + 1, q⟩, [], hpHow zs (l ka).2)) := Lib.hid (by simp [flw])
    go_wp2_with (first
      | (refine wpList_stAt rfl rfl (.tmp 33) (.tmp 32) rfl g3 rfl (p + 1) rfl FR.out.st ?_; intro wy Hy ky; replace FR := Lib.hid (FR.out.turn D.out Hy ky); clear Hy ky; obtain ⟨c0, c1, c2, c4, c5, c48, c49, c50, ca, cb⟩ := FR.out.cells)
      | (go_at_call 55; refine (load_any zs _ _ _ (HP.out _ FR.out.new)).mono ?_; rintro e w5 ⟨rfl, rfl⟩)
      | (refine wpList_ldS rfl (.tmp 3) rfl g3 rfl FR.out.st ?_)
      | (refine wpList_stS rfl rfl (.tmp 6) (.tmp 146) rfl g6 rfl rfl FR.out.res ?_; intro wz Hz kz))
    have hne := newW_any w5
    have y1 : ∀ y : NewW w5, y.val.cell? ⟨g4, 1, none⟩ = some (.int .i64 kd) := fun y => (FR.out.grow y.property).cells.2.1
    have y4 : ∀ y : NewW w5, y.val.cell? ⟨g4, 4, none⟩ = some (.int .i64 n) := fun y => (FR.out.grow y.property).cells.2.2.2.1
    refine wp_region_pref 6 (New.refl w5) (by kernel_rfl) (by kernel_rfl) (by kernel_rfl) (by kernel_rfl) (by kernel_rfl) ?_
    simp only [List.take_succ_cons, List.take_zero, List.drop_succ_cons, List.drop_zero]
    repeat (go_big_quiet_step (first | (go_at_call 54; exact quiet_new (number_from _ _ (Subtype.property _)))))
    refine wpQuiet_nil ?_
    intro w7 hn7
    replace FR := Lib.hid (FR.out.grow hn7)
    obtain ⟨c0, c1, c2, c4, c5, c48, c49, c50, ca, cb⟩ := FR.out.cells
    clear y1 y4 hne hn7
    go_wp2_with (first
      | (refine wpList_stWd rfl rfl (.tmp 84) (.tmp 82) rfl g3 kd hkd rfl (true, hpLd zs (l ka).2) rfl FR.out.st ?_; intro wy Hy ky; replace FR := Lib.hid (FR.out.turn D.out Hy ky); clear Hy ky; obtain ⟨c0, c1, c2, c4, c5, c48, c49, c50, ca, cb⟩ := FR.out.cells)
      | (refine wpList_ldS rfl (.tmp 3) rfl g3 rfl FR.out.st ?_)
      | (refine wpList_stS rfl rfl (.tmp 6) (.tmp 146) rfl g6 rfl rfl FR.out.res ?_; intro wz Hz kz))
    exact bodyPost_ret (results_ctt (p := 6) (u := 7) (v := 8) rfl _ _ g6 _ (.slice none 0 0) (.int .i64 (hpHow zs (l ka).2)) rfl (loadVar_C Hz Tryz.underlying28 rfl (by rw [cellsS_len]; exact infoSt)) rfl rfl) rfl (Rs.of HF.out (HP.out _ (kz.below _ D.out.n6 FR.out.new)) (EvAt.nil _) (kz.below _ D.out.n6 FR.out.new) (.inl rfl) (.inl rfl))
  · have HF : Hid (flw ⟨14, kd, ka, kb, n, t⟩ ⟨l, zs, p, q⟩ az = (⟨l, hpSt zs (l ka).2 (l kb).2, p + 1, q⟩, [], hpHow zs (l ka).2)) := Lib.hid (by simp [flw])
    go_wp2_with (first
      | (refine wpList_stAt rfl rfl (.tmp 33) (.tmp 32) rfl g3 rfl (p + 1) rfl FR.out.st ?_; intro wy Hy ky; replace FR := Lib.hid (FR.out.turn D.out Hy ky); clear Hy ky; obtain ⟨c0, c1, c2, c4, c5, c48, c49, c50, ca, cb⟩ := FR.out.cells)
      | (go_at_call 56; have hb3 := HasC.lt FR.out.st; have hb6 := HasC.lt FR.out.res; have hbw := FR.out.new.size; refine (store_f zs _ _ _ _ _ _ (HP.out _ FR.out.new)).mono ?_; rintro e w5 ⟨vs, rfl, hv, hn5, hf⟩; obtain ⟨so, sc, rfl⟩ := hv.form; replace FR := Lib.hid (FR.out.grow hn5); have HV := Lib.hid hv; have HFr := Lib.hid hf; clear hv hf; obtain ⟨c0, c1, c2, c4, c5, c48, c49, c50, ca, cb⟩ := FR.out.cells)
      | (refine wpList_stHp rfl rfl (.tmp 95) (.tmp 93) rfl g3 rfl ⟨so, _, sc⟩ rfl FR.out.st ?_; intro wy Hy ky; replace HV := Lib.hid (Hp.far HV.out HFr.out hb3 ky.other); replace FR := Lib.hid (FR.out.turn D.out Hy ky); clear Hy; obtain ⟨c0, c1, c2, c4, c5, c48, c49, c50, ca, cb⟩ := FR.out.cells)
      | (refine wpList_ldS rfl (.tmp 3) rfl g3 rfl FR.out.st ?_)
      | (refine wpList_stS rfl rfl (.tmp 6) (.tmp 146) rfl g6 rfl rfl FR.out.res ?_; intro wz Hz kz))
    exact bodyPost_ret (results_ctt (p := 6) (u := 7) (v := 8) rfl _ _ g6 _ (.slice none 0 0) (.int .i64 (hpHow zs (l ka).2)) rfl (loadVar_C Hz Tryz.underlying28 rfl (by rw [cellsS_len]; exact infoSt)) rfl rfl) rfl (Rs.of HF.out (Hp.far HV.out HFr.out hb6 kz.other) (EvAt.nil _) (kz.below _ D.out.n6 FR.out.new) (.inr (HFr.out.mono hbw)) (.inl rfl))
  · by_cases hq : (an : Int) ≤ q
    · have HF : Hid (flw ⟨15, kd, ka, kb, n, t⟩ ⟨l, zs, p, q⟩ az = (⟨l, zs, p + 1, q⟩, [], 5)) := Lib.hid (by simp [flw, show (az.length : Int) ≤ q from by have := HAL.out; omega])
      go_wp2_with (first
        | (refine wpList_stAt rfl rfl (.tmp 33) (.tmp 32) rfl g3 rfl (p + 1) rfl FR.out.st ?_; intro wy Hy ky; replace FR := Lib.hid (FR.out.turn D.out Hy ky); clear Hy ky; obtain ⟨c0, c1, c2, c4, c5, c48, c49, c50, ca, cb⟩ := FR.out.cells)
        | (refine wpList_stS rfl rfl (.tmp 6) (.tmp 101) rfl g6 rfl rfl FR.out.res ?_; intro wz Hz kz)
        | (refine wpList_ldS rfl (.tmp 3) rfl g3 rfl FR.out.st ?_)
        | (refine wpList_stS rfl rfl (.tmp 6) (.tmp 146) rfl g6 rfl rfl FR.out.res ?_; intro wz Hz kz))
      exact bodyPost_ret (results_ctt (p := 6) (u := 7) (v := 8) rfl _ _ g6 _ (.slice none 0 0) (.int .i64 (5)) rfl (loadVar_C Hz Tryz.underlying28 rfl (by rw [cellsS_len]; exact infoSt)) rfl rfl) rfl (Rs.of HF.out (HP.out _ (kz.below _ D.out.n6 FR.out.new)) (EvAt.nil _) (kz.below _ D.out.n6 FR.out.new) (.inl rfl) (.inl rfl))
    · obtain ⟨ad, y, ey, hix, hcy⟩ := Hp.ix HA.out (i := q.toNat) (by have := HAL.out; omega)
      have HY : Hid (az[q.toNat]?.getD 0 = y) := Lib.hid (by rw [ey]; rfl)
      rw [show ((q.toNat : Nat) : Int) = q from by omega] at hix
      have HCA := Lib.hid hcy
      clear ey hcy
      have HF : Hid (flw ⟨15, kd, ka, kb, n, t⟩ ⟨l, zs, p, q⟩ az = (⟨updW l kd (true, y), zs, p + 1, q + 1⟩, [(n, (l ka).2, y)], 0)) := Lib.hid (by simp [flw, show ¬ (az.length : Int) ≤ q from by have := HAL.out; omega, HY.out])
      go_wp2_with (first
        | (refine wpList_stAt rfl rfl (.tmp 33) (.tmp 32) rfl g3 rfl (p + 1) rfl FR.out.st ?_; intro wy Hy ky; replace FR := Lib.hid (FR.out.turn D.out Hy ky); clear Hy ky; obtain ⟨c0, c1, c2, c4, c5, c48, c49, c50, ca, cb⟩ := FR.out.cells; have cA := HCA.out _ FR.out.new)
        | (refine wpList_ldS rfl (.tmp 3) rfl g3 rfl FR.out.st ?_)
        | (refine wpList_stS rfl rfl (.tmp 6) (.tmp 146) rfl g6 rfl rfl FR.out.res ?_; intro wz Hz kz))
      have HE : Hid (HasC (wy.alloc (.cells #[.int .i64 n, .int .i64 (l ka).2, .int .i64 y] 67)) wy.heap.size 67 (evCells (n, (l ka).2, y))) := Lib.hid (HasC.box wy _ [.int .i64 n, .int .i64 (l ka).2, .int .i64 y])
      have hb3 := HasC.lt FR.out.st
      have hb6 := HasC.lt FR.out.res
      have hbw : w.heap.size ≤ wy.heap.size := FR.out.new.size
      replace FR := Lib.hid (FR.out.grow (alloc_new wy (.cells #[.int .i64 n, .int .i64 (l ka).2, .int .i64 y] 67)))
      have hge : ∃ ge, ge = wy.heap.size := ⟨_, rfl⟩
      obtain ⟨ge, hge⟩ := hge
      rw [← hge] at HE hb3 hb6 hbw ⊢
      generalize wy.alloc (.cells #[.int .i64 n, .int .i64 (l ka).2, .int .i64 y] 67) = we at FR HE ⊢
      clear hge
      have hne := newW_any we
      have y1 : ∀ y : NewW we, y.val.cell? ⟨g4, 1, none⟩ = some (.int .i64 kd) := fun y => (FR.out.grow y.property).cells.2.1
      have y4 : ∀ y : NewW we, y.val.cell? ⟨g4, 4, none⟩ = some (.int .i64 n) := fun y => (FR.out.grow y.property).cells.2.2.2.1
      refine wp_region_pref 6 (New.refl we) (by kernel_rfl) (by kernel_rfl) (by kernel_rfl) (by kernel_rfl) (by kernel_rfl) ?_
      simp only [List.take_succ_cons, List.take_zero, List.drop_succ_cons, List.drop_zero]
      repeat (go_big_quiet_step (first | (go_at_call 54; exact quiet_new (number_from _ _ (Subtype.property _)))))
      refine wpQuiet_nil ?_
      intro w7 hn7
      replace FR := Lib.hid (FR.out.grow hn7)
      replace HE := Lib.hid (HasC.new HE.out hn7)
      obtain ⟨c0, c1, c2, c4, c5, c48, c49, c50, ca, cb⟩ := FR.out.cells
      clear y1 y4 hne hn7
      go_wp2_with (first
        | (refine wpList_stWd rfl rfl (.tmp 119) (.tmp 117) rfl g3 kd hkd rfl (true, y) rfl FR.out.st ?_; intro wy Hy ky; replace HE := Lib.hid (HasC.kept HE.out ky (Nat.ne_of_gt hb3)); replace FR := Lib.hid (FR.out.turn D.out Hy ky); clear Hy ky; obtain ⟨c0, c1, c2, c4, c5, c48, c49, c50, ca, cb⟩ := FR.out.cells)
        | (refine wpList_stAsk rfl rfl (.tmp 123) (.tmp 122) rfl g3 rfl (q + 1) rfl FR.out.st ?_; intro wy Hy ky; replace HE := Lib.hid (HasC.kept HE.out ky (Nat.ne_of_gt hb3)); replace FR := Lib.hid (FR.out.turn D.out Hy ky); clear Hy ky; obtain ⟨c0, c1, c2, c4, c5, c48, c49, c50, ca, cb⟩ := FR.out.cells)
        | (refine wpList_ldS rfl (.tmp 3) rfl g3 rfl FR.out.st ?_)
        | (refine wpList_stS rfl rfl (.tmp 6) (.tmp 146) rfl g6 rfl rfl FR.out.res ?_; intro wz Hz kz))
      exact bodyPost_ret (results_ctt (p := 6) (u := 7) (v := 8) rfl _ _ g6 _ (.slice (some ⟨ge, 0, none⟩) 1 1) (.int .i64 (0)) rfl (loadVar_C Hz Tryz.underlying28 rfl (by rw [cellsS_len]; exact infoSt)) rfl rfl) rfl (Rs.of HF.out (HP.out _ (kz.below _ D.out.n6 FR.out.new)) (EvAt.one (HasC.kept HE.out kz (Nat.ne_of_gt hb6))) (kz.below _ D.out.n6 FR.out.new) (.inl rfl) (.inr ⟨ge, 0, 1, 1, rfl, hbw⟩))
  · by_cases hz : (l ka).2 = 0
    · have HF : Hid (flw ⟨17, kd, ka, kb, n, t⟩ ⟨l, zs, p, q⟩ az = (⟨l, zs, t, q⟩, [], 0)) := Lib.hid (by simp [flw, hz])
      have qz : ((l ka).2 != 0) = false := by simpa using hz
      clear hz
      go_wp2_with (first
        | (refine wpList_stAt rfl rfl (.tmp 33) (.tmp 32) rfl g3 rfl (p + 1) rfl FR.out.st ?_; intro wy Hy ky; replace FR := Lib.hid (FR.out.turn D.out Hy ky); clear Hy ky; obtain ⟨c0, c1, c2, c4, c5, c48, c49, c50, ca, cb⟩ := FR.out.cells)
        | (refine wpList_stAt rfl rfl (.tmp 129) (.tmp 128) rfl g3 rfl t rfl FR.out.st ?_; intro wy Hy ky; replace FR := Lib.hid (FR.out.turn D.out Hy ky); clear Hy ky; obtain ⟨c0, c1, c2, c4, c5, c48, c49, c50, ca, cb⟩ := FR.out.cells)
        | (refine wpList_ldS rfl (.tmp 3) rfl g3 rfl FR.out.st ?_)
        | (refine wpList_stS rfl rfl (.tmp 6) (.tmp 146) rfl g6 rfl rfl FR.out.res ?_; intro wz Hz kz))
      exact bodyPost_ret (results_ctt (p := 6) (u := 7) (v := 8) rfl _ _ g6 _ (.slice none 0 0) (.int .i64 (0)) rfl (loadVar_C Hz Tryz.underlying28 rfl (by rw [cellsS_len]; exact infoSt)) rfl rfl) rfl (Rs.of HF.out (HP.out _ (kz.below _ D.out.n6 FR.out.new)) (EvAt.nil _) (kz.below _ D.out.n6 FR.out.new) (.inl rfl) (.inl rfl))
    · have HF : Hid (flw ⟨17, kd, ka, kb, n, t⟩ ⟨l, zs, p, q⟩ az = (⟨l, zs, p + 1, q⟩, [], 0)) := Lib.hid (by simp [flw, hz])
      have qz : ((l ka).2 != 0) = true := by simpa using hz
      clear hz
      go_wp2_with (first
        | (refine wpList_stAt rfl rfl (.tmp 33) (.tmp 32) rfl g3 rfl (p + 1) rfl FR.out.st ?_; intro wy Hy ky; replace FR := Lib.hid (FR.out.turn D.out Hy ky); clear Hy ky; obtain ⟨c0, c1, c2, c4, c5, c48, c49, c50, ca, cb⟩ := FR.out.cells)
        | (refine wpList_ldS rfl (.tmp 3) rfl g3 rfl FR.out.st ?_)
        | (refine wpList_stS rfl rfl (.tmp 6) (.tmp 146) rfl g6 rfl rfl FR.out.res ?_; intro wz Hz kz))
      exact bodyPost_ret (results_ctt (p := 6) (u := 7) (v := 8) rfl _ _ g6 _ (.slice none 0 0) (.int .i64 (0)) rfl (loadVar_C Hz Tryz.underlying28 rfl (by rw [cellsS_len]; exact infoSt)) rfl rfl) rfl (Rs.of HF.out (HP.out _ (kz.below _ D.out.n6 FR.out.new)) (EvAt.nil _) (kz.below _ D.out.n6 FR.out.new) (.inl rfl) (.inl rfl))
  · have HF : Hid (flw ⟨16, kd, ka, kb, n, t⟩ ⟨l, zs, p, q⟩ az = (⟨l, zs, t, q⟩, [], 0)) := Lib.hid (by simp [flw])
    go_wp2_with (first
      | (refine wpList_stAt rfl rfl (.tmp 33) (.tmp 32) rfl g3 rfl (p + 1) rfl FR.out.st ?_; intro wy Hy ky; replace FR := Lib.hid (FR.out.turn D.out Hy ky); clear Hy ky; obtain ⟨c0, c1, c2, c4, c5, c48, c49, c50, ca, cb⟩ := FR.out.cells)
      | (refine wpList_stAt rfl rfl (.tmp 129) (.tmp 128) rfl g3 rfl t rfl FR.out.st ?_; intro wy Hy ky; replace FR := Lib.hid (FR.out.turn D.out Hy ky); clear Hy ky; obtain ⟨c0, c1, c2, c4, c5, c48, c49, c50, ca, cb⟩ := FR.out.cells)
      | (refine wpList_ldS rfl (.tmp 3) rfl g3 rfl FR.out.st ?_)
      | (refine wpList_stS rfl rfl (.tmp 6) (.tmp 146) rfl g6 rfl rfl FR.out.res ?_; intro wz Hz kz))
    exact bodyPost_ret (results_ctt (p := 6) (u := 7) (v := 8) rfl _ _ g6 _ (.slice none 0 0) (.int .i64 (0)) rfl (loadVar_C Hz Tryz.underlying28 rfl (by rw [cellsS_len]; exact infoSt)) rfl rfl) rfl (Rs.of HF.out (HP.out _ (kz.below _ D.out.n6 FR.out.new)) (EvAt.nil _) (kz.below _ D.out.n6 FR.out.new) (.inl rfl) (.inl rfl))
  · have HF : Hid (flw ⟨18, kd, ka, kb, n, t⟩ ⟨l, zs, p, q⟩ az = (⟨l, zs, p + 1, q⟩, [], 1)) := Lib.hid (by simp [flw])
    go_wp2_with (first
      | (refine wpList_stAt rfl rfl (.tmp 33) (.tmp 32) rfl g3 rfl (p + 1) rfl FR.out.st ?_; intro wy Hy ky; replace FR := Lib.hid (FR.out.turn D.out Hy ky); clear Hy ky; obtain ⟨c0, c1, c2, c4, c5, c48, c49, c50, ca, cb⟩ := FR.out.cells)
      | (refine wpList_ldS rfl (.tmp 3) rfl g3 rfl FR.out.st ?_)
      | (refine wpList_stS rfl rfl (.tmp 6) (.tmp 146) rfl g6 rfl rfl FR.out.res ?_; intro wz Hz kz))
    exact bodyPost_ret (results_ctt (p := 6) (u := 7) (v := 8) rfl _ _ g6 _ (.slice none 0 0) (.int .i64 (1)) rfl (loadVar_C Hz Tryz.underlying28 rfl (by rw [cellsS_len]; exact infoSt)) rfl rfl) rfl (Rs.of HF.out (HP.out _ (kz.below _ D.out.n6 FR.out.new)) (EvAt.nil _) (kz.below _ D.out.n6 FR.out.new) (.inl rfl) (.inl rfl))
  · have OB := Lib.hid hop
    have n3 : (o == 3) = false := bneq_of (by omega)
    have n2 : (o == 2) = false := bneq_of (by omega)
    have n1 : (o == 1) = false := bneq_of (by omega)
    have n13 : (o == 13) = false := bneq_of (by omega)
    have n14 : (o == 14) = false := bneq_of (by omega)
    have n15 : (o == 15) = false := bneq_of (by omega)
    have n17 : (o == 17) = false := bneq_of (by omega)
    have n16 : (o == 16) = false := bneq_of (by omega)
    have n18 : (o == 18) = false := bneq_of (by omega)
    clear hop
    have HF : Hid (flw ⟨o, kd, ka, kb, n, t⟩ ⟨l, zs, p, q⟩ az = (⟨updW l kd (true, doV o (l ka).2 (l kb).2), zs, p + 1, q⟩, [], doH o (l kb).2)) := Lib.hid (by have h1 := OB.out; unfold flw; simp only; rw [if_neg (by omega), if_neg (by omega), if_neg (by omega), if_neg (by omega), if_neg (by omega), if_neg (by omega), if_neg (by omega), if_neg (by omega), if_neg (by omega)]; rfl)
    go_wp2_with (first
      | (refine wpList_stAt rfl rfl (.tmp 33) (.tmp 32) rfl g3 rfl (p + 1) rfl FR.out.st ?_; intro wy Hy ky; replace FR := Lib.hid (FR.out.turn D.out Hy ky); clear Hy ky; obtain ⟨c0, c1, c2, c4, c5, c48, c49, c50, ca, cb⟩ := FR.out.cells)
      | (go_at_call 57; refine (do_new o _ _ _ (New.refl _) rfl rfl).mono ?_; rintro e w5 ⟨rfl, hn5⟩; replace FR := Lib.hid (FR.out.grow hn5); obtain ⟨c0, c1, c2, c4, c5, c48, c49, c50, ca, cb⟩ := FR.out.cells)
      | (refine wpList_ldS rfl (.tmp 3) rfl g3 rfl FR.out.st ?_)
      | (refine wpList_stS rfl rfl (.tmp 6) (.tmp 146) rfl g6 rfl rfl FR.out.res ?_; intro wz Hz kz))
    have hne := newW_any w5
    have y1 : ∀ y : NewW w5, y.val.cell? ⟨g4, 1, none⟩ = some (.int .i64 kd) := fun y => (FR.out.grow y.property).cells.2.1
    have y4 : ∀ y : NewW w5, y.val.cell? ⟨g4, 4, none⟩ = some (.int .i64 n) := fun y => (FR.out.grow y.property).cells.2.2.2.1
    refine wp_region_pref 6 (New.refl w5) (by kernel_rfl) (by kernel_rfl) (by kernel_rfl) (by kernel_rfl) (by kernel_rfl) ?_
    simp only [List.take_succ_cons, List.take_zero, List.drop_succ_cons, List.drop_zero]
    repeat (go_big_quiet_step (first | (go_at_call 54; exact quiet_new (number_from _ _ (Subtype.property _)))))
    refine wpQuiet_nil ?_
    intro w7 hn7
    replace FR := Lib.hid (FR.out.grow hn7)
    obtain ⟨c0, c1, c2, c4, c5, c48, c49, c50, ca, cb⟩ := FR.out.cells
    clear y1 y4 hne hn7
    go_wp2_with (first
      | (refine wpList_stWd rfl rfl (.tmp 145) (.tmp 143) rfl g3 kd hkd rfl (true, doV o (l ka).2 (l kb).2) rfl FR.out.st ?_; intro wy Hy ky; replace FR := Lib.hid (FR.out.turn D.out Hy ky); clear Hy ky; obtain ⟨c0, c1, c2, c4, c5, c48, c49, c50, ca, cb⟩ := FR.out.cells)
      | (refine wpList_ldS rfl (.tmp 3) rfl g3 rfl FR.out.st ?_)
      | (refine wpList_stS rfl rfl (.tmp 6) (.tmp 146) rfl g6 rfl rfl FR.out.res ?_; intro wz Hz kz))
    exact bodyPost_ret (results_ctt (p := 6) (u := 7) (v := 8) rfl _ _ g6 _ (.slice none 0 0) (.int .i64 (doH o (l kb).2)) rfl (loadVar_C Hz Tryz.underlying28 rfl (by rw [cellsS_len]; exact infoSt)) rfl rfl) rfl (Rs.of HF.out (HP.out _ (kz.below _ D.out.n6 FR.out.new)) (EvAt.nil _) (kz.below _ D.out.n6 FR.out.new) (.inl rfl) (.inl rfl))
end Go.Proofs.YtdghhedenjgjiaaGreatDoor
