/-
  'ValueTells': what the facts say stands whenever a run comes to a node; at places that are cut it ends: true, for every input.
-/
import Derived.Test.YtphopkjgfkaihaaGreatDoorValueKnow
import Derived.Test.YtphopkjgfkaihaaGreatDoorValuePub
import Derived.Test.YtphopkjgfkaihaaGreatDoorStepG0
import Derived.Test.YtphopkjgfkaihaaGreatDoorRunFair
import Derived.Test.YtphopkjgfkaihaaGreatDoorRefMoves
namespace Go.Proofs.YtphopkjgfkaihaaGreatDoor
open Go.RowKit

/-- A row of numbers that is only read. -/
def hpA (v : Value) (zs : List Int) : Asn :=
  ⟨fun w F => Hp w v zs ∧ (zs = [] ∨ ∃ b off n cap, v = .slice (some ⟨b, off, none⟩) n cap ∧ F b), fun {w w'} F ⟨h, hf⟩ hk => by
    refine ⟨?_, hf⟩
    obtain ⟨ao, cap, e, hh⟩ := h
    refine ⟨ao, cap, e, fun i hi => ?_⟩
    obtain ⟨b, off, e1, h1⟩ := hh i hi
    refine ⟨b, off, e1, ?_⟩
    have hb : w'.heap[b]? = w.heap[b]? := by
      apply hk
      rcases hf with rfl | ⟨b', o', n', c', e', hb'⟩
      · simp at hi
      · rw [e'] at e
        simp only [Value.slice.injEq] at e
        rw [← e.1] at e1
        simp only [Option.some.injEq, Addr.mk.injEq] at e1
        rw [← e1.1]
        exact hb'
    unfold World.cell? at h1 ⊢
    simp only [hb]
    exact h1⟩
theorem hpA_rd {v : Value} {zs : List Int} {w : World} (h : (hpA v zs).rd w) : Hp w v zs := let ⟨_, h1, _⟩ := h; h1.1
theorem Sep.hp {w0 w w' : World} {l : List Asn} {v : Value} {zs : List Int} (h : Sep w0 w l) (n : New w w') (hh : Hp w' v zs) (hf : Fresh w.heap.size v zs) : Sep w0 w' (hpA v zs :: l) := by
  refine h.add (F := fun g => zs ≠ [] ∧ ∃ off m cap, v = .slice (some ⟨g, off, none⟩) m cap) n ⟨hh, ?_⟩ fun g ⟨hz, off, m, cap, e⟩ => ?_
  · by_cases hz : zs = []
    · exact .inl hz
    · rcases hf with h1 | ⟨b, off, m, cap, e, _⟩
      · exact absurd h1 hz
      · exact .inr ⟨b, off, m, cap, e, hz, off, m, cap, e⟩
  · rcases hf with h1 | ⟨b, off', m', cap', e', hb⟩
    · exact absurd h1 hz
    · rw [e] at e'
      simp only [Value.slice.injEq, Option.some.injEq, Addr.mk.injEq] at e'
      refine ⟨by rw [e'.1.1]; exact hb, ?_⟩
      obtain ⟨ao, c2, e2, h2⟩ := hh
      obtain ⟨b2, o2, e3, h3⟩ := h2 0 (by rw [List.length_map]; exact List.length_pos_iff.mpr hz)
      rw [e] at e2
      simp only [Value.slice.injEq] at e2
      rw [← e2.1] at e3
      simp only [Option.some.injEq, Addr.mk.injEq] at e3
      rw [e3.1]
      unfold World.cell? at h3
      cases hb2 : w'.heap[b2]? with
      | none => simp only [hb2] at h3; simp at h3
      | some ob => exact heap_lt hb2
theorem neq_w (b : Bool) (n : Int) (w : World) : (binOp .neq 72 (.agg #[.bool b, .int .i64 n]) (.agg #[.bool b, .int .i64 n])).run Tryz.prog w = .ok (.bool false) w := by
  go_simp
section
variable {ops : Array Oper} {C : World → Prop} {Q : Act → Prop} {op : Oper} {rest : List Oper} {act : Act}
theorem wpQuiet_ldW2 (hw : Region.wanted op (yielded ops act.tmps) = true) (p : Operand) (ho : op.op = .load 72 p)
    (b o : Nat) (hx : act.eval p = .pointer (some ⟨b, o, none⟩)) {x : Wd} (h : ∀ w, C w → w.rangeAt b o (wcells x))
    (hk : wpQuiet Tryz.prog ops C Q rest (act.put op.dst (.agg #[.bool x.1, .int .i64 x.2]))) : wpQuiet Tryz.prog ops C Q (op :: rest) act :=
  wpQuiet_valG hw _ (fun w hw => by
    unfold execOp
    have := run_loadAt_mid (P := Tryz.prog) w b o 72 (wcells x) _ (h w hw) Tryz.underlying72 rfl infoWd
    simp only [ho, hx, this, Sem.run_bind, Sem.run_pure, Result.andThen_ok]
    rfl) hk
end
/-- What a fact says of a word. -/
def factW (k : Sc) (x : Wd) : Prop := (k.1 = 2 → x = (true, k.2)) ∧ (k.1 = 0 → x.1 = false)
theorem tells_facts {f : List I} (hf : (chkF f).2 = 0) {cut : List Bool} {F : Kt} (hF : FactTab f (sklA f cut) F) {M : Mc}
    (h : mvA f M.p = true ∨ (M.p ∈ nodesA f cut ∧ ∀ n, n < (nodesA f cut).length → (nodesA f cut).getD n 0 = M.p → ∀ c l, HasFact f (sklA f cut) c n l → (c.1 = 2 → M.l l = (true, c.2)) ∧ (c = (0, 0) → (M.l l).1 = false))) {n : Nat} {y : Int × List Wyo} (hy : (sklA f cut).nodes[n]? = some y) (hp : y.1 = M.p) {l : Nat} (hl : l < 24) : factW (F n l) (M.l l) := by
  have hn : n < (sklA f cut).nodes.length := (List.getElem?_eq_some_iff.mp hy).1
  have hnA : n < (nodesA f cut).length := by rwa [skl_len] at hn
  have hat : (nodesA f cut).getD n 0 = M.p := by
    rw [skl_nodes, List.getElem?_map] at hy
    rw [List.getD_eq_getElem?_getD, ← hp]
    cases h2 : (nodesA f cut)[n]? with
    | none => rw [h2] at hy; cases hy
    | some z => rw [h2] at hy; simp at hy; rw [← hy]; rfl
  have hmem : M.p ∈ nodesA f cut := by
    rw [← hat, List.getD_eq_getElem?_getD, List.getElem?_eq_getElem hnA]
    exact List.getElem_mem hnA
  rcases h with h | ⟨_, h⟩
  · have := ((nodes_nds hf cut).inf _ hmem).2
    rw [h] at this
    cases this
  · have h3 := h n hnA hat
    rcases hF n l hn hl with ⟨h1, h2⟩ | ⟨h1, _⟩
    · refine ⟨fun e => (h3 _ l h2).1 e, fun e => (h3 _ l h2).2 ?_⟩
      rcases h1 with h1 | h1
      · exact h1
      · rw [h1] at e; cases e
    · rw [h1]
      exact ⟨fun e => absurd (show (4 : Int) = 2 from e) (by decide), fun e => absurd (show (4 : Int) = 0 from e) (by decide)⟩
theorem tells_met {f : List I} {cut : List Bool} {M : Mc} {T : Prop} (h : mvA f M.p = true ∨ (M.p ∈ nodesA f cut ∧ T)) : mvA f M.p = true ∨ ∃ y ∈ (sklA f cut).nodes, y.1 = M.p := by
  refine h.imp id fun ⟨h1, _⟩ => ?_
  rw [skl_nodes]
  exact ⟨_, List.mem_map.mpr ⟨M.p, h1, rfl⟩, rfl⟩
theorem cutN_mv {f : List I} (hf : (chkF f).2 = 0) : ∀ {k : Nat} {c : List Bool}, CutN f k c → ∀ {p : Nat}, p < f.length → c.getD p false = true → mvA f (p : Int) = false
  | 0, c, h, p, hp, hc => by
    have h1 : c = List.replicate f.length false := h
    rw [h1, List.getD_eq_getElem?_getD, List.getElem?_replicate, if_pos hp] at hc
    cases hc
  | k + 1, c, ⟨c', h1, h2⟩, p, hp, hc => by
    rcases (h2.2 p hp).mp hc with h3 | ⟨n, u, _, h4, h5, _⟩
    · exact cutN_mv hf h1 hp h3
    · refine ((nodes_nds hf c').inf _ ?_).2
      rw [← h5, List.getD_eq_getElem?_getD, List.getElem?_eq_getElem h4]
      exact List.getElem_mem h4
/-- Has a node been met? -/
def MetB (ys : List (Int × List Wyo)) (p : Int) (m0 : Bool) (m : Nat) (b : Bool) : Prop := b = true ↔ m0 = true ∨ ∃ y ∈ ys.take m, y.1 = p
theorem met_0 (ys : List (Int × List Wyo)) (p : Int) (m0 : Bool) : MetB ys p m0 0 m0 := by simp [MetB]
theorem met_yes {ys : List (Int × List Wyo)} {p : Int} {m0 : Bool} {m : Nat} {y : Int × List Wyo} (hy : ys[m]? = some y) (hp : y.1 = p) : MetB ys p m0 (m + 1) true := by
  unfold MetB
  rw [List.take_add_one, hy]
  exact ⟨fun _ => .inr ⟨y, List.mem_append.mpr (.inr (by simp)), hp⟩, fun _ => rfl⟩
theorem met_no {ys : List (Int × List Wyo)} {p : Int} {m0 : Bool} {m : Nat} {b : Bool} (h : MetB ys p m0 m b) {y : Int × List Wyo} (hy : ys[m]? = some y) (hp : y.1 ≠ p) : MetB ys p m0 (m + 1) b := by
  unfold MetB at h ⊢
  rw [h, List.take_add_one, hy]
  refine or_congr Iff.rfl ⟨fun ⟨z, a, b⟩ => ⟨z, List.mem_append.mpr (.inl a), b⟩, fun ⟨z, a, b⟩ => ?_⟩
  rcases List.mem_append.mp a with a | a
  · exact ⟨z, a, b⟩
  · simp at a
    rw [a] at b
    exact absurd b hp
set_option maxHeartbeats 16000000 in
set_option maxRecDepth 100000 in
theorem valueTells_walk (fo : Option Addr) (fn fc : Nat) (f : List I) (rs : Nat → Int) (ho : Option Addr) (hn hc : Nat) (ao : Option Addr) (an ac : Nat) (n : Int) (zs az : List Int) (w : World) (hf : FunAt w (.slice fo fn fc) f) (hh : Hp w (.slice ho hn hc) zs) (ha : Hp w (.slice ao an ac) az) (hl : Laid w) :
    Calls Tryz.prog 7 #[.slice fo fn fc, .agg (caC rs ⟨ho, hn, hc⟩ ⟨ao, an, ac⟩ n).toArray] w fun e w' => e = .returned (.bool true) ∧ New w w' := by
  have HL := Lib.hid hl
  have HF := Lib.hid hf
  have HH := Lib.hid hh
  have HA := Lib.hid ha
  have HLN : Hid (f.length = fn) := Lib.hid hf.len.symm
  have HHN : Hid (hn = zs.length) := Lib.hid (Hp.len hh)
  have HAN : Hid (an = az.length) := Lib.hid (Hp.len ha)
  have HS := Lib.hid (Sep.start w)
  clear hl hf hh ha
  by_cases c1 : (60 : Int) < (fn : Int)
  · have d1 := decide_eq_true c1
    have T1 : Hid True := Lib.hid trivial
    have T2 : Hid True := Lib.hid trivial
    go_enter Tryz.func7, Tryz.ntmps7
    go_wp2_with (first
      | (clear T1; refine wpList_boxB rfl 69 (.tmp 1) rfl (caC rs ⟨ho, hn, hc⟩ ⟨ao, an, ac⟩ n) rfl HS.out ?_; intro w1 g3 hs; replace HS := Lib.hid hs; have k1 := HS.out.cell 0 rfl (k := 8) rfl; have k2 := HS.out.cell 0 rfl (k := 9) rfl; have k3 := HS.out.cell 0 rfl (k := 10) rfl; clear hs)
      | (clear T2; go_at_call 11; refine (knows_from11 _ HL.out HS.out.nw).mono ?_; rintro e wk ⟨rfl, hnk⟩))
    go_ret
    exact ⟨rfl, hnk⟩
  by_cases c2 : (100 : Int) < (hn : Int)
  · have d1 := decide_eq_false c1
    have d2 := decide_eq_true c2
    have T1 : Hid True := Lib.hid trivial
    have T2 : Hid True := Lib.hid trivial
    go_enter Tryz.func7, Tryz.ntmps7
    go_wp2_with (first
      | (clear T1; refine wpList_boxB rfl 69 (.tmp 1) rfl (caC rs ⟨ho, hn, hc⟩ ⟨ao, an, ac⟩ n) rfl HS.out ?_; intro w1 g3 hs; replace HS := Lib.hid hs; have k1 := HS.out.cell 0 rfl (k := 8) rfl; have k2 := HS.out.cell 0 rfl (k := 9) rfl; have k3 := HS.out.cell 0 rfl (k := 10) rfl; clear hs)
      | (clear T2; go_at_call 11; refine (knows_from11 _ HL.out HS.out.nw).mono ?_; rintro e wk ⟨rfl, hnk⟩))
    go_ret
    exact ⟨rfl, hnk⟩
  by_cases c3 : (1000 : Int) < (an : Int)
  · have d1 := decide_eq_false c1
    have d2 := decide_eq_false c2
    have d3 := decide_eq_true c3
    have T1 : Hid True := Lib.hid trivial
    have T2 : Hid True := Lib.hid trivial
    go_enter Tryz.func7, Tryz.ntmps7
    go_wp2_with (first
      | (clear T1; refine wpList_boxB rfl 69 (.tmp 1) rfl (caC rs ⟨ho, hn, hc⟩ ⟨ao, an, ac⟩ n) rfl HS.out ?_; intro w1 g3 hs; replace HS := Lib.hid hs; have k1 := HS.out.cell 0 rfl (k := 8) rfl; have k2 := HS.out.cell 0 rfl (k := 9) rfl; have k3 := HS.out.cell 0 rfl (k := 10) rfl; clear hs)
      | (clear T2; go_at_call 11; refine (knows_from11 _ HL.out HS.out.nw).mono ?_; rintro e wk ⟨rfl, hnk⟩))
    go_ret
    exact ⟨rfl, hnk⟩
  by_cases c4 : (300 : Int) < n
  · have d1 := decide_eq_false c1
    have d2 := decide_eq_false c2
    have d3 := decide_eq_false c3
    have d4 := decide_eq_true c4
    have T1 : Hid True := Lib.hid trivial
    have T2 : Hid True := Lib.hid trivial
    go_enter Tryz.func7, Tryz.ntmps7
    go_wp2_with (first
      | (clear T1; refine wpList_boxB rfl 69 (.tmp 1) rfl (caC rs ⟨ho, hn, hc⟩ ⟨ao, an, ac⟩ n) rfl HS.out ?_; intro w1 g3 hs; replace HS := Lib.hid hs; have k1 := HS.out.cell 0 rfl (k := 8) rfl; have k2 := HS.out.cell 0 rfl (k := 9) rfl; have k3 := HS.out.cell 0 rfl (k := 10) rfl; clear hs)
      | (clear T2; go_at_call 11; refine (knows_from11 _ HL.out HS.out.nw).mono ?_; rintro e wk ⟨rfl, hnk⟩))
    go_ret
    exact ⟨rfl, hnk⟩
  have d1 := decide_eq_false c1
  have d2 := decide_eq_false c2
  have d3 := decide_eq_false c3
  have d4 := decide_eq_false c4
  cases hfb : fairB f zs az n with
  | false =>
    have HFB := Lib.hid hfb
    clear hfb
    have T1 : Hid True := Lib.hid trivial
    have T2 : Hid True := Lib.hid trivial
    have T3 : Hid True := Lib.hid trivial
    have T4 : Hid True := Lib.hid trivial
    go_enter Tryz.func7, Tryz.ntmps7
    go_wp2_with (first
      | (clear T1; refine wpList_boxB rfl 69 (.tmp 1) rfl (caC rs ⟨ho, hn, hc⟩ ⟨ao, an, ac⟩ n) rfl HS.out ?_; intro w1 g3 hs; replace HS := Lib.hid hs; have k1 := HS.out.cell 0 rfl (k := 8) rfl; have k2 := HS.out.cell 0 rfl (k := 9) rfl; have k3 := HS.out.cell 0 rfl (k := 10) rfl; clear hs)
      | (clear T2; refine wpList_ldAG rfl 69 (.tmp 3) rfl g3 0 rfl (caC rs ⟨ho, hn, hc⟩ ⟨ao, an, ac⟩ n) _ (HasC.all (HS.out.has 0 rfl)) Tryz.underlying69 rfl infoCa ?_)
      | (clear T3; go_at_call 24; refine (fair_is (h := ⟨ho, hn, hc⟩) (a := ⟨ao, an, ac⟩) (rs := rs) (n := n) (New.refl _) (HF.out.new HS.out.nw) (HH.out.new HS.out.nw) (HA.out.new HS.out.nw) HFB.out).mono ?_; rintro e w2 ⟨rfl, hnw⟩; replace HS := Lib.hid (HS.out.go hnw); clear hnw k1 k2 k3)
      | (clear T4; go_at_call 11; refine (knows_from11 _ HL.out HS.out.nw).mono ?_; rintro e wk ⟨rfl, hnk⟩))
    go_ret
    exact ⟨rfl, hnk⟩
  | true =>
    have HFB := Lib.hid hfb
    obtain ⟨hck, hz16, hal, hn0, hn5⟩ := fair_iff.mp hfb
    have HR := Lib.hid hck
    have HAL := Lib.hid hal
    have HBR : Hid (mcB f (begM rs zs) = true) := Lib.hid (beg_right hck hz16)
    have hhn : hn ≤ 1000 := by omega
    have hfn : fn ≤ 60 := by omega
    clear hfb hck hz16 hal
    have T1 : Hid True := Lib.hid trivial
    have T2 : Hid True := Lib.hid trivial
    have T3 : Hid True := Lib.hid trivial
    have T4 : Hid True := Lib.hid trivial
    have T5 : Hid True := Lib.hid trivial
    have T6 : Hid True := Lib.hid trivial
    have T7 : Hid True := Lib.hid trivial
    have T8 : Hid True := Lib.hid trivial
    have T9 : Hid True := Lib.hid trivial
    have T10 : Hid True := Lib.hid trivial
    have T11 : Hid True := Lib.hid trivial
    have T12 : Hid True := Lib.hid trivial
    have T13 : Hid True := Lib.hid trivial
    go_enter Tryz.func7, Tryz.ntmps7
    go_wp2_with (first
      | (clear T1; refine wpList_boxB rfl 69 (.tmp 1) rfl (caC rs ⟨ho, hn, hc⟩ ⟨ao, an, ac⟩ n) rfl HS.out ?_; intro w1 g3 hs; replace HS := Lib.hid hs; have k1 := HS.out.cell 0 rfl (k := 8) rfl; have k2 := HS.out.cell 0 rfl (k := 9) rfl; have k3 := HS.out.cell 0 rfl (k := 10) rfl; clear hs)
      | (clear T2; refine wpList_ldAG rfl 69 (.tmp 3) rfl g3 0 rfl (caC rs ⟨ho, hn, hc⟩ ⟨ao, an, ac⟩ n) _ (HasC.all (HS.out.has 0 rfl)) Tryz.underlying69 rfl infoCa ?_)
      | (clear T3; go_at_call 24; refine (fair_is (h := ⟨ho, hn, hc⟩) (a := ⟨ao, an, ac⟩) (rs := rs) (n := n) (New.refl _) (HF.out.new HS.out.nw) (HH.out.new HS.out.nw) (HA.out.new HS.out.nw) HFB.out).mono ?_; rintro e w2 ⟨rfl, hnw⟩; replace HS := Lib.hid (HS.out.go hnw); clear hnw k1 k2 k3)
      | (clear T4; go_at_call 22; refine (cut_in fo fn fc f _ (HL.out.new HS.out.nw) (HF.out.new HS.out.nw) HR.out).mono ?_; rintro e w3 ⟨bc, c, hic, rfl, hs⟩; have HIC := Lib.hid hic; replace HS := Lib.hid (HS.out.call hs); clear hs hic; obtain ⟨F, hF⟩ := fact_tab f (sklA f c); have HFT := Lib.hid hF; have hN0 := skl_few HR.out c; obtain ⟨S, HSK⟩ : ∃ S, Hid (sklA f c = S) := ⟨_, Lib.hid rfl⟩; obtain ⟨N, HNN⟩ : ∃ N, Hid (S.nodes.length = N) := ⟨_, Lib.hid rfl⟩; rw [HSK.out, HNN.out] at hN0; clear hF)
      | (clear T5; go_at_call 12; refine (build_in fo fn fc f (some ⟨bc, 0, none⟩) fn fn c _ (HL.out.new HS.out.nw) (HF.out.new HS.out.nw) (leaf_row (HS.out.rd 0 rfl)) HR.out).mono ?_; rw [HSK.out]; rintro e w4 ⟨vs, rfl, hs⟩; obtain ⟨na, nc, hv⟩ := rowA_form hs.hd; rw [HNN.out] at hv; subst hv; replace HS := Lib.hid (HS.out.call hs); clear hs)
      | (clear T6; refine wpList_alB rfl 34 rfl _ zeroSk_run _ rfl HS.out ?_; intro w5 g7 hs; replace HS := Lib.hid hs; clear hs)
      | (clear T7; refine wpList_stSW 0 rfl rfl 34 (.tmp 7) (.tmp 56) rfl g7 rfl _ rfl HS.out rfl (skC S.entry (.slice na N nc)) rfl (by rw [skC_len, skC_len]) (skC_one _ rfl) (by rw [skC_len]; exact infoSk) ?_; intro w6 hs; replace HS := Lib.hid hs; clear hs)
      | (clear T8; refine wpList_load_mid rfl 34 (.tmp 7) rfl g7 0 rfl (skC S.entry (.slice na N nc)) _ (HasC.all (HS.out.has 0 rfl)) Tryz.underlying34 rfl (by rw [skC_len]; exact infoSk) ?_)
      | (clear T9; go_at_call 20; have hfp := facts_pub (cut := c) (F := F) (v := .slice na N nc) (HL.out.new HS.out.nw) (HF.out.new HS.out.nw) HR.out (by rw [HSK.out]; exact HS.out.rd 1 rfl) HFT.out; rw [HSK.out, HNN.out] at hfp; refine hfp.mono ?_; clear hfp; rintro e w7 ⟨v7, rfl, hs⟩; obtain ⟨ya, yc, hv⟩ := rowA_form hs.hd; rw [tabK_len] at hv; subst hv; replace HS := Lib.hid (HS.out.call hs); have cn := HS.out.cell 1 rfl (skC_nd _ _); clear hs)
      | (clear T10; refine wpList_load_mid rfl 69 (.tmp 3) rfl g3 0 rfl (caC rs ⟨ho, hn, hc⟩ ⟨ao, an, ac⟩ n) _ (HasC.all (HS.out.has 4 rfl)) Tryz.underlying69 rfl infoCa ?_)
      | (clear T11; go_at_call 25; refine (begin_any (h := ⟨ho, hn, hc⟩) (a := ⟨ao, an, ac⟩) (HH.out.new HS.out.nw) hhn).mono ?_; rintro e w8 ⟨s0, rfl, hp0, hn8, hfr⟩; replace HS := Lib.hid (HS.out.hp hn8 hp0 hfr); clear hp0 hn8 hfr cn)
      | (clear T12; refine wpList_alB rfl 75 rfl _ zeroS_run _ rfl HS.out ?_; intro w9 g10 hs; replace HS := Lib.hid hs; clear hs)
      | (clear T13; refine wpList_stSW 0 rfl rfl 75 (.tmp 10) (.tmp 83) rfl g10 rfl _ rfl HS.out rfl (cellsS (begL rs) s0 0 0) rfl (by rw [cellsS_len, cellsS_len]) (cellsS_one _ _ _ _) (by rw [cellsS_len]; exact infoSt) ?_; intro wA hs; replace HS := Lib.hid hs; clear hs))
    have HB8 : Hid (∀ i < 24, 8 ≤ i → ((begM rs zs).l i).1 = false) := Lib.hid fun i _ h8 => by
      show (begL rs i).1 = false
      unfold begL
      rw [if_neg (by omega)]
    have HCE := Lib.hid (cut_ends (az := az) HBR.out rfl HB8.out HIC.out)
    have HTL := Lib.hid fun (t : Nat) (hA : Alive f az (begM rs zs) t) => run_tells HBR.out rfl HB8.out HCE.out hA
    have HCL : Hid (c.length = fn) := Lib.hid (by obtain ⟨k, h1, _⟩ := HIC.out; rw [cutN_len h1, HLN.out])
    have HMV : Hid (∀ p : Nat, p < fn → c.getD p false = true → mvA f (p : Int) = false) := Lib.hid fun p hp hc => by
      obtain ⟨k, h1, _⟩ := HIC.out
      exact cutN_mv HR.out h1 (by rw [HLN.out]; exact hp) hc
    go_loopw [11] (fun iv wr => ∃ (t : Nat) (s : Sl), iv = .int .i64 (t : Int) ∧ (t : Int) ≤ n ∧ Hid (Alive f az (begM rs zs) t) ∧ Hid (Sep w wr [blk g10 75 (cellsS (stA f az (begM rs zs) t).l s (stA f az (begM rs zs) t).p (stA f az (begM rs zs) t).q), hpA (.slice s.ao s.n s.c) (stA f az (begM rs zs) t).h, factsO (.slice ya N yc) (tabK N F), blk g7 34 (skC S.entry (.slice na N nc)), nodesO (.slice na N nc) S.nodes, boolsO (.slice (some ⟨bc, 0, none⟩) fn fn) c, blk g3 69 (caC rs ⟨ho, hn, hc⟩ ⟨ao, an, ac⟩ n)])) (fun iv _ => n.toNat - (intOf iv).toNat)
    case atStart => exact ⟨0, s0, rfl, hn0, Lib.hid (fun i hi => absurd hi (Nat.not_lt_zero i)), HS⟩
    case round =>
      clear HS
      obtain ⟨t, s, rfl, ht, HAT, HT⟩ := hrel
      have HMR := Lib.hid (alive_right HBR.out HAT.out)
      have HTS := Lib.hid (HTL.out t HAT.out)
      have HTC := Lib.hid (HCE.out t HAT.out)
      have HNX : Hid ((stp f (stA f az (begM rs zs) t) az).how = 0 → Alive f az (begM rs zs) (t + 1)) := Lib.hid fun h i hi => by
        rcases Nat.lt_or_ge i t with e | e
        · exact HAT.out i e
        · rw [show i = t by omega]; exact h
      have HST : Hid (stA f az (begM rs zs) (t + 1) = (stp f (stA f az (begM rs zs) t) az).s) := Lib.hid rfl
      obtain ⟨⟨l, z, p, q⟩, HM⟩ : ∃ M, Hid (stA f az (begM rs zs) t = M) := ⟨_, Lib.hid rfl⟩
      rw [HM.out] at HT HMR HTS HTC HNX HST
      obtain ⟨_, hp0, hp1, _⟩ := mc_iff.mp HMR.out
      obtain ⟨k, hk⟩ : ∃ k : Nat, p = (k : Int) := ⟨p.toNat, by have : (0 : Int) ≤ p := hp0; omega⟩
      subst hk
      have hkn : k < fn := by have : (k : Int) < f.length := hp1; have := HLN.out; omega
      clear hp0 hp1
      have cf := HT.out.cell 6 rfl (k := 10) rfl
      by_cases htn : (t : Int) < n
      · have c49 := HT.out.cell 0 rfl (cellsS_tail l s (k : Int) q 1)
        obtain ⟨fb, fi, x, hx, hix, hrg⟩ := HF.out.ix hkn
        have HXI : Hid (insA f (k : Int) = x) := Lib.hid (by
          unfold insA
          rw [Int.toNat_natCast, List.getD_eq_getElem?_getD, hx]
          rfl)
        have HXM : Hid (mvA f (k : Int) = movesB x.op) := Lib.hid (by unfold mvA; rw [HXI.out])
        have HRF := Lib.hid hrg
        have e5 : decide ((k : Int) < 0) = false := decide_eq_false (by omega)
        have e6 : decide ((fn : Int) ≤ (k : Int)) = false := decide_eq_false (by omega)
        have h6 : ¬ fn ≤ k := by omega
        have U1 : Hid True := Lib.hid trivial
        clear hx hrg
        go_wp2_with (first
          | (clear U1; refine wpList_ldAG rfl 79 (.tmp 103) rfl fb fi rfl (cells6 x) _ (HRF.out _ HT.out.nw) Tryz.underlying79 rfl (by rw [cells6_len]; exact infoI) ?_)
          | (go_at_call 26; refine (refMoves_any x.op x.d x.a x.b x.n x.t _).mono ?_; rintro e wm ⟨rfl, hnw⟩; replace HT := Lib.hid (HT.out.go hnw); clear hnw c49 cf))
        go_loopw [12, 13] (fun mv nv wq => ∃ (m : Nat) (b : Bool), mv = .bool b ∧ nv = .int .i64 (m : Int) ∧ m ≤ N ∧ Hid (MetB S.nodes (k : Int) (movesB x.op) m b) ∧ Hid (Sep w wq [blk g10 75 (cellsS l s (k : Int) q), hpA (.slice s.ao s.n s.c) z, factsO (.slice ya N yc) (tabK N F), blk g7 34 (skC S.entry (.slice na N nc)), nodesO (.slice na N nc) S.nodes, boolsO (.slice (some ⟨bc, 0, none⟩) fn fn) c, blk g3 69 (caC rs ⟨ho, hn, hc⟩ ⟨ao, an, ac⟩ n)])) (fun _ nv _ => N - (intOf nv).toNat)
        case atStart => exact ⟨0, _, rfl, rfl, by omega, Lib.hid (met_0 _ _ _), HT⟩
        case round =>
          clear HT
          obtain ⟨m, b, rfl, rfl, hm, HMB, HT⟩ := hrel
          have cn := HT.out.cell 3 rfl (skC_nd _ _)
          by_cases hmN : m < N
          · obtain ⟨y, hy⟩ : ∃ y, S.nodes[m]? = some y := ⟨_, List.getElem?_eq_getElem (by rw [HNN.out]; exact hmN)⟩
            have HY := Lib.hid hy
            obtain ⟨b0, o0, c0, _, i0, r0, e0⟩ := rowA_ix (P := Tryz.prog) (HT.out.rd 4 rfl) 32 Tryz.underlying32 sizeNd hy
            obtain ⟨v0, rfl, _⟩ := node_rd e0
            obtain ⟨b1, o1, u1, i1, r1, dd1⟩ := nest_ix (P := Tryz.prog) (HT.out.rd 2 rfl) 57 Tryz.underlying57 sizeSs (tabK_at F hmN)
            obtain ⟨a1, c1', hu1⟩ := rowA_form dd1
            rw [rowK_len] at hu1
            subst hu1
            have V1 : ∀ z : NewW wr, z.val.cell? ⟨b1, o1, none⟩ = some (.slice a1 24 c1') := fun z => r1 _ z.property
            have V2 : ∀ z : NewW wr, z.val.cell? ⟨b0, o0, none⟩ = some (.int .i64 y.1) := fun z => by
              have := r0 _ z.property 0 _ rfl
              rw [Nat.add_zero] at this
              exact this
            have c49 := HT.out.cell 0 rfl (cellsS_tail l s (k : Int) q 1)
            have V3 : ∀ z : NewW wr, z.val.cell? ⟨g7, 25, none⟩ = some (.slice na N nc) := fun z => z.property.cell' cn
            have V4 : ∀ z : NewW wr, z.val.cell? ⟨g10, 49, none⟩ = some (.int .i64 (k : Int)) := fun z => z.property.cell' c49
            have HR1 := Lib.hid r1
            have HD1 := Lib.hid dd1
            clear hy r0 e0 r1 dd1
            by_cases hyp : y.1 = (k : Int)
            · have q0 : (y.1 == (k : Int)) = true := beq_of hyp
              have HMB2 := Lib.hid (met_yes (p := (k : Int)) (m0 := movesB x.op) HY.out hyp)
              have HFW : Hid (∀ j < 24, factW (F m j) (l j)) := Lib.hid fun j hj => tells_facts (M := ⟨l, z, (k : Int), q⟩) HR.out HFT.out HTS.out (by rw [HSK.out]; exact HY.out) hyp hj
              rw [hyp] at V2
              clear hyp
              go_wp2_with fail
              have hne := newW_any wr
              refine wp_region_new (New.refl wr) (by kernel_rfl) (by kernel_rfl) ?_
              repeat (go_big_quiet_step (fail))
              refine wpQuiet_nil ?_
              intro w6 hn6
              have HNQ := Lib.hid hn6
              replace HT := Lib.hid (HT.out.go hn6)
              clear V1 V2 V3 V4 hne hn6 cn c49
              go_wp2_with fail
              go_loopw [14] (fun lv wz => ∃ j : Nat, lv = .int .i64 (j : Int) ∧ j ≤ 24 ∧ Hid (Sep w6 wz [])) (fun lv _ => 24 - (intOf lv).toNat)
              case atStart => exact ⟨0, rfl, by omega, Lib.hid (Sep.start _)⟩
              case round =>
                obtain ⟨j, rfl, hj, HQ⟩ := hrel
                by_cases hj24 : j < 24
                · obtain ⟨b3, o3, i3, r3⟩ := leaf_ix (P := Tryz.prog) HD1.out 58 Tryz.underlying58 sizeSr (rowK_at F m hj24)
                  have HFJ := Lib.hid (HFW.out j hj24)
                  obtain ⟨K, HK⟩ : ∃ K, Hid (F m j = K) := ⟨_, Lib.hid rfl⟩
                  obtain ⟨x5, HX5⟩ : ∃ x5, Hid (l j = x5) := ⟨_, Lib.hid rfl⟩
                  rw [HK.out] at r3 HFJ
                  rw [HX5.out] at HFJ
                  have HR3 := Lib.hid r3
                  have y1 := HR1.out _ (HNQ.out.trans HQ.out.nw)
                  clear r3
                  have V1 : Hid True := Lib.hid trivial
                  have V2 : Hid True := Lib.hid trivial
                  have V3 : Hid True := Lib.hid trivial
                  go_wp2_with (first
                    | (clear V1; refine wpList_load_mid rfl 39 (.tmp 139) rfl b3 o3 rfl (srcK K) _ (HR3.out _ (HNQ.out.trans HQ.out.nw)) Tryz.underlying39 rfl infoSr ?_)
                    | (clear V2; refine wpList_alB rfl 39 rfl _ zeroSr_run _ rfl HQ.out ?_; intro wB g15 hs; replace HQ := Lib.hid hs; clear hs)
                    | (clear V3; refine wpList_stSW 0 rfl rfl 39 (.tmp 15) (.tmp 140) rfl g15 rfl _ rfl HQ.out rfl (srcK K) rfl rfl (srcK_one _) infoSr ?_; intro wC hs; replace HQ := Lib.hid hs; clear hs y1))
                  have cw : HasS wC g10 l s (k : Int) q := HasC.new (HT.out.has 0 rfl) HQ.out.nw
                  have ci := cw.is hj24
                  have cu := cw.num hj24
                  have cr := cw.word hj24
                  rw [HX5.out] at ci cu cr
                  simp only [Act.put, List.setIfInBounds_toArray, List.set_cons_zero, List.set_cons_succ]
                  obtain ⟨ka, kv⟩ := K
                  have x0 := HQ.out.cell 0 rfl (k := 0) rfl
                  have x1 := HQ.out.cell 0 rfl (k := 1) rfl
                  have V1 : ∀ z : NewW wC, z.val.cell? ⟨g15, 0, none⟩ = some (.int .i64 ka) := fun z => z.property.cell' x0
                  have V2 : ∀ z : NewW wC, z.val.cell? ⟨g15, 1, none⟩ = some (.int .i64 kv) := fun z => z.property.cell' x1
                  have HCR : Hid (∀ w', (∃ z : NewW wC, w' = z.val) → w'.rangeAt g10 (j * 2) (wcells x5)) := Lib.hid (fun w' ⟨z, e⟩ => by
                    rw [e, Nat.mul_comm]
                    exact fun i v hv => z.property.cell' (cr i v hv))
                  have V3 : ∀ z : NewW wC, z.val.cell? ⟨g10, j * 2, none⟩ = some (.bool x5.1) := fun z => z.property.cell' ci
                  have HFW2 := HFJ.out
                  clear cw ci cu cr x0 x1
                  by_cases k2 : ka = 2
                  · subst k2
                    have e5 : x5 = (true, kv) := HFW2.1 rfl
                    subst e5
                    have hq := neq_w true kv
                    clear V3 HFW2
                    go_wp2_with fail
                    have hne := newW_any wC
                    refine wp_region_new (New.refl wC) (by kernel_rfl) (by kernel_rfl) ?_
                    repeat (go_big_quiet_step (fail))
                    refine wpQuiet_ldW2 rfl (.tmp 147) rfl g10 (j * 2) rfl (x := (true, kv)) HCR.out ?_
                    simp only [Act.put, List.setIfInBounds_toArray, List.set_cons_zero, List.set_cons_succ]
                    repeat (go_big_quiet_step (fail))
                    refine wpQuiet_nil ?_
                    intro wD hnD
                    go_wp2_with fail
                    go_roundw
                    case rel => exact ⟨j + 1, by go_num, by omega, Lib.hid (HQ.out.drop.go hnD)⟩
                    case measure => simp [intOf]; omega
                  · have q2 : (ka == 2) = false := bneq_of k2
                    by_cases k0 : ka = 0
                    · subst k0
                      have e5 : x5.1 = false := HFW2.2 rfl
                      rw [e5] at V3
                      clear HFW2 k2 q2
                      go_wp2_with fail
                      have hne := newW_any wC
                      refine wp_region_new (New.refl wC) (by kernel_rfl) (by kernel_rfl) ?_
                      repeat (go_big_quiet_step (fail))
                      refine wpQuiet_nil ?_
                      intro wD hnD
                      go_wp2_with fail
                      go_roundw
                      case rel => exact ⟨j + 1, by go_num, by omega, Lib.hid (HQ.out.drop.go hnD)⟩
                      case measure => simp [intOf]; omega
                    · have q3 : (ka == 0) = false := bneq_of k0
                      clear HFW2 k2 k0
                      go_wp2_with fail
                      have hne := newW_any wC
                      refine wp_region_new (New.refl wC) (by kernel_rfl) (by kernel_rfl) ?_
                      repeat (go_big_quiet_step (fail))
                      refine wpQuiet_nil ?_
                      intro wD hnD
                      go_wp2_with fail
                      go_roundw
                      case rel => exact ⟨j + 1, by go_num, by omega, Lib.hid (HQ.out.drop.go hnD)⟩
                      case measure => simp [intOf]; omega
                · go_wp2_with fail
                  go_roundw
                  case rel => exact ⟨m + 1, true, rfl, by go_num, by omega, HMB2, Lib.hid (HT.out.go HQ.out.nw)⟩
                  case measure => simp [intOf]; omega
            · have q0 : (y.1 == (k : Int)) = false := bneq_of hyp
              have q1 : (y.1 != (k : Int)) = true := bne_iff_ne.mpr hyp
              have HMB2 := Lib.hid (met_no HMB.out HY.out hyp)
              clear hyp
              go_wp2_with fail
              have hne := newW_any wr
              refine wp_region_new (New.refl wr) (by kernel_rfl) (by kernel_rfl) ?_
              repeat (go_big_quiet_step (fail))
              refine wpQuiet_nil ?_
              intro w6 hn6
              go_wp2_with fail
              go_roundw
              case rel => exact ⟨m + 1, b, rfl, by go_num, by omega, HMB2, Lib.hid (HT.out.go hn6)⟩
              case measure => simp [intOf]; omega
          · have HMT : Hid (b = true) := Lib.hid (by
              refine HMB.out.mpr ?_
              rcases tells_met (M := ⟨l, z, (k : Int), q⟩) HTS.out with h1 | ⟨y, h1, h2⟩
              · exact .inl (by rw [← HXM.out]; exact h1)
              · rw [HSK.out] at h1
                exact .inr ⟨y, by rw [List.take_of_length_le (by rw [HNN.out]; omega)]; exact h1, h2⟩)
            obtain rfl := HMT.out
            obtain ⟨⟨⟨l2, z2, p2, q2⟩, es, how, val, oh⟩, HSP⟩ : ∃ r, Hid (stp f ⟨l, z, (k : Int), q⟩ az = r) := ⟨_, Lib.hid rfl⟩
            rw [HSP.out] at HTC HNX HST
            obtain ⟨bit, hbit⟩ : ∃ bit, c[k]? = some bit := ⟨_, List.getElem?_eq_getElem (by rw [HCL.out]; exact hkn)⟩
            have hgd : c.getD k false = bit := by rw [List.getD_eq_getElem?_getD, hbit]; rfl
            have HBT := Lib.hid hbit
            have HCT : Hid (bit = true → how = 2) := Lib.hid fun hb => HTC.out (HMV.out k hkn (by rw [hgd]; exact hb)) (by
              show ctA c (k : Int) = true
              unfold ctA
              rw [decide_eq_true (show (k : Int) < (c.length : Int) by rw [HCL.out]; omega), Int.toNat_natCast, hgd, hb]
              rfl)
            have i5 := fun w => ixRow (P := Tryz.prog) Tryz.underlying23 sizeBo bc k fn fn hkn w
            have ca := HT.out.cell 6 rfl (k := 9) rfl
            have hal5 : az.length ≤ 100000 := by have := HAL.out; omega
            clear hbit hgd
            by_cases h0 : how = 0
            · subst h0
              have hbf : bit = false := by
                cases bit with
                | false => rfl
                | true => exact absurd (HCT.out rfl) (by decide)
              subst hbf
              have V1 : Hid True := Lib.hid trivial
              have V2 : Hid True := Lib.hid trivial
              have V3 : Hid True := Lib.hid trivial
              have V4 : Hid True := Lib.hid trivial
              have V5 : Hid True := Lib.hid trivial
              have V6 : Hid True := Lib.hid trivial
              have V7 : Hid True := Lib.hid trivial
              have V8 : Hid True := Lib.hid trivial
              go_wp2_with (first
                | (clear V1; refine wpList_ldAG rfl 75 (.tmp 10) rfl g10 0 rfl (cellsS l s (k : Int) q) _ (HasC.all (HT.out.has 0 rfl)) Tryz.underlying75 rfl (by rw [cellsS_len]; exact infoSt) ?_)
                | (clear V2; go_at_call 27; refine (stepDo_fr HL.out HT.out.nw (HF.out.new HT.out.nw) (hpA_rd (HT.out.rd 1 rfl)) (HA.out.new HT.out.nw) hal5 HMR.out HSP.out).mono ?_; rintro e wS ⟨s', ve, so, rfl, h1, _, _, hnw, f1, _, _⟩; replace HT := Lib.hid (HT.out.hp hnw h1 f1); clear h1 hnw f1 ca cn)
                | (clear V3; refine wpList_alB rfl 75 rfl _ zeroS_run _ rfl HT.out ?_; intro wT g16 hs; replace HT := Lib.hid hs; clear hs)
                | (clear V4; refine wpList_alB rfl 85 rfl _ zeroO_run _ rfl HT.out ?_; intro wU g18 hs; replace HT := Lib.hid hs; clear hs)
                | (clear V5; refine wpList_stSW 1 rfl rfl 75 (.tmp 16) (.tmp 172) rfl g16 rfl _ rfl HT.out rfl (cellsS l2 s' p2 q2) rfl (by rw [cellsS_len, cellsS_len]) (cellsS_one _ _ _ _) (by rw [cellsS_len]; exact infoSt) ?_; intro wV hs; replace HT := Lib.hid hs; clear hs)
                | (clear V6; refine wpList_stSW 0 rfl rfl 85 (.tmp 18) (.tmp 174) rfl g18 rfl _ rfl HT.out rfl (outC 0 val so) rfl rfl (by simp [outC, Value.oneCell']) infoOut ?_; intro wX hs; replace HT := Lib.hid hs; clear hs; have ch := HT.out.cell 0 rfl (k := 0) rfl; have c49 := HT.out.cell 3 rfl (cellsS_tail l s (k : Int) q 1); have cb := leaf_at (HT.out.rd 8 rfl) HBT.out _ (New.refl _) 0 _ rfl; rw [Nat.add_zero, Nat.mul_one] at cb)
                | (clear V7; refine wpList_load_mid rfl 75 (.tmp 16) rfl g16 0 rfl (cellsS l2 s' p2 q2) _ (HasC.all (HT.out.has 1 rfl)) Tryz.underlying75 rfl (by rw [cellsS_len]; exact infoSt) ?_)
                | (clear V8; refine wpList_stSW 3 rfl rfl 75 (.tmp 10) (.tmp 198) rfl g10 rfl _ rfl HT.out rfl (cellsS l2 s' p2 q2) rfl (by rw [cellsS_len, cellsS_len]) (cellsS_one _ _ _ _) (by rw [cellsS_len]; exact infoSt) ?_; intro wY hs; replace HT := Lib.hid hs; clear hs))
              have HS1 : Hid (stA f az (begM rs zs) (t + 1) = ⟨l2, z2, p2, q2⟩) := HST
              have HV := Lib.hid (Sep.dropAt 2 (HT.out.drop.drop.pull 1 rfl) (by simp))
              go_roundw
              case rel => exact ⟨t + 1, s', by go_num, by omega, Lib.hid (HNX.out (by simp)), by rw [HS1.out]; exact HV⟩
              case measure => simp [intOf]; omega
            · have q0 : (how == 0) = false := bneq_of h0
              cases bit with
              | false =>
                have V1 : Hid True := Lib.hid trivial
                have V2 : Hid True := Lib.hid trivial
                have V3 : Hid True := Lib.hid trivial
                have V4 : Hid True := Lib.hid trivial
                have V5 : Hid True := Lib.hid trivial
                have V6 : Hid True := Lib.hid trivial
                have V7 : Hid True := Lib.hid trivial
                go_wp2_with (first
                  | (clear V1; refine wpList_ldAG rfl 75 (.tmp 10) rfl g10 0 rfl (cellsS l s (k : Int) q) _ (HasC.all (HT.out.has 0 rfl)) Tryz.underlying75 rfl (by rw [cellsS_len]; exact infoSt) ?_)
                  | (clear V2; go_at_call 27; refine (stepDo_fr HL.out HT.out.nw (HF.out.new HT.out.nw) (hpA_rd (HT.out.rd 1 rfl)) (HA.out.new HT.out.nw) hal5 HMR.out HSP.out).mono ?_; rintro e wS ⟨s', ve, so, rfl, h1, _, _, hnw, f1, _, _⟩; replace HT := Lib.hid (HT.out.hp hnw h1 f1); clear h1 hnw f1 ca cn)
                  | (clear V3; refine wpList_alB rfl 75 rfl _ zeroS_run _ rfl HT.out ?_; intro wT g16 hs; replace HT := Lib.hid hs; clear hs)
                  | (clear V4; refine wpList_alB rfl 85 rfl _ zeroO_run _ rfl HT.out ?_; intro wU g18 hs; replace HT := Lib.hid hs; clear hs)
                  | (clear V5; refine wpList_stSW 1 rfl rfl 75 (.tmp 16) (.tmp 172) rfl g16 rfl _ rfl HT.out rfl (cellsS l2 s' p2 q2) rfl (by rw [cellsS_len, cellsS_len]) (cellsS_one _ _ _ _) (by rw [cellsS_len]; exact infoSt) ?_; intro wV hs; replace HT := Lib.hid hs; clear hs)
                  | (clear V6; refine wpList_stSW 0 rfl rfl 85 (.tmp 18) (.tmp 174) rfl g18 rfl _ rfl HT.out rfl (outC how val so) rfl rfl (by simp [outC, Value.oneCell']) infoOut ?_; intro wX hs; replace HT := Lib.hid hs; clear hs; have ch := HT.out.cell 0 rfl (k := 0) rfl; have c49 := HT.out.cell 3 rfl (cellsS_tail l s (k : Int) q 1); have cb := leaf_at (HT.out.rd 8 rfl) HBT.out _ (New.refl _) 0 _ rfl; rw [Nat.add_zero, Nat.mul_one] at cb)
                  | (clear V7; go_at_call 11; refine (knows_from11 _ HL.out HT.out.nw).mono ?_; rintro e wk ⟨rfl, hnk⟩))
                go_ret
                exact ⟨rfl, hnk⟩
              | true =>
                have hw2 : how = 2 := HCT.out rfl
                subst hw2
                have V1 : Hid True := Lib.hid trivial
                have V2 : Hid True := Lib.hid trivial
                have V3 : Hid True := Lib.hid trivial
                have V4 : Hid True := Lib.hid trivial
                have V5 : Hid True := Lib.hid trivial
                have V6 : Hid True := Lib.hid trivial
                have V7 : Hid True := Lib.hid trivial
                go_wp2_with (first
                  | (clear V1; refine wpList_ldAG rfl 75 (.tmp 10) rfl g10 0 rfl (cellsS l s (k : Int) q) _ (HasC.all (HT.out.has 0 rfl)) Tryz.underlying75 rfl (by rw [cellsS_len]; exact infoSt) ?_)
                  | (clear V2; go_at_call 27; refine (stepDo_fr HL.out HT.out.nw (HF.out.new HT.out.nw) (hpA_rd (HT.out.rd 1 rfl)) (HA.out.new HT.out.nw) hal5 HMR.out HSP.out).mono ?_; rintro e wS ⟨s', ve, so, rfl, h1, _, _, hnw, f1, _, _⟩; replace HT := Lib.hid (HT.out.hp hnw h1 f1); clear h1 hnw f1 ca cn)
                  | (clear V3; refine wpList_alB rfl 75 rfl _ zeroS_run _ rfl HT.out ?_; intro wT g16 hs; replace HT := Lib.hid hs; clear hs)
                  | (clear V4; refine wpList_alB rfl 85 rfl _ zeroO_run _ rfl HT.out ?_; intro wU g18 hs; replace HT := Lib.hid hs; clear hs)
                  | (clear V5; refine wpList_stSW 1 rfl rfl 75 (.tmp 16) (.tmp 172) rfl g16 rfl _ rfl HT.out rfl (cellsS l2 s' p2 q2) rfl (by rw [cellsS_len, cellsS_len]) (cellsS_one _ _ _ _) (by rw [cellsS_len]; exact infoSt) ?_; intro wV hs; replace HT := Lib.hid hs; clear hs)
                  | (clear V6; refine wpList_stSW 0 rfl rfl 85 (.tmp 18) (.tmp 174) rfl g18 rfl _ rfl HT.out rfl (outC 2 val so) rfl rfl (by simp [outC, Value.oneCell']) infoOut ?_; intro wX hs; replace HT := Lib.hid hs; clear hs; have ch := HT.out.cell 0 rfl (k := 0) rfl; have c49 := HT.out.cell 3 rfl (cellsS_tail l s (k : Int) q 1); have cb := leaf_at (HT.out.rd 8 rfl) HBT.out _ (New.refl _) 0 _ rfl; rw [Nat.add_zero, Nat.mul_one] at cb)
                  | (clear V7; go_at_call 11; refine (knows_from11 _ HL.out HT.out.nw).mono ?_; rintro e wk ⟨rfl, hnk⟩))
                go_ret
                exact ⟨rfl, hnk⟩
      · go_wp2_with (go_at_call 11; refine (knows_from11 _ HL.out HT.out.nw).mono ?_; rintro e wk ⟨rfl, hnk⟩)
        go_ret
        exact ⟨rfl, hnk⟩
end Go.Proofs.YtphopkjgfkaihaaGreatDoor
