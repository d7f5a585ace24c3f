/-
  The examples at the end of layer 10's laws ('knows'): true.
-/
import Derived.Test.YtlmnodbhfpgplaaGreatDoorSkelWays
import Derived.Test.YtlmnodbhfpgplaaGreatDoorAsmAll
namespace Go.Proofs.YtlmnodbhfpgplaaGreatDoor
open Go.RowKit

theorem row_none (w : World) : RowAt w (.slice none 0 0) (([] : List Bool).map .bool) := ⟨none, 0, rfl, fun _ hi => absurd hi (Nat.not_lt_zero _)⟩
theorem row_two (w : World) (a b : Bool) (T : TypeId) : RowAt (w.alloc (.cells #[.bool a, .bool b] T)) (.slice (some ⟨w.heap.size, 0, none⟩) 2 2) ([a, b].map .bool) := by
  have h := HasC.box w T [.bool a, .bool b]
  refine ⟨some ⟨w.heap.size, 0, none⟩, 2, rfl, fun i hi => ⟨w.heap.size, 0, rfl, ?_⟩⟩
  rw [Nat.zero_add]
  exact h.cell (List.getElem?_eq_getElem hi)
theorem wpList_ldAG {ops : Array Oper} {rest : List Oper} {op : Oper} {act : Act} {w : World} {Q : Exit → Act → World → Prop} (hw : Region.wanted op (yielded ops act.tmps) = true) (ty : TypeId) (x : Operand) (ho : op.op = .load ty x) (b o : Nat) (hx : act.eval x = .pointer (some ⟨b, o, none⟩)) (cs : List Value) (d : TypeDesc) (hc : w.rangeAt b o cs)
    (hu : Tryz.prog.underlying ty = some d) (hd : d.isRow = true) (hi : (Tryz.prog.info? ty).map (·.size) = some cs.length) (h : wpList Tryz.prog ops Q rest (act.put op.dst (.agg cs.toArray)) w) : wpList Tryz.prog ops Q (op :: rest) act w := by
  unfold wpList
  rw [if_pos hw]
  exact .inl (wp_load_mid ty x ho b o hx cs d hc hu hd hi h)
theorem node_rd {x : Int × List Wyo} {c : List Value} {w : World} (h : (nodeE x c).rd w) : ∃ v, c = nodeC x.1 v ∧ (outsA v x.2).rd w := by
  obtain ⟨F, ⟨v, F1, F2, h1, h2, _, _, h3⟩, h4⟩ := h
  exact ⟨v, h1, F2, h2, fun g hg => h4 g (h3 g hg)⟩
theorem es_rd {es : List Ed} {c : List Value} {w : World} (h : (esE es c).rd w) : ∃ v, c = [v] ∧ (edgesO v es).rd w := by
  obtain ⟨F, ⟨v, F1, F2, h1, h2, _, _, h3⟩, h4⟩ := h
  exact ⟨v, h1, F2, h2, fun g hg => h4 g (h3 g hg)⟩
theorem sizeEd : ∀ w, (sizeOf 99).run Tryz.prog w = .ok 2 w := Tryz.sizeOf99
theorem eqIn_ed (d : Nat) (x y : Int) (w : World) : (Op.equalIn (d + 2) 99 (.agg #[.int .i64 x, .int .i64 y]) (.agg #[.int .i64 x, .int .i64 y])).run Tryz.prog w = .ok true w := by
  have hS : Tryz.prog.underlying 99 = some (.struct (Tryz.prog.fieldsOf 99)) := by kernel_rfl
  rw [run_equalIn_agg w (d + 1) 99 _ _ hS (by kernel_rfl)]
  simp only [Program.fieldsOf, Tryz.underlying99]
  have u3 := Tryz.underlying3
  have a3 := Tryz.isAgg3
  go_simp
theorem eql_ed (x y : Int) (w : World) : (binOp .eql 99 (.agg #[.int .i64 x, .int .i64 y]) (.agg #[.int .i64 x, .int .i64 y])).run Tryz.prog w = .ok (.bool true) w := by
  rw [run_eql_struct, show (10000 : Nat) = 9998 + 2 from rfl, eqIn_ed 9998 _ _ w]
  simp
theorem neq_ed (x y : Int) (w : World) : (binOp .neq 99 (.agg #[.int .i64 x, .int .i64 y]) (.agg #[.int .i64 x, .int .i64 y])).run Tryz.prog w = .ok (.bool false) w := by
  rw [run_neq_struct, show (10000 : Nat) = 9998 + 2 from rfl, eqIn_ed 9998 _ _ w]
  simp
def kS : List I := [⟨2, 1, 0, 0, 0, 0⟩, ⟨17, 0, 1, 0, 0, 0⟩, ⟨18, 0, 1, 0, 0, 0⟩]
theorem kS_in : ∀ x ∈ kS, In64I x := by
  intro x hx
  simp only [kS, List.mem_cons, List.not_mem_nil, or_false] at hx
  rcases hx with rfl | rfl | rfl <;> (unfold In64I In64; simp)
def kST : List UInt8 := [109, 111, 118, 32, 114, 49, 32, 114, 48, 10, 122, 101, 114, 111, 32, 114, 49, 32, 48, 10, 114, 101, 116, 32, 114, 49, 10]
theorem kS_right : (chkF kS).2 = 0 := by decide +kernel
theorem kS_text : prtF kS = kST := by decide +kernel
theorem kS_1 : prsF kST = (kS, 0, 0) := by rw [← kS_text]; exact prs_prtF kS_in kS_right
theorem kS_len : (sklA kS []).nodes.length = 2 := by decide +kernel
theorem kS_nds : ∃ x, (sklA kS []).nodes[0]? = some x ∧ x.1 = 1 ∧ x.2.length = 2 ∧ ∃ z, x.2[0]? = some z ∧ z.1 = 0 := by
  have h1 : (sklA kS []).nodes[0]?.map (·.1) = some 1 := by decide +kernel
  have h2 : (sklA kS []).nodes[0]?.map (fun x => x.2.map (·.1)) = some [0, 1] := by decide +kernel
  cases e : (sklA kS []).nodes[0]? with
  | none => rw [e] at h1; cases h1
  | some x =>
    rw [e] at h1 h2
    have h3 : x.2.map (·.1) = [0, 1] := by simpa using h2
    have h4 : (x.2.map (·.1))[0]? = some 0 := by rw [h3]; rfl
    rw [List.getElem?_map] at h4
    exact ⟨x, rfl, by simpa using h1, by rw [← List.length_map (f := (·.1)), h3]; rfl, Option.map_eq_some_iff.mp h4⟩
theorem kS_outs : ∀ x ∈ (sklA kS []).nodes, x.2.length ≤ 10 := by
  have h : ((sklA kS []).nodes.map fun x => x.2.length) = [2, 0] := by decide +kernel
  intro x hx
  have := List.mem_map_of_mem (f := fun x : Int × List Wyo => x.2.length) hx
  rw [h] at this
  simp only [List.mem_cons, List.not_mem_nil, or_false] at this
  omega
theorem kS_ways : edTab 2 (edgesA (sklA kS [])) = [[(-1, 0), (0, 0)], [(0, 1)]] := by decide +kernel
theorem kS_cut : (sklA kS [false, true]).nodes.length = 1 := by decide +kernel
set_option maxHeartbeats 16000000 in
set_option maxRecDepth 100000 in
theorem knows_any (w : World) (hl : Laid w) : Calls Tryz.prog 14 #[] w fun e w' => e = .returned (.bool true) ∧ New w w' := by
  have p1 : ∀ w, Laid w → Calls Tryz.prog 20 #[.string ⟨#[109, 111, 118, 32, 114, 49, 32, 114, 48, 10, 122, 101, 114, 111, 32, 114, 49, 32, 48, 10, 114, 101, 116, 32, 114, 49, 10]⟩] w fun e w' => ∃ ao cap, e = .returned (.tuple #[.slice ao 3 cap, .int .i64 0, .int .i64 0]) ∧ FunAt w' (.slice ao 3 cap) kS ∧ New w w' := fun w hl =>
    (asmParse_any ⟨kST.toArray⟩ w hl).mono fun e w' ⟨v, he, hf, hn⟩ => by
      rw [arr_list, kS_1] at he hf
      obtain ⟨ao, cap, rfl⟩ := hf.form
      exact ⟨ao, cap, he, hf, hn⟩
  have P1 := Lib.hid p1
  have HL := Lib.hid hl
  obtain ⟨s1, HS1⟩ : ∃ s1, Hid (sklA kS [] = s1) := ⟨_, Lib.hid rfl⟩
  obtain ⟨s2, HS2⟩ : ∃ s2, Hid (sklA kS [false, true] = s2) := ⟨_, Lib.hid rfl⟩
  have HK1 : Hid (s1.nodes.length = 2) := Lib.hid (by rw [← HS1.out]; exact kS_len)
  have HK2' : Hid (∃ x, s1.nodes[0]? = some x ∧ x.1 = 1 ∧ x.2.length = 2 ∧ ∃ z, x.2[0]? = some z ∧ z.1 = 0) := Lib.hid (by rw [← HS1.out]; exact kS_nds)
  have HK3 : Hid (∀ x ∈ s1.nodes, x.2.length ≤ 10) := Lib.hid (by rw [← HS1.out]; exact kS_outs)
  have HK4 : Hid (edTab s1.nodes.length (edgesA s1) = [[(-1, 0), (0, 0)], [(0, 1)]]) := Lib.hid (by rw [HK1.out, ← HS1.out]; exact kS_ways)
  have HK5 : Hid (s2.nodes.length = 1) := Lib.hid (by rw [← HS2.out]; exact kS_cut)
  have T1 : Hid True := Lib.hid trivial
  have T2 : Hid True := Lib.hid trivial
  have T3 : Hid True := Lib.hid trivial
  have T4 : Hid True := Lib.hid trivial
  have T5 : Hid True := Lib.hid trivial
  have T6 : Hid True := Lib.hid trivial
  have T7 : Hid True := Lib.hid trivial
  have T8 : Hid True := Lib.hid trivial
  have T9 : Hid True := Lib.hid trivial
  have T10 : Hid True := Lib.hid trivial
  clear p1 hl
  go_enter Tryz.func14, Tryz.ntmps14
  go_wp2_with (first
    | (clear T1; go_at_call 20; refine (P1.out _ HL.out).mono ?_; rintro e w1 ⟨ao, cap, rfl, hf, hn⟩; have HF := Lib.hid hf; have HS := Lib.hid (Sep.start w1); have N1 := Lib.hid hn; clear hf hn)
    | (clear T2; go_at_call 15; refine (build_in ao 3 cap kS none 0 0 [] _ (HL.out.new N1.out) HF.out (row_none _) kS_right).mono ?_; rw [HS1.out]; rintro e w2 ⟨vs, rfl, hs⟩; obtain ⟨na, nc, hv⟩ := rowA_form hs.hd; rw [HK1.out] at hv; subst hv; replace HS := Lib.hid (HS.out.call hs); clear hs)
    | (clear T3; refine wpList_alB rfl 61 rfl _ zeroSk_run _ rfl HS.out ?_; intro w3 g4 hs; replace HS := Lib.hid hs; clear hs)
    | (clear T4; refine wpList_stSW 0 rfl rfl 61 (.tmp 4) (.tmp 17) rfl g4 rfl _ rfl HS.out rfl (skC s1.entry (.slice na 2 nc)) rfl (by rw [skC_len, skC_len]) (skC_one _ rfl) (by rw [skC_len]; exact infoSk) ?_; intro w4 hs; replace HS := Lib.hid hs; clear hs)
    | (clear T5; refine wpList_load_mid rfl 61 (.tmp 4) rfl g4 0 rfl (skC s1.entry (.slice na 2 nc)) _ (HasC.all (HS.out.has 0 rfl)) Tryz.underlying61 rfl (by rw [skC_len]; exact infoSk) ?_)
    | (clear T6; go_at_call 33; refine (ways_any s1 (.slice na 2 nc) _ (HS.out.rd 1 rfl) (by rw [HK1.out]; decide) HK3.out).mono ?_; rw [HK4.out]; rintro e w5 ⟨vw, rfl, hs⟩; obtain ⟨wa, wc, hv⟩ := rowA_form hs.hd; rw [show ([[(-1, 0), (0, 0)], [(0, 1)]] : List (List Ed)).length = 2 from rfl] at hv; subst hv; replace HS := Lib.hid (HS.out.call hs); clear hs)
    | (clear T7; go_at_call 15; refine (build_in ao 3 cap kS (some ⟨w5.heap.size, 0, none⟩) 2 2 [false, true] _ (HL.out.new ((N1.out.trans HS.out.nw).trans (alloc_new _ _))) (HF.out.new (HS.out.nw.trans (alloc_new _ _))) (row_two w5 false true 4) kS_right).mono ?_; rw [HS2.out]; rintro e w6 ⟨vc, rfl, hs⟩; obtain ⟨ca, cc, hv⟩ := rowA_form hs.hd; rw [HK5.out] at hv; subst hv; replace HS := Lib.hid ((HS.out.go (alloc_new _ _)).call hs); clear hs)
    | (clear T8; refine wpList_alB rfl 61 rfl _ zeroSk_run _ rfl HS.out ?_; intro w7 g7 hs; replace HS := Lib.hid hs; clear hs)
    | (clear T9; refine wpList_stSW 0 rfl rfl 61 (.tmp 7) (.tmp 25) rfl g7 rfl _ rfl HS.out rfl (skC s2.entry (.slice ca 1 cc)) rfl (by rw [skC_len, skC_len]) (skC_one _ rfl) (by rw [skC_len]; exact infoSk) ?_; intro w8 hs; replace HS := Lib.hid hs; clear hs; have x4 := HS.out.cell 3 rfl (skC_nd _ _); have x7 := HS.out.cell 0 rfl (skC_nd _ _); obtain ⟨x, hx, hx1, hx2, z, hz, hz1⟩ := HK2'.out; obtain ⟨b0, o0, c, _, i0, r0, hE⟩ := rowA_ix (P := Tryz.prog) (HS.out.rd 4 rfl) 59 Tryz.underlying59 sizeNd hx; obtain ⟨vo, hc, hro⟩ := node_rd hE; subst hc; have y0 := r0 _ (New.refl _) 0 _ rfl; have y1 := r0 _ (New.refl _) 1 _ rfl; rw [Nat.add_zero, hx1] at y0; obtain ⟨oa, oc, hv⟩ := rowA_form hro; rw [hx2] at hv; subst hv; obtain ⟨b1, o1, i1, r1⟩ := leaf_ix (P := Tryz.prog) hro 94 Tryz.underlying94 sizeOt hz; have z0 := r1 _ (New.refl _) 0 _ rfl; rw [Nat.add_zero, hz1] at z0; obtain ⟨b2, o2, c2, _, i2, r2, hE2⟩ := rowA_ix (P := Tryz.prog) (HS.out.rd 2 rfl) 92 Tryz.underlying92 sizeEs (i := 0) rfl; obtain ⟨ve, hc2, hre⟩ := es_rd hE2; subst hc2; have v0 := r2 _ (New.refl _) 0 _ rfl; rw [Nat.add_zero] at v0; obtain ⟨ea, ec, hv⟩ := rowA_form hre; replace hv : ve = .slice ea 2 ec := hv; subst hv; obtain ⟨b3, o3, i3, r3⟩ := leaf_ix (P := Tryz.prog) hre 97 Tryz.underlying97 sizeEd (i := 0) rfl; have u3 := Tryz.underlying3; have a3 := Tryz.isAgg3; replace i0 : ∀ w', (Instr.indexAt 59 _ (.int .i64 0)).run Tryz.prog w' = .ok _ w' := i0; replace i1 : ∀ w', (Instr.indexAt 94 _ (.int .i64 0)).run Tryz.prog w' = .ok _ w' := i1; replace i2 : ∀ w', (Instr.indexAt 92 _ (.int .i64 0)).run Tryz.prog w' = .ok _ w' := i2; replace i3 : ∀ w', (Instr.indexAt 97 _ (.int .i64 0)).run Tryz.prog w' = .ok _ w' := i3; clear hx hx1 hx2 hz hz1 hE hro r0 r1 r2 hE2 hre)
    | (clear T10; refine wpList_ldAG rfl 99 (.tmp 83) rfl b3 o3 rfl [.int .i64 (-1), .int .i64 0] _ (r3 _ (New.refl _)) Tryz.underlying99 rfl infoEd2 ?_))
  go_ret
  exact ⟨rfl, N1.out.trans HS.out.nw⟩
theorem knows_from {w0 : World} (w : World) (hl : Laid w0) (h : New w0 w) : Calls Tryz.prog 14 #[] w fun e w' => e = .returned (.bool true) ∧ New w0 w' :=
  (knows_any w (hl.new h)).mono fun _ _ ⟨he, hw⟩ => ⟨he, h.trans hw⟩
end Go.Proofs.YtlmnodbhfpgplaaGreatDoor
