/-
  The examples at the end of layer 11's laws, in plain words: what their facts and their cut places are. No program stands in this text.
  The examples at the end of layer 11's laws ('knows'): true.
-/
import Derived.Test.YtphopkjgfkaihaaGreatDoorValuePlain
import Derived.Test.YtphopkjgfkaihaaGreatDoorAsmAll
import Derived.Test.YtphopkjgfkaihaaGreatDoorValuePub
namespace Go.Proofs.YtphopkjgfkaihaaGreatDoor
open Go.RowKit

def kV : List I := [⟨1, 1, 0, 0, 5, 0⟩, ⟨15, 2, 0, 0, 1, 0⟩, ⟨4, 3, 1, 2, 0, 0⟩, ⟨18, 0, 3, 0, 0, 0⟩]
def kG : List I := [⟨2, 1, 8, 0, 0, 0⟩, ⟨18, 0, 1, 0, 0, 0⟩]
theorem kV_in : ∀ x ∈ kV, In64I x := by
  intro x hx
  simp only [kV, List.mem_cons, List.not_mem_nil, or_false] at hx
  rcases hx with rfl | rfl | rfl | rfl <;> (unfold In64I In64; simp)
theorem kG_in : ∀ x ∈ kG, In64I x := by
  intro x hx
  simp only [kG, List.mem_cons, List.not_mem_nil, or_false] at hx
  rcases hx with rfl | rfl <;> (unfold In64I In64; simp)
def kVT : List UInt8 := [99, 111, 110, 115, 116, 32, 114, 49, 32, 53, 10, 99, 97, 108, 108, 32, 114, 50, 32, 114, 48, 32, 49, 10, 97, 100, 100, 32, 114, 51, 32, 114, 49, 32, 114, 50, 10, 114, 101, 116, 32, 114, 51, 10]
def kGT : List UInt8 := [109, 111, 118, 32, 114, 49, 32, 115, 48, 10, 114, 101, 116, 32, 114, 49, 10]
theorem kV_right : (chkF kV).2 = 0 := by decide +kernel
theorem kG_right : (chkF kG).2 = 0 := by decide +kernel
theorem kV_text : prtF kV = kVT := by decide +kernel
theorem kG_text : prtF kG = kGT := by decide +kernel
theorem kV_1 : prsF kVT = (kV, 0, 0) := by rw [← kV_text]; exact prs_prtF kV_in kV_right
theorem kG_1 : prsF kGT = (kG, 0, 0) := by rw [← kG_text]; exact prs_prtF kG_in kG_right
theorem kV_len : (sklA kV []).nodes.length = 3 := by decide +kernel
theorem kV_e0 : edgesA (sklA kV []) 0 = [(-1, 0)] := by decide +kernel
theorem kV_e1 : edgesA (sklA kV []) 1 = [(0, 0)] := by decide +kernel
theorem kV_b0 : byA kV (sklA kV []) (-1, 0) 1 = (2, 5) := by decide +kernel
theorem kV_b1 : byA kV (sklA kV []) (0, 0) 1 = (4, 1) := by decide +kernel
theorem kV_b2 : byA kV (sklA kV []) (0, 0) 2 = (3, 0) := by decide +kernel
theorem kV_11 : IsFact kV (sklA kV []) 1 1 (2, 5) := by
  refine .inl ⟨.inr rfl, gfp_of (Y := fun p => p = (1, 1) ∨ p = (0, 1)) ?_ (.inl rfl)⟩
  rintro p (rfl | rfl)
  · refine ⟨by rw [kV_len]; decide, by decide, fun e he => ?_⟩
    have he' : e ∈ edgesA (sklA kV []) 1 := he
    rw [kV_e1] at he'
    simp at he'
    subst he'
    show if (byA kV (sklA kV []) (0, 0) 1).1 = 4 then _ else _
    rw [kV_b1, if_pos rfl]
    exact .inr rfl
  · refine ⟨by rw [kV_len]; decide, by decide, fun e he => ?_⟩
    have he' : e ∈ edgesA (sklA kV []) 0 := he
    rw [kV_e0] at he'
    simp at he'
    subst he'
    show if (byA kV (sklA kV []) (-1, 0) 1).1 = 4 then _ else byA kV (sklA kV []) (-1, 0) 1 = _
    rw [kV_b0, if_neg (by decide)]
theorem kV_12 : IsFact kV (sklA kV []) 1 2 (4, 2) := by
  refine .inr ⟨rfl, fun c hc hh => ?_⟩
  have h := (fact_post hh).2.2 (0, 0) (by show ((0, 0) : Int × Int) ∈ edgesA (sklA kV []) 1; rw [kV_e1]; simp)
  rw [kV_b2, if_neg (by decide)] at h
  rw [← h] at hc
  rcases hc with hc | hc
  · cases hc
  · cases hc
theorem kV_has : ((0, 0) : Int × Int) ∈ edgesA (sklA kV []) 1 := by rw [kV_e1]; simp
theorem kG_n (a : Bool) : (nodesA kG [a, false]).length = 1 ∧ (nodesA kG [a, false]).getD 0 0 = 1 := by cases a <;> decide +kernel
theorem kG_e (a : Bool) : edgesA (sklA kG [a, false]) 0 = [(-1, 0)] := by cases a <;> decide +kernel
theorem kG_b (a : Bool) : byA kG (sklA kG [a, false]) (-1, 0) 1 = (0, 0) := by cases a <;> decide +kernel
theorem kG_u : (1 : Int) ∈ usesL (insA kG 1) := by decide +kernel
theorem kG_cut {c : List Bool} (h : IsCut kG c) : ∃ a, c = [a, true] := by
  obtain ⟨k, _, h1, h2⟩ := h
  have hl : c.length = 2 := h1
  obtain ⟨a, b, rfl⟩ : ∃ a b, c = [a, b] := by
    match c, hl with
    | [a, b], _ => exact ⟨a, b, rfl⟩
  cases b with
  | true => exact ⟨a, rfl⟩
  | false =>
    exfalso
    have hn := kG_n a
    have h3 := (h2 1 (by decide)).mpr (.inr ⟨0, 1, by rw [hn.1]; decide, by rw [hn.1]; decide, hn.2, kG_u, ?_⟩)
    · cases h3
    · refine gfp_of (Y := fun p => p = (0, 1)) ?_ rfl
      rintro p rfl
      refine ⟨by rw [skl_len, hn.1]; decide, by decide, fun e he => ?_⟩
      have he' : e ∈ edgesA (sklA kG [a, false]) 0 := he
      rw [kG_e a] at he'
      simp at he'
      subst he'
      show if (byA kG (sklA kG [a, false]) (-1, 0) 1).1 = 4 then _ else byA kG (sklA kG [a, false]) (-1, 0) 1 = _
      rw [kG_b a, if_neg (by decide)]
end Go.Proofs.YtphopkjgfkaihaaGreatDoor
namespace Go.Proofs.YtphopkjgfkaihaaGreatDoor
open Go.RowKit

theorem hE25 (w : World) : (binOp .eql 39 (.agg #[.int .i64 2, .int .i64 5]) (.agg #[.int .i64 2, .int .i64 5])).run Tryz.prog w = .ok (.bool true) w := eql_sr (2, 5) (2, 5) w
theorem hE42 (w : World) : (binOp .eql 39 (.agg #[.int .i64 4, .int .i64 2]) (.agg #[.int .i64 4, .int .i64 2])).run Tryz.prog w = .ok (.bool true) w := eql_sr (4, 2) (4, 2) w
theorem hE30 (w : World) : (binOp .eql 39 (.agg #[.int .i64 3, .int .i64 0]) (.agg #[.int .i64 3, .int .i64 0])).run Tryz.prog w = .ok (.bool true) w := eql_sr (3, 0) (3, 0) w
theorem build_Ed0 (w : World) : (Instr.build 42 #[(0, .int .i64 0)]).run Tryz.prog w = .ok (.agg #[.int .i64 0, .int .i64 0]) w := run_build w _ _ _ (by kernel_rfl)
set_option maxHeartbeats 16000000 in
set_option maxRecDepth 100000 in
theorem knows11_any (w : World) (hl : Laid w) : Calls Tryz.prog 11 #[] w fun e w' => e = .returned (.bool true) ∧ New w w' := by
  have p1 : ∀ w, Laid w → Calls Tryz.prog 30 #[.string ⟨#[99, 111, 110, 115, 116, 32, 114, 49, 32, 53, 10, 99, 97, 108, 108, 32, 114, 50, 32, 114, 48, 32, 49, 10, 97, 100, 100, 32, 114, 51, 32, 114, 49, 32, 114, 50, 10, 114, 101, 116, 32, 114, 51, 10]⟩] w fun e w' => ∃ ao cap, e = .returned (.tuple #[.slice ao 4 cap, .int .i64 0, .int .i64 0]) ∧ FunAt w' (.slice ao 4 cap) kV ∧ New w w' := fun w hl =>
    (asmParse_any ⟨kVT.toArray⟩ w hl).mono fun e w' ⟨v, he, hf, hn⟩ => by
      rw [arr_list, kV_1] at he hf
      obtain ⟨ao, cap, rfl⟩ := hf.form
      exact ⟨ao, cap, he, hf, hn⟩
  have p2 : ∀ w, Laid w → Calls Tryz.prog 30 #[.string ⟨#[109, 111, 118, 32, 114, 49, 32, 115, 48, 10, 114, 101, 116, 32, 114, 49, 10]⟩] w fun e w' => ∃ ao cap, e = .returned (.tuple #[.slice ao 2 cap, .int .i64 0, .int .i64 0]) ∧ FunAt w' (.slice ao 2 cap) kG ∧ New w w' := fun w hl =>
    (asmParse_any ⟨kGT.toArray⟩ w hl).mono fun e w' ⟨v, he, hf, hn⟩ => by
      rw [arr_list, kG_1] at he hf
      obtain ⟨ao, cap, rfl⟩ := hf.form
      exact ⟨ao, cap, he, hf, hn⟩
  have P1 := Lib.hid p1
  have P2 := Lib.hid p2
  have HL := Lib.hid hl
  obtain ⟨F, hF⟩ := fact_tab kV (sklA kV [])
  have hfc := fun (fv v : Value) (w : World) (h1 : Laid w) (h2 : FunAt w fv kV) (h3 : (nodesO v (sklA kV []).nodes).rd w) => facts_pub h1 h2 kV_right h3 hF
  have hby := fun (fv v : Value) (w : World) (h1 : Laid w) (h2 : FunAt w fv kV) (h3 : (nodesO v (sklA kV []).nodes).rd w) => by_pub (0, 0) 2 h1 h2 kV_right h3 (edge_has kV_has) (by decide)
  rw [kV_b2] at hby
  rw [kV_len] at hfc
  have HF11 : Hid (F 1 1 = (2, 5)) := Lib.hid (is_one kV_right (hF 1 1 (by rw [kV_len]; decide) (by decide)) kV_11)
  have HF12 : Hid (F 1 2 = (4, 2)) := Lib.hid (is_one kV_right (hF 1 2 (by rw [kV_len]; decide) (by decide)) kV_12)
  have hkl := kV_len
  obtain ⟨s1, HS1⟩ : ∃ s1, Hid (sklA kV [] = s1) := ⟨_, Lib.hid rfl⟩
  rw [HS1.out] at hfc hby hkl
  have HFC := Lib.hid hfc
  have HBY := Lib.hid hby
  have HK1 := Lib.hid hkl
  have e1 := hE25
  have e2 := hE42
  have e3 : ∀ w, (binOp .eql 39 (.agg (srcK (3, 0)).toArray) (.agg #[.int .i64 3, .int .i64 0])).run Tryz.prog w = .ok (.bool true) w := hE30
  clear p1 p2 hl hF hfc hby hkl
  have T1 : Hid True := Lib.hid trivial
  have T2 : Hid True := Lib.hid trivial
  have T3 : Hid True := Lib.hid trivial
  have T4 : Hid True := Lib.hid trivial
  have T5 : Hid True := Lib.hid trivial
  have T6 : Hid True := Lib.hid trivial
  have T7 : Hid True := Lib.hid trivial
  have T8 : Hid True := Lib.hid trivial
  have T9 : Hid True := Lib.hid trivial
  have T10 : Hid True := Lib.hid trivial
  have T11 : Hid True := Lib.hid trivial
  have T12 : Hid True := Lib.hid trivial
  go_enter Tryz.func11, Tryz.ntmps11
  go_wp2_with (first
    | (clear T1; go_at_call 30; refine (P1.out _ HL.out).mono ?_; rintro e w1 ⟨ao, cap, rfl, hf, hn⟩; have HF := Lib.hid hf; have HS := Lib.hid (Sep.start w1); have N1 := Lib.hid hn; clear hf hn)
    | (clear T2; go_at_call 12; refine (build_in ao 4 cap kV none 0 0 [] _ (HL.out.new N1.out) HF.out (row_none _) kV_right).mono ?_; rw [HS1.out]; rintro e w2 ⟨vs, rfl, hs⟩; obtain ⟨na, nc, hv⟩ := rowA_form hs.hd; rw [HK1.out] at hv; subst hv; replace HS := Lib.hid (HS.out.call hs); clear hs)
    | (clear T3; refine wpList_alB rfl 34 rfl _ zeroSk_run _ rfl HS.out ?_; intro w3 g4 hs; replace HS := Lib.hid hs; clear hs)
    | (clear T4; refine wpList_stSW 0 rfl rfl 34 (.tmp 4) (.tmp 20) rfl g4 rfl _ rfl HS.out rfl (skC s1.entry (.slice na 3 nc)) rfl (by rw [skC_len, skC_len]) (skC_one _ rfl) (by rw [skC_len]; exact infoSk) ?_; intro w4 hs; replace HS := Lib.hid hs; clear hs)
    | (clear T5; refine wpList_load_mid rfl 34 (.tmp 4) rfl g4 0 rfl (skC s1.entry (.slice na 3 nc)) _ (HasC.all (HS.out.has 0 rfl)) Tryz.underlying34 rfl (by rw [skC_len]; exact infoSk) ?_)
    | (clear T6; go_at_call 20; refine (HFC.out (.slice ao 4 cap) _ _ (HL.out.new (N1.out.trans HS.out.nw)) (HF.out.new HS.out.nw) (HS.out.rd 1 rfl)).mono ?_; rintro e w5 ⟨vf, rfl, hs⟩; obtain ⟨fa, fac, hv⟩ := rowA_form hs.hd; rw [tabK_len] at hv; subst hv; replace HS := Lib.hid (HS.out.call hs); clear hs)
    | (clear T7; go_at_call 30; refine (P2.out _ (HL.out.new (N1.out.trans HS.out.nw))).mono ?_; rintro e w6 ⟨bo, bap, rfl, hf, hn⟩; have HG := Lib.hid hf; replace HS := Lib.hid (HS.out.go hn); clear hf hn)
    | (clear T8; go_at_call 22; refine (cut_in bo 2 bap kG _ (HL.out.new (N1.out.trans HS.out.nw)) HG.out kG_right).mono ?_; rintro e w7 ⟨cb, c, hc, rfl, hs⟩; obtain ⟨a, rfl⟩ := kG_cut hc; replace HS := Lib.hid (HS.out.call hs); have hz : w7.cell? ⟨cb, 1, none⟩ = some (.bool true) := (by have := leaf_at (HS.out.rd 0 rfl) (i := 1) (x := true) rfl _ (New.refl _) 0 _ rfl; simpa using this); obtain ⟨b1, o1, u1, i1, r1, d1⟩ := nest_ix (P := Tryz.prog) (HS.out.rd 1 rfl) 57 Tryz.underlying57 sizeSs (i := 1) (tabK_at F (by decide)); obtain ⟨a1, c1, hu1⟩ := rowA_form d1; rw [rowK_len] at hu1; subst hu1; obtain ⟨b2, o2, i2, r2⟩ := leaf_ix (P := Tryz.prog) d1 58 Tryz.underlying58 sizeSr (i := 1) (x := (2, 5)) (by rw [rowK_at F 1 (by decide), HF11.out]); obtain ⟨b3, o3, i3, r3⟩ := leaf_ix (P := Tryz.prog) d1 58 Tryz.underlying58 sizeSr (i := 2) (x := (4, 2)) (by rw [rowK_at F 1 (by decide), HF12.out]); have y1 := r1 _ (New.refl _); replace i1 : ∀ w', (Instr.indexAt 57 _ (.int .i64 1)).run Tryz.prog w' = .ok _ w' := i1; replace i2 : ∀ w', (Instr.indexAt 58 _ (.int .i64 1)).run Tryz.prog w' = .ok _ w' := i2; replace i3 : ∀ w', (Instr.indexAt 58 _ (.int .i64 2)).run Tryz.prog w' = .ok _ w' := i3; have H2 := Lib.hid r2; have H3 := Lib.hid r3; clear hs hc r1 r2 r3 d1)
    | (clear T9; refine wpList_ldAG rfl 39 (.tmp 53) rfl b2 o2 rfl [.int .i64 2, .int .i64 5] _ (H2.out _ (New.refl _)) Tryz.underlying39 rfl infoSr ?_)
    | (clear T10; refine wpList_ldAG rfl 39 (.tmp 62) rfl b3 o3 rfl [.int .i64 4, .int .i64 2] _ (H3.out _ (New.refl _)) Tryz.underlying39 rfl infoSr ?_)
    | (clear T11; refine wpList_ldAG rfl 34 (.tmp 4) rfl g4 0 rfl (skC s1.entry (.slice na 3 nc)) _ (HasC.all (HS.out.has 2 rfl)) Tryz.underlying34 rfl (by rw [skC_len]; exact infoSk) ?_)
    | (clear T12; go_at_call 13; refine (HBY.out (.slice ao 4 cap) _ _ (HL.out.new (N1.out.trans HS.out.nw)) (HF.out.new HS.out.nw) (HS.out.rd 3 rfl)).mono ?_; rintro e w8 ⟨rfl, hn⟩; replace HS := Lib.hid (HS.out.go hn); clear hn))
  go_ret
  exact ⟨rfl, N1.out.trans HS.out.nw⟩
theorem knows_from11 {w0 : World} (w : World) (hl : Laid w0) (h : New w0 w) : Calls Tryz.prog 11 #[] w fun e w' => e = .returned (.bool true) ∧ New w0 w' :=
  (knows11_any w (hl.new h)).mono fun _ _ ⟨he, hw⟩ => ⟨he, h.trans hw⟩
end Go.Proofs.YtphopkjgfkaihaaGreatDoor
