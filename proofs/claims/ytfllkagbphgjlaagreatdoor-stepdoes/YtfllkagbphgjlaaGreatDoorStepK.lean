/-
  The examples at the end of layer 7's laws ('knows'): true.
-/
import Derived.Test.YtfllkagbphgjlaaGreatDoorStepG
import Derived.Test.YtfllkagbphgjlaaGreatDoorAsmAll
namespace Go.Proofs.YtfllkagbphgjlaaGreatDoor
open Go.RowKit

def kG : List I := [⟨15, 1, 2, 0, 7, 0⟩, ⟨4, 1, 2, 3, 0, 0⟩, ⟨18, 0, 1, 0, 0, 0⟩]
theorem kG_in : ∀ x ∈ kG, In64I x := by
  intro x hx
  simp only [kG, List.mem_cons, List.not_mem_nil, or_false] at hx
  rcases hx with rfl | rfl | rfl <;> (unfold In64I In64; simp)
def kGT : List UInt8 := [99, 97, 108, 108, 32, 114, 49, 32, 114, 50, 32, 55, 10, 97, 100, 100, 32, 114, 49, 32, 114, 50, 32, 114, 51, 10, 114, 101, 116, 32, 114, 49, 10]
theorem kG_right : (chkF kG).2 = 0 := by decide +kernel
theorem kG_text : prtF kG = kGT := by decide +kernel
theorem kG_1 : prsF kGT = (kG, 0, 0) := by rw [← kG_text]; exact prs_prtF kG_in kG_right
def kL : Ws := updW noWs 2 (true, 5)
def kL2 : Ws := updW kL 1 (true, 9)
theorem kM_right : mcB kG ⟨kL, [], 0, 0⟩ = true := by decide +kernel
theorem kM2_right : mcB kG ⟨kL2, [], 1, 1⟩ = true := by decide +kernel
theorem kStp : stp kG ⟨kL, [], 0, 0⟩ [9] = ⟨⟨kL2, [], 1, 1⟩, [(7, 5, 9)], 0, 0, []⟩ := by
  have hk : knwB ⟨15, 1, 2, 0, 7, 0⟩ kL = true := by decide +kernel
  have hi : insA kG 0 = ⟨15, 1, 2, 0, 7, 0⟩ := rfl
  unfold stp
  simp only [hi]
  rw [if_neg (by rw [hk]; decide), if_pos (by decide +kernel)]
  rfl
theorem kStp2 : stp kG ⟨kL2, [], 1, 1⟩ [] = ⟨⟨kL2, [], 1, 1⟩, [], 2, 0, []⟩ := by
  have hk : knwB ⟨4, 1, 2, 3, 0, 0⟩ kL2 = false := by decide +kernel
  have hi : insA kG 1 = ⟨4, 1, 2, 3, 0, 0⟩ := rfl
  unfold stp
  simp only [hi]
  rw [if_pos hk]
theorem run_eqE (w : World) : (binOp .eql 68 (.agg #[.int .i64 7, .int .i64 5, .int .i64 9]) (.agg #[.int .i64 7, .int .i64 5, .int .i64 9])).run Tryz.prog w = .ok (.bool true) w := by go_simp
theorem nine_hp (w : World) : Hp (w.alloc (.cells #[.int .i64 9] 2)) (.slice (some ⟨w.heap.size, 0, none⟩) 1 1) [9] :=
  Blk.hp (zs := [9]) (heap_alloc_new _ _) rfl 1
set_option maxHeartbeats 8000000 in
set_option maxRecDepth 100000 in
theorem knows_any (w : World) (hl : Laid w) : Calls Tryz.prog 12 #[] w fun e w' => e = .returned (.bool true) ∧ New w w' := by
  have p1 : ∀ w, Laid w → Calls Tryz.prog 34 #[.string ⟨#[99, 97, 108, 108, 32, 114, 49, 32, 114, 50, 32, 55, 10, 97, 100, 100, 32, 114, 49, 32, 114, 50, 32, 114, 51, 10, 114, 101, 116, 32, 114, 49, 10]⟩] w fun e w' => ∃ ao cap, e = .returned (.tuple #[.slice ao 3 cap, .int .i64 0, .int .i64 0]) ∧ FunAt w' (.slice ao 3 cap) kG ∧ New w w' := fun w hl =>
    (asmParse_any ⟨kGT.toArray⟩ w hl).mono fun e w' ⟨v, he, hf, hn⟩ => by
      rw [arr_list, kG_1] at he hf
      obtain ⟨ao, cap, rfl⟩ := hf.form
      exact ⟨ao, cap, he, hf, hn⟩
  have P1 := Lib.hid p1
  have HL := Lib.hid hl
  have T4 : Hid True := Lib.hid trivial
  have T5 : Hid True := Lib.hid trivial
  have T7 : Hid True := Lib.hid trivial
  have TA : Hid True := Lib.hid trivial
  have TB : Hid True := Lib.hid trivial
  have hq := run_eqE
  clear p1 hl
  go_enter Tryz.func12, Tryz.ntmps12
  go_wp2_with (first
    | (go_at_call 34; refine (P1.out _ HL.out).mono ?_; rintro e w1 ⟨ao, cap, rfl, hf, hn1⟩; have HF := Lib.hid hf; clear hf)
    | (clear T4; refine wpList_alX rfl 28 rfl _ zeroS_run _ rfl ?_; intro w2 g4 hg4 hl4 H4 hn2; have A4 : Hid (HasS w2 g4 noWs nilS 0 0) := Lib.hid H4; have n4 : w.heap.size ≤ g4 := Nat.le_trans hn1.size hg4; clear H4)
    | (refine wpList_stWd rfl rfl (.tmp 20) (.tmp 18) rfl g4 2 (by decide) rfl (true, 5) rfl A4.out ?_; intro w3 H3 k3; replace A4 : Hid (HasS w3 g4 kL nilS 0 0) := Lib.hid H3; replace HF := Lib.hid (HF.out.new (k3.below w1 hg4 hn2)); have HN := Lib.hid (k3.below w n4 (hn1.trans hn2)); clear H3 k3 hn1 hn2 hl4 hg4)
    | (clear TA; refine wpList_ldS rfl (.tmp 4) rfl g4 rfl A4.out ?_)
    | (clear TB; go_at_call 13; have HN4 := Lib.hid (HN.out.trans (alloc_new w3 (.cells #[.int .i64 9] 2))); refine (stepDo_is (s := nilS) HL.out HN4.out (HF.out.new (alloc_new _ _)) (Hp.nil _) (nine_hp w3) (by decide) kM_right kStp).mono ?_; rintro e w5 ⟨s1, ve, so, rfl, h1, h2, h3, hn5⟩; obtain ⟨eo, ec, e1, _, h2'⟩ := h2; subst e1; obtain ⟨eb, ef, e2, h2⟩ := h2' 0 (by decide); subst e2; have HE : Hid (w5.rangeAt eb ef [.int .i64 7, .int .i64 5, .int .i64 9]) := Lib.hid h2; have HH := Lib.hid h1; replace HF := Lib.hid ((HF.out.new (alloc_new _ _)).new hn5); replace HN := Lib.hid (HN4.out.trans hn5); clear h1 h2 h2' h3 hn5)
    | (clear T5; refine wpList_alX rfl 28 rfl _ zeroS_run _ rfl ?_; intro w6 g5 hg5 hl5 H5 hn6; have A5 : Hid (HasS w6 g5 noWs nilS 0 0) := Lib.hid H5; clear H5)
    | (clear T7; refine wpList_alX rfl 33 rfl _ zeroO_run _ rfl ?_; intro w7 g7 hg7 hl7 H7 hn7; have A7 : Hid (HasO w7 g7 0 0 nilS) := Lib.hid H7; replace A5 : Hid (HasS w7 g5 noWs nilS 0 0) := Lib.hid (HasC.new A5.out hn7); have n5 : g5 ≠ g7 := (by omega); clear H7)
    | (refine wpList_stS rfl rfl (.tmp 5) (.tmp 26) rfl g5 rfl (l := kL2) (s := s1) (p := 1) (q := 1) rfl A5.out ?_; intro w8 H8 k8; replace A5 : Hid (HasS w8 g5 kL2 s1 1 1) := Lib.hid H8; replace A7 := Lib.hid (HasC.kept A7.out k8 (Ne.symm n5)); have hn8 : New w5 w8 := k8.below w5 hg5 (hn6.trans hn7); clear H8 k8)
    | (refine wpList_stO rfl rfl (.tmp 7) (.tmp 28) rfl g7 rfl 0 0 so rfl A7.out ?_; intro w9 H9 k9; replace A7 : Hid (HasO w9 g7 0 0 so) := Lib.hid H9; replace A5 : Hid (HasS w9 g5 kL2 s1 1 1) := Lib.hid (HasC.kept A5.out k9 n5); have hn9 : New w5 w9 := k9.below w5 (Nat.le_trans hn6.size hg7) hn8; replace HE : Hid (w9.rangeAt eb ef [.int .i64 7, .int .i64 5, .int .i64 9]) := Lib.hid (fun j u hu => hn9.cell (HE.out j u hu)); replace HH := Lib.hid (HH.out.new hn9); replace HF := Lib.hid (HF.out.new hn9); replace HN := Lib.hid (HN.out.trans hn9); clear H9 k9 hn9 hn8 hn7 hn6 hg5 hl5 hg7 hl7)
    | (refine wpList_ldS rfl (.tmp 5) rfl g5 rfl A5.out ?_)
    | (go_at_call 13; refine (stepDo_is (s := s1) HL.out HN.out HF.out HH.out (Hp.nil _) (by decide) kM2_right kStp2).mono ?_; rintro e w10 ⟨s2, ve2, so2, rfl, h1, h2, h3, hn10⟩; replace HF := Lib.hid (HF.out.new hn10); replace HN := Lib.hid (HN.out.trans hn10); replace HH := Lib.hid (HH.out.new hn10); replace HE : Hid (w10.rangeAt eb ef [.int .i64 7, .int .i64 5, .int .i64 9]) := Lib.hid (fun j u hu => hn10.cell (HE.out j u hu)); replace A5 : Hid (HasS w10 g5 kL2 s1 1 1) := Lib.hid (HasC.new A5.out hn10); replace A7 : Hid (HasO w10 g7 0 0 so) := Lib.hid (HasC.new A7.out hn10); clear h1 h2 h3 hn10)
    | (refine wpList_alX rfl 28 rfl _ zeroS_run _ rfl ?_; intro w11 g9 hg9 hl9 H9 hn11; have A9 : Hid (HasS w11 g9 noWs nilS 0 0) := Lib.hid H9; clear H9)
    | (refine wpList_alX rfl 33 rfl _ zeroO_run _ rfl ?_; intro w12 g11 hg11 hl11 H11 hn12; have A11 : Hid (HasO w12 g11 0 0 nilS) := Lib.hid H11; replace A9 : Hid (HasS w12 g9 noWs nilS 0 0) := Lib.hid (HasC.new A9.out hn12); have n9 : g9 ≠ g11 := (by omega); clear H11)
    | (refine wpList_stS rfl rfl (.tmp 9) (.tmp 34) rfl g9 rfl (l := kL2) (s := s2) (p := 1) (q := 1) rfl A9.out ?_; intro w13 H13 k13; replace A9 : Hid (HasS w13 g9 kL2 s2 1 1) := Lib.hid H13; replace A11 := Lib.hid (HasC.kept A11.out k13 (Ne.symm n9)); have hn13 : New w10 w13 := k13.below w10 hg9 (hn11.trans hn12); clear H13 k13)
    | (refine wpList_stO rfl rfl (.tmp 11) (.tmp 36) rfl g11 rfl 2 0 so2 rfl A11.out ?_; intro w14 H14 k14; have hn14 : New w10 w14 := k14.below w10 (Nat.le_trans hn11.size hg11) hn13; replace A9 : Hid (HasS w14 g9 kL2 s2 1 1) := Lib.hid (HasC.kept A9.out k14 n9); have c1 := HasO.how H14; have c2 := HasS.at A9.out; replace A5 : Hid (HasS w14 g5 kL2 s1 1 1) := Lib.hid (HasC.new A5.out hn14); have c3 := HasS.at A5.out; have c4 : w14.cell? ⟨g5, 3, none⟩ = some (.int .i64 9) := HasS.num A5.out (k := 1) (by decide); have c5 := HasO.how (HasC.new A7.out hn14); replace HE : Hid (w14.rangeAt eb ef [.int .i64 7, .int .i64 5, .int .i64 9]) := Lib.hid (fun j u hu => hn14.cell (HE.out j u hu)); replace HH := Lib.hid (HH.out.new hn14); replace HF := Lib.hid (HF.out.new hn14); replace HN := Lib.hid (HN.out.trans hn14); clear H14 k14 hn14 hn13 hn12 hn11 hg9 hl9 hg11 hl11)
    | (refine wpList_ldM rfl 68 (.tmp 51) rfl eb ef rfl [.int .i64 7, .int .i64 5, .int .i64 9] _ HE.out Tryz.underlying68 rfl infoEv ?_)
    | (refine wpList_ldSG rfl (.tmp 5) rfl g5 rfl A5.out ?_)
    | (go_at_call 16; refine (stepRight_any _ kG ⟨kL2, [], 1, 1⟩ s1 _ (HL.out.new HN.out) HF.out HH.out).mono ?_; rw [kM2_right]; rintro e w15 ⟨rfl, hn15⟩))
  go_ret
  exact ⟨rfl, HN.out.trans hn15⟩
theorem knows_from {w0 : World} (w : World) (hl : Laid w0) (h : New w0 w) : Calls Tryz.prog 12 #[] w fun e w' => e = .returned (.bool true) ∧ New w0 w' :=
  (knows_any w (hl.new h)).mono fun _ _ ⟨he, hw⟩ => ⟨he, h.trans hw⟩
end Go.Proofs.YtfllkagbphgjlaaGreatDoor
