/-
  The examples at the end of layer 8's laws ('knows'): true.
-/
import Derived.Test.YtlmnodbhfpgplaaGreatDoorRunF
import Derived.Test.YtlmnodbhfpgplaaGreatDoorAsmAll
namespace Go.Proofs.YtlmnodbhfpgplaaGreatDoor
open Go.RowKit

def kA : List I := [⟨2, 1, 0, 0, 0, 0⟩, ⟨18, 0, 1, 0, 0, 0⟩]
def kB : List I := [⟨16, 0, 0, 0, 0, 0⟩]
theorem kA_in : ∀ x ∈ kA, In64I x := by
  intro x hx
  simp only [kA, List.mem_cons, List.not_mem_nil, or_false] at hx
  rcases hx with rfl | rfl <;> (unfold In64I In64; simp)
theorem kB_in : ∀ x ∈ kB, In64I x := by
  intro x hx
  simp only [kB, List.mem_cons, List.not_mem_nil, or_false] at hx
  subst hx
  unfold In64I In64
  simp
def kAT : List UInt8 := [109, 111, 118, 32, 114, 49, 32, 114, 48, 10, 114, 101, 116, 32, 114, 49, 10]
def kBT : List UInt8 := [106, 117, 109, 112, 32, 48, 10]
theorem kA_right : (chkF kA).2 = 0 := by decide +kernel
theorem kB_right : (chkF kB).2 = 0 := by decide +kernel
theorem kA_text : prtF kA = kAT := by decide +kernel
theorem kB_text : prtF kB = kBT := by decide +kernel
theorem kA_1 : prsF kAT = (kA, 0, 0) := by rw [← kA_text]; exact prs_prtF kA_in kA_right
theorem kB_1 : prsF kBT = (kB, 0, 0) := by rw [← kB_text]; exact prs_prtF kB_in kB_right
def kR : Nat → Int := fun i => if i = 0 then 7 else 0
def kW : Ws := updW (begL kR) 1 (begL kR 0)
theorem kA_s1 : stp kA (begM kR []) [] = ⟨⟨kW, [], 1, 0⟩, [], 0, 0, []⟩ := by
  have hk : knwB ⟨2, 1, 0, 0, 0, 0⟩ (begL kR) = true := by decide +kernel
  have hi : insA kA 0 = ⟨2, 1, 0, 0, 0, 0⟩ := rfl
  unfold stp begM
  simp only [hi]
  rw [if_neg (by rw [hk]; decide), if_pos (by decide +kernel)]
  rfl
theorem kA_s2 : stp kA ⟨kW, [], 1, 0⟩ [] = ⟨⟨kW, [], 1, 0⟩, [], 1, 7, []⟩ := by
  have hk : knwB ⟨18, 0, 1, 0, 0, 0⟩ kW = true := by decide +kernel
  have hi : insA kA 1 = ⟨18, 0, 1, 0, 0, 0⟩ := rfl
  unfold stp
  simp only [hi]
  rw [if_neg (by rw [hk]; decide), if_neg (by decide +kernel), if_pos (by decide +kernel)]
  rfl
theorem kA_run : runR kA kR [] [] 9 = (⟨[], 1, 7, [], 2, 1⟩, ⟨kW, [], 1, 0⟩) := by
  unfold runR
  rw [onR_step rfl, kA_s1, onR_step rfl, kA_s2, onR_ended (by decide)]
  rfl
theorem kB_s : stp kB (begM kR []) [] = ⟨begM kR [], [], 0, 0, []⟩ := by
  have hk : knwB ⟨16, 0, 0, 0, 0, 0⟩ (begL kR) = true := by decide +kernel
  have hi : insA kB 0 = ⟨16, 0, 0, 0, 0, 0⟩ := rfl
  unfold stp begM
  simp only [hi]
  rw [if_neg (by rw [hk]; decide), if_pos (by decide +kernel)]
  rfl
theorem kB_run : runR kB kR [] [] 9 = (⟨[], 0, 0, [], 9, 0⟩, ⟨begL kR, [], 0, 0⟩) := by
  unfold runR
  rw [onR_still (by rw [kB_s]) (by rw [kB_s]) 9 noTr rfl rfl rfl]
  rfl
theorem zeroK_run (w : World) : (zeroValue 26).run Tryz.prog w = .ok (.agg (caC (fun _ => 0) nilS nilS 0).toArray) w := Tryz.zeroValue26 w
set_option maxHeartbeats 16000000 in
set_option maxRecDepth 100000 in
theorem knows8_any (w : World) (hl : Laid w) : Calls Tryz.prog 7 #[] w fun e w' => e = .returned (.bool true) ∧ New w w' := by
  have p1 : ∀ w, Laid w → Calls Tryz.prog 20 #[.string ⟨#[109, 111, 118, 32, 114, 49, 32, 114, 48, 10, 114, 101, 116, 32, 114, 49, 10]⟩] w fun e w' => ∃ ao cap, e = .returned (.tuple #[.slice ao 2 cap, .int .i64 0, .int .i64 0]) ∧ FunAt w' (.slice ao 2 cap) kA ∧ New w w' := fun w hl =>
    (asmParse_any ⟨kAT.toArray⟩ w hl).mono fun e w' ⟨v, he, hf, hn⟩ => by
      rw [arr_list, kA_1] at he hf
      obtain ⟨ao, cap, rfl⟩ := hf.form
      exact ⟨ao, cap, he, hf, hn⟩
  have p2 : ∀ w, Laid w → Calls Tryz.prog 20 #[.string ⟨#[106, 117, 109, 112, 32, 48, 10]⟩] w fun e w' => ∃ ao cap, e = .returned (.tuple #[.slice ao 1 cap, .int .i64 0, .int .i64 0]) ∧ FunAt w' (.slice ao 1 cap) kB ∧ New w w' := fun w hl =>
    (asmParse_any ⟨kBT.toArray⟩ w hl).mono fun e w' ⟨v, he, hf, hn⟩ => by
      rw [arr_list, kB_1] at he hf
      obtain ⟨ao, cap, rfl⟩ := hf.form
      exact ⟨ao, cap, he, hf, hn⟩
  have P1 := Lib.hid p1
  have P2 := Lib.hid p2
  have HL := Lib.hid hl
  have q9 : caseN 0 0 9 = true := rfl
  have TP1 : Hid True := Lib.hid trivial
  have TP2 : Hid True := Lib.hid trivial
  have TR1 : Hid True := Lib.hid trivial
  have TR2 : Hid True := Lib.hid trivial
  have T1 : Hid True := Lib.hid trivial
  have T2 : Hid True := Lib.hid trivial
  have T3 : Hid True := Lib.hid trivial
  have T4 : Hid True := Lib.hid trivial
  have T5 : Hid True := Lib.hid trivial
  have T6 : Hid True := Lib.hid trivial
  have T7 : Hid True := Lib.hid trivial
  have T8 : Hid True := Lib.hid trivial
  have T9 : Hid True := Lib.hid trivial
  have Ta : Hid True := Lib.hid trivial
  have Tb : Hid True := Lib.hid trivial
  have Tc : Hid True := Lib.hid trivial
  have Td : Hid True := Lib.hid trivial
  have Te : Hid True := Lib.hid trivial
  clear p1 p2 hl
  go_enter Tryz.func7, Tryz.ntmps7
  go_wp2_with (first
    | (clear TP1; go_at_call 20; refine (P1.out _ HL.out).mono ?_; rintro e w1 ⟨ao, cap, rfl, hf, hn1⟩; have HF := Lib.hid hf; have HN := Lib.hid hn1; clear hf hn1)
    | (clear TP2; go_at_call 20; refine (P2.out _ (HL.out.new HN.out)).mono ?_; rintro e wx ⟨bo, bap, rfl, hf, hn⟩; have HF2 := Lib.hid hf; replace A4 : Hid (HasK wx g4 kR nilS nilS 9) := Lib.hid (HasC.new A4.out hn); replace A5 : Hid (HasTr wx g5 ev1 1 7 so1 2 1) := Lib.hid (HasC.new A5.out hn); replace A6 : Hid (HasS wx g6 kW s1 1 0) := Lib.hid (HasC.new A6.out hn); replace HN := Lib.hid (HN.out.trans hn); clear hf hn)
    | (clear TR1; go_at_call 8; refine (run_is (rs := kR) (h := nilS) (a := nilS) (n := 9) HL.out HN.out HF.out (Hp.nil _) (Hp.nil _) kA_right (by decide) (by decide) (by decide) kA_run).mono ?_; rintro e wx ⟨ev1, so1, s1, rfl, _, _, _, hn, _⟩; replace A4 : Hid (HasK wx g4 kR nilS nilS 9) := Lib.hid (HasC.new A4.out hn); replace HN := Lib.hid (HN.out.trans hn); clear hn)
    | (clear TR2; go_at_call 8; refine (run_is (rs := kR) (h := nilS) (a := nilS) (n := 9) HL.out HN.out HF2.out (Hp.nil _) (Hp.nil _) kB_right (by decide) (by decide) (by decide) kB_run).mono ?_; rintro e wx ⟨ev2, so2, s2, rfl, _, _, _, hn, _⟩; replace A4 : Hid (HasK wx g4 kR nilS nilS 9) := Lib.hid (HasC.new A4.out hn); replace A5 : Hid (HasTr wx g5 ev1 1 7 so1 2 1) := Lib.hid (HasC.new A5.out hn); replace A6 : Hid (HasS wx g6 kW s1 1 0) := Lib.hid (HasC.new A6.out hn); replace HN := Lib.hid (HN.out.trans hn); clear hn)
    | (go_at_call 21; refine (runRight_any kR nilS nilS 9 _).mono ?_; rw [show caseN nilS.n nilS.n 9 = true from rfl]; rintro e wk ⟨rfl, hnk⟩)
    | (clear T1; refine wpList_alX rfl 26 rfl _ zeroK_run _ rfl ?_; intro wx g4 hg4 hl4 H4 hn; have A4 : Hid (HasK wx g4 (fun _ => 0) nilS nilS 0) := Lib.hid H4; clear H4)
    | (clear T2; refine wpList_stX rfl rfl 26 (.tmp 4) (.tmp 19) rfl g4 0 rfl _ rfl A4.out (caC (fun _ => 0) nilS nilS 9) rfl (by simp [caC]) (by simp [caC, Value.oneCell']) infoCa (cs' := caC (fun _ => 0) nilS nilS 9) (by simp [caC]) ?_; intro wy H4 k4; replace A4 : Hid (HasK wy g4 (fun _ => 0) nilS nilS 9) := Lib.hid H4; have hn2 : New w1 wy := k4.below w1 hg4 hn; clear H4 k4)
    | (clear T3; refine wpList_stX rfl rfl 2 (.tmp 21) (.const (.int .i64 7)) rfl g4 0 rfl _ rfl A4.out [.int .i64 7] rfl (by simp [caC]) (by simp [Value.oneCell']) size64 (cs' := caC kR nilS nilS 9) (by simp [caC, kR]) ?_; intro wz H4 k4; replace A4 : Hid (HasK wz g4 kR nilS nilS 9) := Lib.hid H4; have hn3 : New w1 wz := k4.below w1 hg4 hn2; replace HF := Lib.hid (HF.out.new hn3); replace HN := Lib.hid (HN.out.trans hn3); clear H4 k4 hn hn2 hn3 hg4 hl4)
    | (clear T4; refine wpList_ldK (by rfl) (.tmp 4) rfl g4 rfl A4.out ?_)
    | (clear T5; refine wpList_alX rfl 33 rfl _ zeroT_run _ rfl ?_; intro wy g5 hg5 hl5 H5 hn1; have A5 : Hid (HasTr wy g5 nilS 0 0 nilS 0 0) := Lib.hid H5; clear H5)
    | (clear T6; refine wpList_alX rfl 38 rfl _ zeroS_run _ rfl ?_; intro wz g6 hg6 hl6 H6 hn2; have A6 : Hid (HasS wz g6 noWs nilS 0 0) := Lib.hid H6; have d56 : g5 < g6 := Nat.lt_of_lt_of_le hl5 hg6; replace A5 : Hid (HasTr wz g5 nilS 0 0 nilS 0 0) := Lib.hid (HasC.new A5.out hn2); clear H6)
    | (clear T7; refine wpList_stTr rfl rfl (.tmp 5) (.tmp 26) rfl g5 rfl ev1 1 7 so1 2 1 rfl A5.out ?_; intro wu H5 k5; replace A5 : Hid (HasTr wu g5 ev1 1 7 so1 2 1) := Lib.hid H5; replace A6 : Hid (HasS wu g6 noWs nilS 0 0) := Lib.hid (HasC.kept A6.out k5 (Nat.ne_of_gt d56)); have hn3 : New wx wu := k5.below wx hg5 (hn1.trans hn2); clear H5 k5)
    | (clear T8; refine wpList_stS rfl rfl (.tmp 6) (.tmp 27) rfl g6 rfl (l := kW) (s := s1) (p := 1) (q := 0) rfl A6.out ?_; intro wv H6 k6; replace A6 : Hid (HasS wv g6 kW s1 1 0) := Lib.hid H6; replace A5 : Hid (HasTr wv g5 ev1 1 7 so1 2 1) := Lib.hid (HasC.kept A5.out k6 (Nat.ne_of_lt d56)); have hn4 : New wx wv := k6.below wx (Nat.le_trans hn1.size hg6) hn3; replace A4 : Hid (HasK wv g4 kR nilS nilS 9) := Lib.hid (HasC.new A4.out hn4); replace HN := Lib.hid (HN.out.trans hn4); clear H6 k6 hn1 hn2 hn3 hn4 hg5 hl5 hg6 hl6)
    | (clear T9; refine wpList_ldK (by rfl) (.tmp 4) rfl g4 rfl A4.out ?_)
    | (clear Ta; refine wpList_alX rfl 33 rfl _ zeroT_run _ rfl ?_; intro wy g11 hg5 hl5 H5 hn1; have A11 : Hid (HasTr wy g11 nilS 0 0 nilS 0 0) := Lib.hid H5; clear H5)
    | (clear Tb; refine wpList_alX rfl 38 rfl _ zeroS_run _ rfl ?_; intro wz g12 hg6 hl6 H6 hn2; have A12 : Hid (HasS wz g12 noWs nilS 0 0) := Lib.hid H6; have d1112 : g11 < g12 := Nat.lt_of_lt_of_le hl5 hg6; replace A11 : Hid (HasTr wz g11 nilS 0 0 nilS 0 0) := Lib.hid (HasC.new A11.out hn2); clear H6)
    | (clear Tc; refine wpList_stTr rfl rfl (.tmp 11) (.tmp 38) rfl g11 rfl ev2 0 0 so2 9 0 rfl A11.out ?_; intro wu H5 k5; replace A11 : Hid (HasTr wu g11 ev2 0 0 so2 9 0) := Lib.hid H5; replace A12 : Hid (HasS wu g12 noWs nilS 0 0) := Lib.hid (HasC.kept A12.out k5 (Nat.ne_of_gt d1112)); have hn3 : New wx wu := k5.below wx hg5 (hn1.trans hn2); clear H5 k5)
    | (clear Td; refine wpList_stS rfl rfl (.tmp 12) (.tmp 39) rfl g12 rfl (l := begL kR) (s := s2) (p := 0) (q := 0) rfl A12.out ?_; intro wv H6 k6; replace A11 : Hid (HasTr wv g11 ev2 0 0 so2 9 0) := Lib.hid (HasC.kept A11.out k6 (Nat.ne_of_lt d1112)); have hn4 : New wx wv := k6.below wx (Nat.le_trans hn1.size hg6) hn3; replace A4 : Hid (HasK wv g4 kR nilS nilS 9) := Lib.hid (HasC.new A4.out hn4); replace A5 : Hid (HasTr wv g5 ev1 1 7 so1 2 1) := Lib.hid (HasC.new A5.out hn4); replace A6 : Hid (HasS wv g6 kW s1 1 0) := Lib.hid (HasC.new A6.out hn4); replace HN := Lib.hid (HN.out.trans hn4); have c1 := HasTr.how A5.out; have c2 := HasTr.val A5.out; have c3 := HasTr.st A5.out; have c4 := HasTr.wk A5.out; have c5 := HasS.at A6.out; have c6 := HasTr.how A11.out; have c7 := HasTr.st A11.out; have c8 := HasTr.wk A11.out; clear H6 k6 hn1 hn2 hn3 hn4 hg5 hl5 hg6 hl6)
    | (clear Te; refine wpList_ldK (by rfl) (.tmp 4) rfl g4 rfl A4.out ?_))
  go_ret
  exact ⟨rfl, HN.out.trans hnk⟩
theorem knows8_from {w0 : World} (w : World) (hl : Laid w0) (h : New w0 w) : Calls Tryz.prog 7 #[] w fun e w' => e = .returned (.bool true) ∧ New w0 w' :=
  (knows8_any w (hl.new h)).mono fun _ _ ⟨he, hw⟩ => ⟨he, h.trans hw⟩
end Go.Proofs.YtlmnodbhfpgplaaGreatDoor
