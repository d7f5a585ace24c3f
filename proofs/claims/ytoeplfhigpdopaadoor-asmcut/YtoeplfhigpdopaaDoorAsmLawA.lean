/-
  'AsmCut': a function's text without its last byte is none's, and the place is where its last line begins: true, for every input.
-/
import Derived.Test.YtoeplfhigpdopaaDoorAsmKnows
namespace Go.Proofs.YtoeplfhigpdopaaDoor
open Go.RowKit

/-- Where the last line begins: behind the last line feed (b: what is known so far; p: where we are). -/
def begL : List UInt8 → Nat → Nat → Nat
  | [], _, b => b
  | c :: l, p, b => begL l (p + 1) (if c = 10 then p + 1 else b)
theorem beg_no : ∀ (q l : List UInt8) (p b : Nat), (10 : UInt8) ∉ q → begL (q ++ l) p b = begL l (p + q.length) b
  | [], l, p, b, _ => by simp
  | c :: q, l, p, b, h => by
    rw [List.cons_append, begL, if_neg (fun e => h (by simp [e])), beg_no q l (p + 1) b (fun hm => h (by simp [hm])), List.length_cons]
    congr 1; omega
theorem beg_prt : ∀ (g : List I) (l : List UInt8) (p : Nat), (∀ x ∈ g, chkV x 200 = 0) → begL (prtF g ++ l) p p = begL l (p + (prtF g).length) (p + (prtF g).length)
  | [], l, p, _ => by simp [prtF]
  | x :: g, l, p, h => by
    rw [prtF_cons, List.append_assoc, List.append_assoc, beg_no _ _ _ _ (prt_no10 (chk_zero (h x (by simp))).1), List.singleton_append, begL, if_pos rfl,
      beg_prt g l _ (fun y hy => h y (by simp [hy]))]
    simp only [List.length_append, List.length_cons, List.length_nil]
    congr 1 <;> omega
/-- What AsmCut meets of a function that is right. -/
theorem cut_facts {f : List I} (hi : ∀ y ∈ f, In64I y) (h : (chkF f).2 = 0) : ∃ (D : List UInt8) (q : Nat), prtF f = D ++ [10] ∧ begL D 0 0 = q ∧ (prsF D).1 = [] ∧ (prsF D).2 = (q, 2) ∧ 1 ≤ D.length ∧ D.length ≤ 20000 ∧ q ≤ 20000 := by
  obtain ⟨h1, h2, h3, h4⟩ := right_iff.mp h
  have hr := right_200 h
  have hne : f ≠ [] := fun e => h2 (by rw [e]; rfl)
  obtain ⟨g, x, rfl⟩ : ∃ g x, f = g ++ [x] := ⟨f.dropLast, f.getLast hne, (List.dropLast_concat_getLast hne).symm⟩
  have hg : ∀ y ∈ g, In64I y ∧ chkV y 200 = 0 := fun y hy => ⟨hi y (by simp [hy]), hr y (by simp [hy])⟩
  have hx := hi x (by simp)
  have hc := hr x (by simp)
  have hk := (chk_zero hc).1
  have hlen := prtF_len (g ++ [x]) (fun y hy => ⟨hi y hy, hr y hy⟩)
  have ht : prtF (g ++ [x]) = (prtF g ++ prtL x) ++ [10] := by rw [prtF_app, prtF_one, List.append_assoc]
  have hp := List.length_pos_iff.mpr (prt_ne hk)
  have hD : (prtF g ++ prtL x).length ≤ 20000 := by
    rw [ht, List.length_append] at hlen
    simp only [List.length_cons, List.length_nil] at hlen
    omega
  have hrd := readF_cut hg hx hc
  have hq : (prtF g).length < (prtF g ++ prtL x).length := by rw [List.length_append]; omega
  have hps : prsF (prtF g ++ prtL x) = ([], (prtF g).length, 2) := by
    unfold prsF
    rw [hrd, if_neg (by omega), if_pos hq]
  refine ⟨prtF g ++ prtL x, (prtF g).length, ht, ?_, by rw [hps], by rw [hps], by omega, hD, by omega⟩
  rw [beg_prt g _ 0 (fun y hy => (hg y hy).2)]
  have := beg_no (prtL x) [] (0 + (prtF g).length) (0 + (prtF g).length) (prt_no10 hk)
  rw [List.append_nil] at this
  rw [this, begL]
  omega
theorem asmCut_long (ao : Option Addr) (n cap : Nat) (h : (300 : Int) < (n : Int)) (w : World) (hl : Laid w) :
    Calls Tryd.prog 8 #[.slice ao n cap] w fun e w' => e = .returned (.bool true) ∧ New w w' := by
  have HL := Lib.hid hl
  clear hl
  go_enter Tryd.func8, Tryd.ntmps8
  go_wp2_with (go_at_call 10; refine (knows_any _ HL.out).mono ?_; rintro e w1 ⟨rfl, hn1⟩)
  go_ret
  exact ⟨rfl, hn1⟩
set_option maxHeartbeats 1000000 in
theorem asmCut_bad (ao : Option Addr) (n cap : Nat) (f : List I) (hn : n ≤ 300) (hi : ∀ y ∈ f, In64I y) (h : ¬ (chkF f).2 = 0) (w : World) (hf : FunAt w (.slice ao n cap) f) (hl : Laid w) :
    Calls Tryd.prog 8 #[.slice ao n cap] w fun e w' => e = .returned (.bool true) ∧ New w w' := by
  have HL := Lib.hid hl
  have HF := Lib.hid hf
  have HI := Lib.hid hi
  have e1 := prtFE_bad h
  have q1 : ¬ (300 : Int) < (n : Int) := by omega
  clear hl hf hi h hn
  go_enter Tryd.func8, Tryd.ntmps8
  go_wp2_with (first
    | (go_at_call 14; refine (asmPrint_any _ f HI.out _ HL.out HF.out).mono ?_; rw [e1]; rintro e w1 ⟨rfl, hn1⟩)
    | (go_at_call 10; refine (knows_any _ (HL.out.new hn1)).mono ?_; rintro e w2 ⟨rfl, hn2⟩))
  go_ret
  exact ⟨rfl, hn1.trans hn2⟩
set_option maxHeartbeats 2000000 in
set_option maxRecDepth 100000 in
theorem asmCut_right (ao : Option Addr) (n cap : Nat) (f : List I) (hn : n ≤ 300) (hi : ∀ y ∈ f, In64I y) (h : (chkF f).2 = 0) (w : World) (hf : FunAt w (.slice ao n cap) f) (hl : Laid w) :
    Calls Tryd.prog 8 #[.slice ao n cap] w fun e w' => e = .returned (.bool true) ∧ New w w' := by
  obtain ⟨D, pl, d1, d2, d3, d4, d5, d6, d7⟩ := cut_facts hi h
  have HP : Hid (∀ w, Laid w → FunAt w (.slice ao n cap) f → Calls Tryd.prog 14 #[.slice ao n cap] w fun e w' => e = .returned (.tuple #[.string ⟨(D ++ [10]).toArray⟩, .int .i64 0]) ∧ New w w') := Lib.hid fun w hl hf => by
    have := asmPrint_any _ f hi w hl hf
    rw [prtFB_good h, prtFE_good h, d1] at this
    exact this
  have HQ : Hid (∀ w, Laid w → Calls Tryd.prog 17 #[.string ⟨D.toArray⟩] w fun e w' => ∃ ao cap, e = .returned (.tuple #[.slice ao 0 cap, .int .i64 pl, .int .i64 2]) ∧ New w w') := Lib.hid fun w hl =>
    (asmParse_any ⟨D.toArray⟩ w hl).mono fun e w' ⟨v, he, hf, hn⟩ => by
      rw [arr_list, d3] at hf
      rw [arr_list, d4] at he
      obtain ⟨ao, cap, rfl⟩ := hf.form
      exact ⟨ao, cap, he, hn⟩
  have HL := Lib.hid hl
  have HF := Lib.hid hf
  have HG := Lib.hid d2
  obtain ⟨m, HM⟩ : ∃ m, Hid (D.length = m + 1) := ⟨D.length - 1, Lib.hid (by omega)⟩
  have q1 : decide ((300 : Int) < (n : Int)) = false := by simp; omega
  obtain ⟨T, HT⟩ : ∃ T : ByteArray, Hid (T = ⟨(D ++ [10]).toArray⟩) := ⟨_, Lib.hid rfl⟩
  have hTs : T.size = m + 2 := by rw [HT.out]; show (D ++ [10]).toArray.size = _; simp [HM.out]
  have hm2 : m ≤ 20000 := by have := HM.out; omega
  have HX : Hid (T.extract 0 (m + 1) = ⟨D.toArray⟩) := Lib.hid (by
    rw [Lib.extract_eq, HT.out, arr_list]
    simp [← HM.out])
  have HB : Hid (∀ i, i < m + 1 → ∃ h : i < T.size, D.drop i = T[i] :: D.drop (i + 1)) := Lib.hid (by
    intro i hi
    refine ⟨by omega, ?_⟩
    rw [List.drop_eq_getElem_cons (by rw [HM.out]; exact hi)]
    congr 1
    have hg := get_list T i (by omega)
    have hg' : T.data.toList = D ++ [10] := by rw [HT.out, arr_list]
    rw [hg', List.getElem?_append_left (by rw [HM.out]; exact hi), List.getElem?_eq_getElem (by rw [HM.out]; exact hi)] at hg
    have := Option.some.inj hg
    rw [this]
    have h2 := get_at T i (by omega)
    rw [Nat.add_zero] at h2
    exact h2)
  have c0 : ((m : Int) + 2 == 0) = false := by simp; omega
  clear hl hf hi h hn d1 d2 d3 d4 d5 d6
  go_enter Tryd.func8, Tryd.ntmps8
  go_wp2_with (go_at_call 14; refine (HP.out _ HL.out HF.out).mono ?_; rw [← HT.out]; rintro e w1 ⟨rfl, hn1⟩)
  go_loopw [5, 6] (fun bv iv wr => ∃ (b i : Nat), bv = .int .i64 b ∧ iv = .int .i64 i ∧ i ≤ m + 1 ∧ wr = w1 ∧ Hid (begL (D.drop i) i b = pl)) (fun _ iv _ => m + 1 - (intOf iv).toNat)
  case atStart => exact ⟨0, 0, rfl, rfl, Nat.zero_le _, rfl, Lib.hid HG.out⟩
  case round =>
    obtain ⟨b, i, rfl, rfl, him, rfl, HR⟩ := hrel
    by_cases hi : i < m + 1
    · obtain ⟨hlt, hdrop⟩ := HB.out i hi
      have HD := Lib.hid hdrop
      clear hdrop
      by_cases h10 : T[i].toNat = 10
      · have q : ((T[i].toNat : Int) == 10) = true := beq_of (by omega)
        have HU : Hid (begL (D.drop (i + 1)) (i + 1) (i + 1) = pl) := Lib.hid (by
          have := HR.out
          rw [HD.out, begL, if_pos (UInt8.toNat_inj.mp h10)] at this
          exact this)
        clear h10
        go_wp2
        go_roundw
        case rel => exact ⟨i + 1, i + 1, by go_num, by go_num, by omega, by first | rfl | trivial, Lib.hid HU.out⟩
        case measure => simp [intOf]; omega
      · have q : ((T[i].toNat : Int) == 10) = false := bneq_of (by omega)
        have HU : Hid (begL (D.drop (i + 1)) (i + 1) b = pl) := Lib.hid (by
          have := HR.out
          rw [HD.out, begL, if_neg (fun e => h10 (by rw [e]; rfl))] at this
          exact this)
        clear h10
        go_wp2
        go_roundw
        case rel => exact ⟨b, i + 1, rfl, by go_num, by omega, by first | rfl | trivial, Lib.hid HU.out⟩
        case measure => simp [intOf]; omega
    · obtain rfl : i = m + 1 := by omega
      have HE : Hid (b = pl) := Lib.hid (by
        have := HR.out
        rw [List.drop_of_length_le (by rw [HM.out]; omega), begL] at this
        exact this)
      have he := HE.out
      subst he
      go_wp2_with (first
        | (go_at_call 17; rw [HX.out]; refine (HQ.out _ (HL.out.new hn1)).mono ?_; rintro e w2 ⟨ao2, cap2, rfl, hn2⟩)
        | (go_at_call 10; refine (knows_any _ ((HL.out.new hn1).new hn2)).mono ?_; rintro e w3 ⟨rfl, hn3⟩))
      go_ret
      exact ⟨rfl, (hn1.trans hn2).trans hn3⟩
theorem asmCut_law (v : Value) (f : List I) (w : World) (hf : FunAt w v f) (hi : ∀ y ∈ f, In64I y) (_hm : f.length ≤ maxLen) (hl : Laid w) :
    Calls Tryd.prog 8 #[v] w fun e w' => e = .returned (.bool true) ∧ New w w' := by
  obtain ⟨ao, cap, rfl⟩ := hf.form
  by_cases hn : f.length ≤ 300
  · by_cases h : (chkF f).2 = 0
    · exact asmCut_right ao f.length cap f hn hi h w hf hl
    · exact asmCut_bad ao f.length cap f hn hi h w hf hl
  · exact asmCut_long ao f.length cap (by omega) w hl
end Go.Proofs.YtoeplfhigpdopaaDoor
