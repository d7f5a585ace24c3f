/-
  The reference's lines and Parse of functions (joineryref04), at every text: what asm.Parse tells.
-/
import Derived.Test.YtoeplfhigpdopaaDoorAsmE
import Derived.Test.YtoeplfhigpdopaaDoorRefAsmA
import Derived.Test.YtoeplfhigpdopaaDoorRefPrsJ
import Derived.Test.YtoeplfhigpdopaaDoorRefWords
namespace Go.Proofs.YtoeplfhigpdopaaDoor
open Go.RowKit

theorem cut_next {s : ByteArray} {b i : Nat} (hb : b ≤ i) (hi : i < s.size) (h : s.data.toList.drop i = s[i] :: s.data.toList.drop (i + 1)) : cutB s.data.toList b (i + 1) = cutB s.data.toList b i ++ [s[i]] := by
  rw [← cut_grow hb, h]
  rfl
theorem cut_bytes (s : ByteArray) (b p : Nat) : s.extract b p = ⟨(cutB s.data.toList b p).toArray⟩ := Lib.extract_eq s b p
set_option maxHeartbeats 4000000 in
set_option maxRecDepth 100000 in
theorem lines_any (s : ByteArray) (hs : s.size ≤ 100000) (w : World) :
    Calls Tryd.prog 31 #[.string s] w fun e w' => ∃ v, e = .returned v ∧ w'.ownsRow w.heap.size 9 1 v (linesL s.data.toList).length ((linesL s.data.toList).map strV) ∧ New w w' := by
  obtain ⟨i0, hi, hz0, hz1, hz2⟩ := info_parts infoStr
  go_enter Tryd.func31, Tryd.ntmps31
  go_wp2
  go_loopw [3, 4, 5] (fun v bv iv wr => ∃ (i b : Nat) (acc : List (List UInt8)), i ≤ s.size ∧ b ≤ i ∧ iv = .int .i64 i ∧ bv = .int .i64 b ∧ wr.ownsRow w.heap.size 9 1 v acc.length (acc.map strV) ∧ New w wr ∧ Hid (acc ++ linesR (s.data.toList.drop i) (cutB s.data.toList b i) = linesL s.data.toList) ∧ acc.length ≤ i) (fun _ _ iv _ => s.size - (intOf iv).toNat)
  case atStart => exact ⟨0, 0, [], Nat.zero_le _, Nat.le_refl _, rfl, rfl, World.ownsRow_nil _ _ _ _, New.refl _, Lib.hid rfl, Nat.le_refl _⟩
  case round =>
    obtain ⟨i, b, acc, hi1, hb1, rfl, rfl, hown, hnw, HB, hacc⟩ := hrel
    by_cases hlt : i < s.size
    · have hdrop : s.data.toList.drop i = s[i] :: s.data.toList.drop (i + 1) := by
        rw [List.drop_eq_getElem_cons (by exact hlt)]
        rfl
      have HD := Lib.hid hdrop
      have HC := Lib.hid (cut_next hb1 hlt hdrop)
      have HO := Lib.hid hown
      clear hdrop hown
      by_cases h10 : s[i].toNat = 10
      · have q : ((s[i].toNat : Int) == 10) = true := beq_of (by omega)
        have HU : Hid ((acc ++ [cutB s.data.toList b (i + 1)]) ++ linesR (s.data.toList.drop (i + 1)) (cutB s.data.toList (i + 1) (i + 1)) = linesL s.data.toList) := Lib.hid (by
          rw [← HB.out, HD.out, linesR, if_pos (UInt8.toNat_inj.mp h10), HC.out, cut_self, UInt8.toNat_inj.mp (show s[i].toNat = (10 : UInt8).toNat from h10)]
          simp)
        have c1 : (0 : Int) ≤ ↑b := by omega
        have c2 : (↑b : Int) ≤ ↑i + 1 := by omega
        have c3 : (↑i + 1 : Int) ≤ ↑s.size := by omega
        have HX : Hid (Value.string (s.extract b (i + 1)) = strV (cutB s.data.toList b (i + 1))) := Lib.hid (by rw [cut_bytes]; rfl)
        clear h10
        go_wp2_with (at_builtin; refine wpList_append_own _ rfl (.tmp 16) (.tmp 22) 63 rfl w.heap.size 9 i0 (.string ⟨#[]⟩) 1 16 Tryd.underlying63 hi hz0 hz1 hz2 rfl (by decide) _ _ _ rfl (HO.out.alloc _) ⟨wr.heap.size, 0, none⟩ 1 1 [.string (s.extract b (i + 1))] rfl rfl (one_new _ _ _) (by intro u hu; simp at hu; subst hu; rfl) (by unfold maxLen; omega) (by omega) (by rw [alloc_size]; have := hnw.size; omega) ?_; intro v' w2 hown' hgrow hnil)
        rw [HX.out] at hown' hgrow
        obtain ⟨r1, r2⟩ := str_step hnw HO.out hown' hgrow
        go_wp2
        go_roundw
        case rel => exact ⟨i + 1, i + 1, acc ++ [cutB s.data.toList b (i + 1)], by omega, Nat.le_refl _, by go_num, by go_num, r2, r1, Lib.hid HU.out, by simp; omega⟩
        case measure => simp [intOf]; omega
      · have q : ((s[i].toNat : Int) == 10) = false := bneq_of (by omega)
        have HU : Hid (acc ++ linesR (s.data.toList.drop (i + 1)) (cutB s.data.toList b (i + 1)) = linesL s.data.toList) := Lib.hid (by
          rw [← HB.out, HD.out, linesR, if_neg (fun e => h10 (by rw [e]; rfl)), HC.out])
        clear h10
        go_wp2
        go_roundw
        case rel => exact ⟨i + 1, b, acc, by omega, by omega, by go_num, rfl, HO.out, hnw, Lib.hid HU.out, by omega⟩
        case measure => simp [intOf]; omega
    · obtain rfl : i = s.size := by omega
      have HO := Lib.hid hown
      clear hown
      by_cases hb : b < s.size
      · have HE : Hid (acc ++ [cutB s.data.toList b s.size] = linesL s.data.toList) := Lib.hid (by
          rw [← HB.out, List.drop_of_length_le (by rw [size_list]; omega), linesR, if_neg]
          intro e
          have := cutB_len hb1 (by rw [size_list]; exact Nat.le_refl _ : s.size ≤ s.data.toList.length)
          rw [e] at this
          simp at this
          omega)
        have HX : Hid (Value.string (s.extract b s.size) = strV (cutB s.data.toList b s.size)) := Lib.hid (by rw [cut_bytes]; rfl)
        go_wp2_with (at_builtin; refine wpList_append_own _ rfl (.tmp 30) (.tmp 34) 63 rfl w.heap.size 9 i0 (.string ⟨#[]⟩) 1 16 Tryd.underlying63 hi hz0 hz1 hz2 rfl (by decide) _ _ _ rfl (HO.out.alloc _) ⟨wr.heap.size, 0, none⟩ 1 1 [.string (s.extract b s.size)] rfl rfl (one_new _ _ _) (by intro u hu; simp at hu; subst hu; rfl) (by unfold maxLen; omega) (by omega) (by rw [alloc_size]; have := hnw.size; omega) ?_; intro v' w2 hown' hgrow hnil)
        rw [HX.out] at hown' hgrow
        obtain ⟨r1, r2⟩ := str_step hnw HO.out hown' hgrow
        rw [HE.out] at r2
        go_wp2
        go_ret
        exact ⟨_, rfl, r2, r1⟩
      · obtain rfl : b = s.size := by omega
        have HE : Hid (acc = linesL s.data.toList) := Lib.hid (by
          rw [← HB.out, List.drop_of_length_le (by rw [size_list]; omega), cut_self, linesR, if_pos rfl, List.append_nil])
        go_wp2
        go_ret
        refine ⟨_, rfl, ?_, hnw⟩
        rw [← HE.out]
        exact HO.out
/-- One of three rows that the call itself has made is appended to. -/
theorem grow_keep {w0 wa w3 : World} {e e2 e3 size size2 size3 n n2 n3 : Nat} {v u2 u3 : Value} {xs ys zs : List Value} {o : Obj} (h2 : e ≠ e2) (h3 : e ≠ e3)
    (o1 : wa.ownsRow w0.heap.size e size v n xs) (o2 : wa.ownsRow w0.heap.size e2 size2 u2 n2 ys) (o3 : wa.ownsRow w0.heap.size e3 size3 u3 n3 zs) (hn : New w0 wa) (hgr : (wa.alloc o).grownBy w3 v.ownBlock) :
    w3.ownsRow w0.heap.size e2 size2 u2 n2 ys ∧ w3.ownsRow w0.heap.size e3 size3 u3 n3 zs ∧ New w0 w3 :=
  ⟨(o2.alloc o).kept hgr (rows_apart h2 o1 o2), (o3.alloc o).kept hgr (rows_apart h3 o1 o3), Below.grown (hn.alloc _) hgr (hn.alloc o).size (owns_row o1)⟩
/-- What Parse answers behind its loop. -/
def tailF (f : List I) (bs : List Nat) : List I × Nat × Int :=
  if (chkF f).2 = 0 then (f, 0, 0) else if f.length = 0 then ([], 0, (chkF f).2) else ([], bs.getD (chkF f).1 0, (chkF f).2)
theorem tail_none {l : List UInt8} {k : Nat} (h : l.length ≤ 20000) (hr : rlF (linesL l) 0 [] [] = (none, k)) : prsF l = ([], k, 2) := by
  rcases rl_rd l [] 0 [] [] (by simp) with ⟨h1, h2⟩ | ⟨h1, h2⟩
  · have := h2.symm.trans hr
    simp at this
  · have e := h2.symm.trans hr
    simp only [Prod.mk.injEq, true_and] at e
    simp only [List.length_nil, Nat.zero_add] at h1
    unfold prsF readF
    rw [if_neg (by omega), if_pos h1, e]
theorem tail_some {l : List UInt8} {f : List I} {bs : List Nat} {k : Nat} (h : l.length ≤ 20000) (hr : rlF (linesL l) 0 [] [] = (some (f, bs), k)) : bs.length = f.length ∧ prsF l = tailF f bs := by
  rcases rl_rd l [] 0 [] [] (by simp) with ⟨h1, h2⟩ | ⟨h1, h2⟩
  · have e := h2.symm.trans hr
    simp only [Prod.mk.injEq, Option.some.injEq] at e
    simp only [List.length_nil, Nat.zero_add] at h1
    have hb := rd_begins l [] 0 [] [] rfl
    rw [e.1] at hb
    refine ⟨hb, ?_⟩
    unfold prsF readF tailF
    rw [if_neg (by omega), if_neg (by omega), e.1]
    show (if (chkF f).2 = 0 then _ else if bs.length = 0 then _ else _) = _
    simp only [show bs.length = f.length from hb]
  · have := h2.symm.trans hr
    simp at this
theorem rl_take {L : List (List UInt8)} {i b m : Nat} {f : List I} {bs : List Nat} {x : I} (hi : i < L.length) (hm : L[i].length = m + 1) (h10 : L[i].getD m 0 = 10) (hx : prs (L[i].take m) = some x) : rlF (L.drop i) b f bs = rlF (L.drop (i + 1)) (b + m + 1) (f ++ [x]) (bs ++ [b]) := by
  rw [List.drop_eq_getElem_cons hi, rlF, hm, Nat.add_sub_cancel, if_pos h10, hx]
  rfl
theorem rl_no10 {L : List (List UInt8)} {i b m : Nat} {f : List I} {bs : List Nat} (hi : i < L.length) (hm : L[i].length = m + 1) (h10 : ¬ L[i].getD m 0 = 10) : rlF (L.drop i) b f bs = (none, b) := by
  rw [List.drop_eq_getElem_cons hi, rlF, hm, Nat.add_sub_cancel, if_neg h10]
theorem rl_bad {L : List (List UInt8)} {i b m : Nat} {f : List I} {bs : List Nat} (hi : i < L.length) (hm : L[i].length = m + 1) (h10 : L[i].getD m 0 = 10) (hx : prs (L[i].take m) = none) : rlF (L.drop i) b f bs = (none, b) := by
  rw [List.drop_eq_getElem_cons hi, rlF, hm, Nat.add_sub_cancel, if_pos h10, hx]
theorem rparse_full (s : ByteArray) (h : 20000 < s.size) (w : World) :
    Calls Tryd.prog 18 #[.string s] w fun e w' => e = .returned (.tuple #[.slice none 0 0, .int .i64 0, .int .i64 3]) ∧ New w w' := by
  go_enter Tryd.func18, Tryd.ntmps18
  go_wp2
  all_goals refine bodyPost_ret (by simp [results, Tryd.results18]) rfl ⟨rfl, ?_⟩
  all_goals exact New.refl _
theorem str_at {w : World} {base e n : Nat} {v : Value} {L : List (List UInt8)} (h : w.ownsRow base e 1 v n (L.map strV)) (h0 : L.length ≠ 0) : ∃ g cap, v = .slice (some ⟨g, 0, none⟩) n cap := by
  have hn := h.1
  rw [List.length_map, Nat.mul_one] at hn
  rcases h.2 with ⟨_, h1⟩ | ⟨g, cap, cur, hv, _⟩
  · omega
  · exact ⟨g, cap, hv⟩
theorem str_cell {w : World} {base e n g cap : Nat} {L : List (List UInt8)} (h : w.ownsRow base e 1 (.slice (some ⟨g, 0, none⟩) n cap) n (L.map strV)) (k : Nat) (hk : k < L.length) : w.cell? ⟨g, k, none⟩ = some (strV L[k]) := by
  have := h.cells (g := g) rfl k (strV L[k]) (by rw [List.getElem?_map, List.getElem?_eq_getElem hk]; rfl)
  rw [Addr.add_mid, Nat.zero_add] at this
  exact this
/-- The reference reads a line: an instruction's. -/
theorem rline_good (s : ByteArray) (hs : s.size ≤ 100000) {x : I} (h : prs s.data.toList = some x) (w : World) :
    Calls Tryd.prog 32 #[.string s] w fun e w' => e = .returned (.tuple #[.agg #[.int .i64 (x).op, .int .i64 (x).d, .int .i64 (x).a, .int .i64 (x).b, .int .i64 (x).n, .int .i64 (x).t], .bool true]) ∧ New w w' := by
  have := refParse_any s hs w
  rw [prsX_some h, h] at this
  exact this
theorem rline_bad (s : ByteArray) (hs : s.size ≤ 100000) (h : prs s.data.toList = none) (w : World) :
    Calls Tryd.prog 32 #[.string s] w fun e w' => e = .returned (.tuple #[.agg #[.int .i64 0, .int .i64 0, .int .i64 0, .int .i64 0, .int .i64 0, .int .i64 0], .bool false]) ∧ New w w' := by
  have := refParse_any s hs w
  rw [prsX_none h, h] at this
  exact this
/-- What a round of the reference's loop meets. -/
theorem line_facts {m : Nat} {ln : List UInt8} (hm : ln.length = m + 1) :
    ∃ T : ByteArray, strV ln = .string T ∧ T.size = m + 1 ∧ (∃ h : m < T.size, (T[m]'h).toNat = (ln.getD m 0).toNat) ∧ (T.extract 0 m).data.toList = ln.take m ∧ (T.extract 0 m).size ≤ m := by
  refine ⟨⟨ln.toArray⟩, rfl, ?_, ⟨?_, ?_⟩, ?_, ?_⟩
  · show ln.toArray.size = _; simp [hm]
  · show m < ln.toArray.size; simp [hm]
  · show (ln.toArray[m]'_).toNat = _
    simp [List.getD_eq_getElem?_getD, List.getElem?_eq_getElem (show m < ln.length by omega)]
  · rw [Lib.extract_eq]; simp
  · rw [ByteArray.size_extract]; omega
set_option maxHeartbeats 8000000 in
set_option maxRecDepth 100000 in
theorem rparse_some (s : ByteArray) (h : s.size ≤ 20000) (h0 : 0 < s.size) (w : World) :
    Calls Tryd.prog 18 #[.string s] w fun e w' => ∃ v, e = .returned (.tuple #[v, .int .i64 ((prsF s.data.toList).2.1 : Nat), .int .i64 (prsF s.data.toList).2.2]) ∧ FunAt w' v (prsF s.data.toList).1 ∧ New w w' := by
  have H1 : Hid (∀ k, rlF (linesL s.data.toList) 0 [] [] = (none, k) → prsF s.data.toList = ([], k, 2)) := Lib.hid (fun k hk => tail_none (by rw [size_list]; exact h) hk)
  have H2 : Hid (∀ f bs k, rlF (linesL s.data.toList) 0 [] [] = (some (f, bs), k) → bs.length = f.length ∧ prsF s.data.toList = tailF f bs) := Lib.hid (fun f bs k hk => tail_some (by rw [size_list]; exact h) hk)
  have HNE : Hid (∀ ln ∈ linesL s.data.toList, ln ≠ []) := Lib.hid (lines_ne s.data.toList [])
  have HSUM : Hid ((linesL s.data.toList).flatten.length = s.size) := Lib.hid (by unfold linesL; rw [lines_sum]; rfl)
  have HLL : Hid ((linesL s.data.toList).length ≤ s.size) := Lib.hid (by have := lines_len s.data.toList []; simpa [size_list, linesL] using this)
  have HS := Lib.hid h
  have hLn : Hid ((linesL s.data.toList).length ≠ 0) := Lib.hid (by
    intro e
    have := HSUM.out
    rw [List.length_eq_zero_iff.mp e] at this
    simp at this
    omega)
  have HLI : Hid (∀ w, Calls Tryd.prog 31 #[.string s] w fun e w' => ∃ v, e = .returned v ∧ w'.ownsRow w.heap.size 9 1 v (linesL s.data.toList).length ((linesL s.data.toList).map strV) ∧ New w w') := Lib.hid (fun w => lines_any s (by omega) w)
  generalize linesL s.data.toList = L at *
  generalize prsF s.data.toList = R at *
  obtain ⟨ll, HLN⟩ : ∃ ll, Hid (L.length = ll) := ⟨_, Lib.hid rfl⟩
  have hll : ll ≤ 20000 := by have := HLL.out; rw [HLN.out] at this; omega
  obtain ⟨i0, hi, hz0, hz1, hz2⟩ := info_parts infoI6
  obtain ⟨j0, hj, hy0, hy1, hy2⟩ := info_parts infoInt
  have HI := Lib.hid hi; have HZ0 := Lib.hid hz0; have HZ1 := Lib.hid hz1; have HZ2 := Lib.hid hz2
  have HJ := Lib.hid hj; have HY0 := Lib.hid hy0; have HY1 := Lib.hid hy1; have HY2 := Lib.hid hy2
  have q1 : decide ((20000 : Int) < (s.size : Int)) = false := by simp; omega
  clear hi hz0 hz1 hz2 hj hy0 hy1 hy2 h h0
  go_enter Tryd.func18, Tryd.ntmps18
  go_wp2_with (go_at_call 31; refine (HLI.out _).mono ?_; rintro e w1 ⟨lv, rfl, hol, hn1⟩; obtain ⟨g, cap, rfl⟩ := str_at hol hLn.out; rw [HLN.out] at hol; have HOL := Lib.hid hol; have HN1 := Lib.hid hn1; rw [HLN.out]; clear hol hn1)
  go_loopw [6, 7, 8, 9] (fun fv bv av iv wr => ∃ (i b : Nat) (f : List I) (bs : List Nat), iv = .int .i64 i ∧ av = .int .i64 b ∧ i ≤ ll ∧ b ≤ 20000 ∧ Hid (wr.ownsRow w.heap.size 41 6 fv f.length (flat6 f)) ∧ Hid (wr.ownsRow w.heap.size 3 1 bv bs.length (bs.map natV)) ∧ Hid (wr.ownsRow w.heap.size 9 1 (.slice (some ⟨g, 0, none⟩) ll cap) ll (L.map strV)) ∧ Hid (New w wr) ∧ Hid (rlF (L.drop i) b f bs = rlF L 0 [] []) ∧ Hid (b + (L.drop i).flatten.length = s.size) ∧ Hid (f.length ≤ i ∧ bs.length ≤ i)) (fun _ _ _ iv _ => ll - (intOf iv).toNat)
  case atStart => exact ⟨0, 0, [], [], rfl, rfl, Nat.zero_le _, Nat.zero_le _, Lib.hid (World.ownsRow_nil _ _ _ _), Lib.hid (World.ownsRow_nil _ _ _ _), HOL, HN1, Lib.hid rfl, Lib.hid (by rw [List.drop_zero, Nat.zero_add]; exact HSUM.out), Lib.hid ⟨Nat.le_refl _, Nat.le_refl _⟩⟩
  case round =>
    obtain ⟨i, b, f, bs, rfl, rfl, hil, hb2, hof, hob, hol, hnw, HB, HT, HC⟩ := hrel
    by_cases hilt : i < ll
    · obtain ⟨ln, HLI2⟩ : ∃ ln, Hid (L[i]'(by rw [HLN.out]; exact hilt) = ln) := ⟨_, Lib.hid rfl⟩
      have hnel : ln ≠ [] := by rw [← HLI2.out]; exact HNE.out _ (List.getElem_mem _)
      obtain ⟨m, HM⟩ : ∃ m, Hid (ln.length = m + 1) := ⟨ln.length - 1, Lib.hid (by have := List.length_pos_iff.mpr hnel; omega)⟩
      have HT2 : Hid ((b + m + 1) + (L.drop (i + 1)).flatten.length = s.size) := Lib.hid (by
        have := HT.out
        rw [List.drop_eq_getElem_cons (by rw [HLN.out]; exact hilt), HLI2.out, List.flatten_cons, List.length_append, HM.out] at this
        omega)
      have hbm : b + m + 1 ≤ 20000 := by have := HT2.out; have := HS.out; omega
      obtain ⟨T, hT1, hT2, ⟨hT3, hT4⟩, hT5, hT6⟩ := line_facts HM.out
      have hck : wr.cell? ⟨g, i, none⟩ = some (.string T) := by
        have := str_cell hol.out i (by rw [HLN.out]; exact hilt)
        rw [HLI2.out, hT1] at this
        exact this
      have HLM : Hid ((L[i]'(by rw [HLN.out]; exact hilt)).length = m + 1) := Lib.hid (by rw [HLI2.out]; exact HM.out)
      have HG : Hid ((L[i]'(by rw [HLN.out]; exact hilt)).getD m 0 = ln.getD m 0) := Lib.hid (by rw [HLI2.out])
      have HTK : Hid ((L[i]'(by rw [HLN.out]; exact hilt)).take m = ln.take m) := Lib.hid (by rw [HLI2.out])
      have HT5 := Lib.hid hT5
      have HT6 : Hid ((T.extract 0 m).size ≤ 100000) := Lib.hid (by omega)
      have HBOL := hnel
      clear hnel hT5 hT6 hT1 HBOL
      by_cases h10 : ln.getD m 0 = 10
      · have q : ((T[m].toNat : Int) != 10) = false := by rw [hT4, h10]; rfl
        cases hp : prs (ln.take m) with
        | none =>
          have hR := H1.out b (by rw [← HB.out, rl_bad (by rw [HLN.out]; exact hilt) HLM.out (by rw [HG.out]; exact h10) (by rw [HTK.out]; exact hp)])
          have HP := Lib.hid (rline_bad (T.extract 0 m) HT6.out (by rw [HT5.out]; exact hp))
          have HRR := Lib.hid hR
          clear hp hR h10 hT4
          go_wp2_with (first
            | (go_at_call 32; refine (HP.out _).mono ?_; rintro e w2 ⟨rfl, hn2⟩)
            | (refine wpList_stI rfl rfl (.tmp 11) (.tmp 48) rfl _ rfl ⟨0, 0, 0, 0, 0, 0⟩ rfl (Has.zero _) ?_))
          have hb := hn2.trans (box_new w2 ⟨0, 0, 0, 0, 0, 0⟩)
          have hR := HRR.out
          rw [hR]
          refine bodyPost_ret (by simp [results, Tryd.results18]) rfl ⟨.slice none 0 0, rfl, FunAt.nil _ none 0, hnw.out.trans hb⟩
        | some x =>
          have HP := Lib.hid (rline_good (T.extract 0 m) HT6.out (by rw [HT5.out]; exact hp))
          have HU : Hid (rlF (L.drop (i + 1)) (b + m + 1) (f ++ [x]) (bs ++ [b]) = rlF L 0 [] []) := Lib.hid ((rl_take (by rw [HLN.out]; exact hilt) HLM.out (by rw [HG.out]; exact h10) (by rw [HTK.out]; exact hp)).symm.trans HB.out)
          have hfl : f.length ≤ 20000 := by have := HC.out.1; omega
          have hbl : bs.length ≤ 20000 := by have := HC.out.2; omega
          clear hp h10 hT4
          go_wp2_with (first
            | (go_at_call 32; refine (HP.out _).mono ?_; rintro e w2 ⟨rfl, hn2⟩)
            | (refine wpList_stI rfl rfl (.tmp 11) (.tmp 48) rfl _ rfl x rfl (Has.zero _) ?_; have HNB := Lib.hid (hn2.trans (box_new w2 x)))
            | (refine wpList_ldI rfl (.tmp 11) rfl _ rfl ((Has.zero w2).stored x) ?_)
            | (at_builtin; refine wpList_append_own _ rfl (.tmp 53) (.tmp 55) 22 rfl w.heap.size 41 i0 _ 6 48 Tryd.underlying22 HI.out HZ0.out HZ1.out HZ2.out rfl (by decide) _ _ _ rfl ((owns_new hof.out HNB.out).alloc _) ⟨_, 0, none⟩ 1 1 (cells6 x) rfl rfl (six_new _ _ _) (six_one x) (by unfold maxLen; omega) (by omega) (by have := (hnw.out.trans HNB.out).alloc (.cells #[.int .i64 x.op, .int .i64 x.d, .int .i64 x.a, .int .i64 x.b, .int .i64 x.n, .int .i64 x.t] 41) |>.size; exact this) ?_; intro v3 w3 hown3 hgrow3 hnil3; have S3 := Lib.hid (grow_keep (by decide) (by decide) (owns_new hof.out HNB.out) (owns_new hob.out HNB.out) (owns_new hol.out HNB.out) (hnw.out.trans HNB.out) hgrow3); have O3 := Lib.hid hown3; clear hown3 hgrow3 hnil3)
            | (at_builtin; refine wpList_append_own _ rfl (.tmp 57) (.tmp 59) 58 rfl w.heap.size 3 j0 _ 1 8 Tryd.underlying58 HJ.out HY0.out HY1.out HY2.out rfl (by decide) _ _ _ rfl (S3.out.1.alloc _) ⟨_, 0, none⟩ 1 1 [natV b] rfl rfl (one_new _ _ _) (by intro u hu; simp at hu; subst hu; rfl) (by unfold maxLen; omega) (by omega) (by have := S3.out.2.2.alloc (.cells #[.int .i64 b] 3) |>.size; exact this) ?_; intro v4 w4 hown4 hgrow4 hnil4; have S4 := Lib.hid (grow_keep (by decide) (by decide) S3.out.1 O3.out S3.out.2.1 S3.out.2.2 hgrow4); have O4 := Lib.hid hown4; clear hown4 hgrow4 hnil4))
          go_roundw
          case rel =>
            refine ⟨i + 1, b + m + 1, f ++ [x], bs ++ [b], by go_num, by go_num, by omega, hbm, Lib.hid ?_, Lib.hid ?_, Lib.hid S4.out.2.1, Lib.hid S4.out.2.2, Lib.hid HU.out, Lib.hid HT2.out, Lib.hid (by have := HC.out; simp; omega)⟩
            · rw [flat6_app, flat6_one, List.length_append]; exact S4.out.1
            · rw [List.map_append, List.length_append]; exact O4.out
          case measure => simp [intOf]; omega
      · have q : ((T[m].toNat : Int) != 10) = true := by
          have hne : (ln.getD m 0).toNat ≠ 10 := fun e => h10 (UInt8.toNat_inj.mp (show (ln.getD m 0).toNat = (10 : UInt8).toNat from e))
          rw [hT4, bne, bneq_of (by omega)]
          rfl
        have hR := H1.out b (by rw [← HB.out, rl_no10 (by rw [HLN.out]; exact hilt) HLM.out (by rw [HG.out]; exact h10)])
        have HRR := Lib.hid hR
        clear hR h10 hT4
        go_wp2
        have hR := HRR.out
        rw [hR]
        refine bodyPost_ret (by simp [results, Tryd.results18]) rfl ⟨.slice none 0 0, rfl, FunAt.nil _ none 0, hnw.out⟩
    · obtain rfl : i = ll := by omega
      have hE : rlF L 0 [] [] = (some (f, bs), b) := by rw [← HB.out, List.drop_of_length_le (by rw [HLN.out]; omega), rlF]
      obtain ⟨hbf, hR⟩ := H2.out f bs b hE
      have HRR := Lib.hid hR
      have HBF := Lib.hid hbf
      obtain ⟨fo, fcap, rfl⟩ := own_form hof.out
      clear hR hbf hE
      by_cases c3 : (chkF f).2 = 0
      · have e1 := beq_of c3
        have HC3 := Lib.hid c3
        clear c3
        go_wp2_with (go_at_call 12; refine (rasmCheck_any _ f _ (fun_own hof.out)).mono ?_; rintro e w2 ⟨rfl, hn2⟩)
        have hR := HRR.out
        have e3 : tailF f bs = (f, 0, 0) := by unfold tailF; rw [if_pos HC3.out]
        rw [hR, e3]
        refine bodyPost_ret (by simp [results, Tryd.results18]) rfl ⟨_, rfl, (fun_own hof.out).new hn2, hnw.out.trans hn2⟩
      · have e1 := bneq_of c3
        by_cases c4 : f.length = 0
        · have e3 : tailF f bs = ([], 0, (chkF f).2) := by unfold tailF; rw [if_neg c3, if_pos c4]
          have HC3 := Lib.hid e3
          have e4 : ((f.length : Int) == 0) = true := by simp [c4]
          clear c3 c4 e3
          go_wp2_with (go_at_call 12; refine (rasmCheck_any _ f _ (fun_own hof.out)).mono ?_; rintro e w2 ⟨rfl, hn2⟩)
          have hR := HRR.out
          have e3 := HC3.out
          rw [hR, e3]
          refine bodyPost_ret (by simp [results, Tryd.results18]) rfl ⟨.slice none 0 0, rfl, FunAt.nil _ none 0, hnw.out.trans hn2⟩
        · have e3 : tailF f bs = ([], bs.getD (chkF f).1 0, (chkF f).2) := by unfold tailF; rw [if_neg c3, if_neg c4]
          have HC3 := Lib.hid e3
          have e4 : ((f.length : Int) == 0) = false := by simp; intro e; exact c4 (by rw [e]; rfl)
          have hlt : (chkF f).1 < bs.length := by rw [HBF.out]; exact chkF_lt c4
          obtain ⟨gb, capb, rfl, hkn, hck⟩ := int_at hob.out (chkF f).1 hlt
          have HCK := Lib.hid hck
          clear c3 c4 e3 hck
          go_wp2_with (go_at_call 12; refine (rasmCheck_any _ f _ (fun_own hof.out)).mono ?_; rintro e w2 ⟨rfl, hn2⟩; have hck2 := hn2.cell HCK.out)
          go_region
          all_goals (try go_wp2)
          all_goals
            have hR := HRR.out
            have e3 := HC3.out
            rw [hR, e3]
            refine bodyPost_ret (by simp [results, Tryd.results18, List.getElem?_eq_getElem hlt]) rfl ⟨.slice none 0 0, rfl, FunAt.nil _ none 0, (hnw.out.trans hn2).drew⟩
theorem prsF_nil : prsF [] = ([], 0, 5) := rfl
set_option maxHeartbeats 1000000 in
theorem rparse_none (s : ByteArray) (h : s.data.toList = []) (w : World) :
    Calls Tryd.prog 18 #[.string s] w fun e w' => e = .returned (.tuple #[.slice none 0 0, .int .i64 0, .int .i64 5]) ∧ New w w' := by
  have hz : s.size = 0 := by rw [← size_list, h]; rfl
  have HLI : Hid (∀ w, Calls Tryd.prog 31 #[.string s] w fun e w' => ∃ ao cap, e = .returned (.slice ao 0 cap) ∧ New w w') := Lib.hid (fun w => (lines_any s (by omega) w).mono fun e w' ⟨v, he, hv, hn⟩ => by
    rw [h] at hv
    obtain ⟨ao, cap, rfl⟩ := own_form hv
    exact ⟨ao, cap, he, hn⟩)
  clear h
  go_enter Tryd.func18, Tryd.ntmps18
  go_wp2_with (go_at_call 31; refine (HLI.out _).mono ?_; rintro e w1 ⟨ao, cap, rfl, hn1⟩)
  refine wp_loop_rounds 1 ?_
  rw [rounds_succ]
  go_wp2_with (go_at_call 12; refine (rcheck_none none 0 _).mono ?_; rintro e w2 ⟨rfl, hn2⟩)
  refine bodyPost_ret (by simp [results, Tryd.results18]) rfl ⟨rfl, hn1.trans hn2⟩
theorem rasmParse_any (s : ByteArray) (w : World) :
    Calls Tryd.prog 18 #[.string s] w fun e w' => ∃ v, e = .returned (.tuple #[v, .int .i64 ((prsF s.data.toList).2.1 : Nat), .int .i64 (prsF s.data.toList).2.2]) ∧ FunAt w' v (prsF s.data.toList).1 ∧ New w w' := by
  by_cases h : s.size ≤ 20000
  · by_cases h0 : 0 < s.size
    · exact rparse_some s h h0 w
    · have hn : s.data.toList = [] := List.length_eq_zero_iff.mp (by rw [size_list]; omega)
      rw [hn, prsF_nil]
      exact (rparse_none s hn w).mono fun e w' ⟨he, hw⟩ => ⟨_, he, FunAt.nil _ none 0, hw⟩
  · have e : prsF s.data.toList = ([], 0, 3) := by unfold prsF; rw [if_pos (by rw [size_list]; omega)]
    rw [e]
    exact (rparse_full s (by omega) w).mono fun e w' ⟨he, hw⟩ => ⟨_, he, FunAt.nil _ none 0, hw⟩
end Go.Proofs.YtoeplfhigpdopaaDoor
