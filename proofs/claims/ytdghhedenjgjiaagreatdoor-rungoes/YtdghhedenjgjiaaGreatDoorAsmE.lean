/-
  The contracts of asm.eachLine (with Parse's closure) and asm.Parse: for every text.
-/
import Derived.Test.YtdghhedenjgjiaaGreatDoorAsmD
namespace Go.Proofs.YtdghhedenjgjiaaGreatDoor
open Go.RowKit

theorem cut_extract (s : ByteArray) (b p : Nat) : (s.extract b p).data.toList = cutB s.data.toList b p := by
  rw [Lib.extract_eq]; simp [cutB]
theorem cut_size (s : ByteArray) (b p : Nat) : (s.extract b p).size ≤ s.size := by
  rw [ByteArray.size_extract]; omega
theorem St.new {w w' : World} {B : Nat} {f : List I} {bs : List Nat} (h : St w B f bs) (hn : New w w') : St w' B f bs := by
  obtain ⟨vf, vb, h⟩ := h
  exact ⟨vf, vb, h.new hn⟩
theorem St.put {w : World} {B G : Nat} {f : List I} {bs : List Nat} {s : ByteArray} {p : Nat} (h : St w B f bs) (hG : w.heap[G]? = some (Obj.stringIter s p)) (p' : Nat) : St (putO w G (Obj.stringIter s p')) B f bs := by
  obtain ⟨vf, vb, h1, h2, h3, h4⟩ := h
  have ne : ∀ {k : Nat} {cs : Array Value} {t : TypeId} {fr : Nat × Nat}, w.heap[k]? = some (.cells cs t fr) → k ≠ G := by
    rintro k cs t fr hk rfl
    rw [hG] at hk
    simp at hk
  have own : ∀ {base e size n : Nat} {v : Value} {xs : List Value}, w.ownsRow base e size v n xs → (putO w G (Obj.stringIter s p')).ownsRow base e size v n xs := by
    intro base e size n v xs h
    exact ⟨h.1, h.2.elim .inl fun ⟨g, cap, cur, k1, k2, k3, k4⟩ => .inr ⟨g, cap, cur, k1, k2, by rw [putO_other (ne k3)]; exact k3, k4⟩⟩
  exact ⟨vf, vb, by rw [putO_other (ne h1)]; exact h1, by rw [putO_other (ne h2)]; exact h2, own h3, own h4⟩
set_option maxHeartbeats 2000000 in
set_option maxRecDepth 100000 in
theorem eachLine_any {w0 : World} (s : ByteArray) (hs : s.size ≤ 20000) (B : Nat) (hB : w0.heap.size ≤ B) (w : World) (hl : Hid (Laid w0)) (hn : New w0 w) (h : St w B [] []) :
    Calls Tryz.prog 49 #[.string s, .func (.func 50) #[] #[.pointer (some ⟨B, 0, none⟩), .pointer (some ⟨B + 1, 0, none⟩)]] w fun e w' =>
      e = .returned (.int .i64 (readF s.data.toList).1) ∧ St w' B (readF s.data.toList).2.1 (readF s.data.toList).2.2 ∧ New w0 w' := by
  have HS := Lib.hid hs
  have HH := Lib.hid h
  have HB0 := Lib.hid hB
  have HBW : Hid (B < w.heap.size) := Lib.hid (by obtain ⟨vf, vb, h1, _⟩ := h; exact heap_lt h1)
  have HNW := Lib.hid hn
  clear h hB hn
  go_enter Tryz.func49, Tryz.ntmps49
  go_wp2
  go_loopw [5] (fun bv wr => ∃ (pos b : Nat) (f : List I) (bs : List Nat), bv = .int .i64 b ∧ b ≤ pos ∧ pos ≤ s.size ∧ wr.heap[w.heap.size]? = some (Obj.stringIter s pos) ∧ Hid (St wr B f bs) ∧ Hid (New w0 wr) ∧ Hid (rdF (s.data.toList.drop pos) (cutB s.data.toList b pos) b f bs = readF s.data.toList) ∧ Hid (f.length ≤ b ∧ bs.length ≤ b)) (fun _ wr => s.size - wr.iterPos w.heap.size)
  case atStart =>
    exact ⟨0, 0, [], [], rfl, Nat.le_refl _, Nat.zero_le _, alloc_at rfl _, Lib.hid (HH.out.new (alloc_new _ _)), Lib.hid (HNW.out.alloc _), Lib.hid rfl, Lib.hid ⟨Nat.zero_le _, Nat.zero_le _⟩⟩
  case round =>
    obtain ⟨pos, b, f, bs, rfl, hbp, hps, hit, hst, hnw, HB, HF⟩ := hrel
    by_cases hp : pos < s.size
    · have hnx : ∀ ty, (Instr.next (.pointer (some ⟨w.heap.size, 0, none⟩)) true ty).run Tryz.prog wr = _ := fun ty => next_at hit hp ty
      have hra := rune_at s pos hp
      generalize hdc : Utf8.decode s pos = dc at hnx hra
      obtain ⟨r, sz⟩ := dc
      have HNP := Lib.hid (hnw.out.put (g := w.heap.size) HNW.out.size (Obj.stringIter s (pos + sz)))
      have HTP := Lib.hid (hst.out.put hit (pos + sz))
      have HIP := Lib.hid (putO_same (o := Obj.stringIter s (pos + sz)) hit)
      have HIT := Lib.hid hit
      clear hdc
      simp only [] at hnx hra
      rcases hra with ⟨h10, hsz, hdrop⟩ | ⟨h10, h1, h2, hno⟩
      · subst h10
        subst hsz
        have HD := Lib.hid hdrop
        clear hdrop
        have HE : Hid ((s.extract b pos).data.toList = cutB s.data.toList b pos) := Lib.hid (cut_extract s b pos)
        have HZ : Hid ((s.extract b pos).size ≤ 281474976710656) := Lib.hid (by have := cut_size s b pos; have := HS.out; omega)
        cases hpr : prs (cutB s.data.toList b pos) with
        | none =>
          have HR : Hid ((b, f, bs) = readF s.data.toList) := Lib.hid (by rw [← HB.out, rd_leave HD.out hpr])
          have HP := Lib.hid hpr
          clear hpr
          go_wp2_with (go_at_call 50; refine (take_bad B b (s.extract b pos) HZ.out f bs (by rw [HE.out]; exact HP.out) _ hl HNP.out HTP.out).mono ?_; rintro e w1 ⟨rfl, ht1, ht2, ht3⟩)
          have HR := HR.out
          rw [← HR]
          go_ret
          exact ⟨rfl, ht1, ht2⟩
        | some x =>
          have HR : Hid (rdF (s.data.toList.drop (pos + 1)) (cutB s.data.toList (pos + 1) (pos + 1)) (pos + 1) (f ++ [x]) (bs ++ [b]) = readF s.data.toList) := Lib.hid (by rw [← HB.out, rd_take hbp hp HD.out hpr])
          have HP := Lib.hid hpr
          clear hpr
          go_wp2_with (go_at_call 50; refine (take_good B b (s.extract b pos) HZ.out f bs x (by rw [HE.out]; exact HP.out) (by have := HF.out.1; omega) (by have := HF.out.2; omega) HB0.out _ hl HNP.out HTP.out).mono ?_; rintro e w1 ⟨rfl, ht1, ht2, ht3⟩)
          go_roundw
          case rel => exact ⟨pos + 1, pos + 1, f ++ [x], bs ++ [b], by go_num, Nat.le_refl _, hp, ht3 _ _ _ HIP.out, Lib.hid ht1, Lib.hid ht2, Lib.hid HR.out, Lib.hid (by have := HF.out; simp; omega)⟩
          case measure => rw [iterPos_at (ht3 _ _ _ HIP.out), iterPos_at HIT.out]; omega
      · have q : (((r : Nat) : Int) != 10) = true := by simp; omega
        have HR : Hid (rdF (s.data.toList.drop (pos + sz)) (cutB s.data.toList b (pos + sz)) b f bs = readF s.data.toList) := Lib.hid (by rw [← HB.out, rd_pass hbp hno])
        clear h10 hno
        go_wp2
        go_roundw
        case rel => exact ⟨pos + sz, b, f, bs, rfl, by omega, h2, HIP.out, HTP, HNP, Lib.hid HR.out, HF⟩
        case measure => rw [iterPos_at HIP.out, iterPos_at HIT.out]; omega
    · have hnx : ∀ ty, (Instr.next (.pointer (some ⟨w.heap.size, 0, none⟩)) true ty).run Tryz.prog wr = _ := fun ty => next_stop hit hp ty
      have HR : Hid ((b, f, bs) = readF s.data.toList) := Lib.hid (by rw [← HB.out, rd_end hp])
      go_wp2
      have HR := HR.out
      rw [← HR]
      go_ret
      exact ⟨rfl, hst.out, hnw.out⟩
/-- The two variables, as Parse makes them. -/
theorem st_made (w : World) : St ((w.alloc (.cells #[.slice none 0 0] 22)).alloc (.cells #[.slice none 0 0] 79)) w.heap.size [] [] := by
  refine ⟨.slice none 0 0, .slice none 0 0, ?_, ?_, World.ownsRow_nil _ _ _ _, World.ownsRow_nil _ _ _ _⟩
  · exact (alloc_new _ _).heap (heap_alloc_new _ _)
  · exact alloc_at (by rw [alloc_size]) _
theorem int_at {w : World} {base e n : Nat} {v : Value} {bs : List Nat} (h : w.ownsRow base e 1 v n (bs.map natV)) (k : Nat) (hk : k < bs.length) :
    ∃ g cap, v = .slice (some ⟨g, 0, none⟩) n cap ∧ k < n ∧ w.cell? ⟨g, k, none⟩ = some (.int .i64 (bs.getD k 0 : Nat)) := by
  have hn := h.1
  rw [List.length_map, Nat.mul_one] at hn
  rcases h.2 with ⟨_, h0⟩ | ⟨g, cap, cur, hv, _⟩
  · omega
  · refine ⟨g, cap, hv, by omega, ?_⟩
    have := h.cells (g := g) (by rw [hv]; rfl) k (natV (bs.getD k 0)) (by rw [List.getElem?_map, List.getElem?_eq_getElem hk, List.getD_eq_getElem?_getD, List.getElem?_eq_getElem hk]; rfl)
    rw [Addr.add_mid, Nat.zero_add] at this
    exact this
theorem own_form {w : World} {base e size n : Nat} {v : Value} {xs : List Value} (h : w.ownsRow base e size v n xs) : ∃ ao cap, v = .slice ao n cap := by
  rcases h.2 with ⟨h1, rfl⟩ | ⟨g, cap, cur, h1, _⟩
  · exact ⟨none, 0, h1⟩
  · exact ⟨_, cap, h1⟩
theorem asmParse_full (s : ByteArray) (h : 20000 < s.size) (w : World) :
    Calls Tryz.prog 33 #[.string s] w fun e w' => e = .returned (.tuple #[.slice none 0 0, .int .i64 0, .int .i64 3]) ∧ New w w' := by
  go_enter Tryz.func33, Tryz.ntmps33
  go_wp2
  all_goals refine bodyPost_ret (by simp [results, Tryz.results33]) rfl ⟨rfl, ?_⟩
  all_goals exact New.refl _
set_option maxHeartbeats 2000000 in
set_option maxRecDepth 100000 in
theorem asmParse_form (s : ByteArray) (h : s.size ≤ 20000) (r : Nat) (f : List I) (bs : List Nat) (hr : readF s.data.toList = (r, f, bs)) (hrs : r < s.size) (w : World) (hl : Laid w) :
    Calls Tryz.prog 33 #[.string s] w fun e w' => e = .returned (.tuple #[.slice none 0 0, .int .i64 r, .int .i64 2]) ∧ New w w' := by
  have HL := Lib.hid hl
  have HR := Lib.hid hr
  have HS := Lib.hid h
  clear hl hr
  go_enter Tryz.func33, Tryz.ntmps33
  go_wp2_with (go_at_call 49; refine (eachLine_any (w0 := w) s HS.out w.heap.size (Nat.le_refl _) _ HL (((New.refl _).alloc _).alloc _) (st_made w)).mono ?_; rw [HR.out]; rintro e w1 ⟨rfl, hst, hn1⟩)
  refine bodyPost_ret (by simp [results, Tryz.results33]) rfl ⟨rfl, hn1⟩
set_option maxHeartbeats 2000000 in
set_option maxRecDepth 100000 in
theorem asmParse_good (s : ByteArray) (h : s.size ≤ 20000) (r : Nat) (f : List I) (bs : List Nat) (hr : readF s.data.toList = (r, f, bs)) (hrs : ¬ r < s.size) (hc : (chkF f).2 = 0) (w : World) (hl : Laid w) :
    Calls Tryz.prog 33 #[.string s] w fun e w' => ∃ v, e = .returned (.tuple #[v, .int .i64 0, .int .i64 0]) ∧ FunAt w' v f ∧ New w w' := by
  have HL := Lib.hid hl
  have HR := Lib.hid hr
  have HS := Lib.hid h
  clear hl hr
  go_enter Tryz.func33, Tryz.ntmps33
  go_wp2_with (first
    | (go_at_call 49; refine (eachLine_any (w0 := w) s HS.out w.heap.size (Nat.le_refl _) _ HL (((New.refl _).alloc _).alloc _) (st_made w)).mono ?_; rw [HR.out]; rintro e w1 ⟨rfl, hst, hn1⟩; obtain ⟨vf, vb, hst⟩ := hst; have HST := Lib.hid hst; clear hst)
    | (refine wpList_ld1 rfl 22 Tryz.isAgg22 (.tmp 5) rfl _ rfl HST2.out.1 ?_)
    | (refine wpList_ld1 rfl 22 Tryz.isAgg22 (.tmp 5) rfl _ rfl HST.out.1 ?_)
    | (go_at_call 52; refine (asmCheck_any vf f _ (HL.out.new hn1) (fun_own HST.out.2.2.1)).mono ?_; rintro e w2 ⟨rfl, hn2⟩; have HST2 := Lib.hid (HST.out.new hn2)))
  refine bodyPost_ret (by simp [results, Tryz.results33]) rfl ⟨vf, rfl, fun_own HST2.out.2.2.1, hn1.trans hn2⟩
set_option maxHeartbeats 2000000 in
set_option maxRecDepth 100000 in
theorem asmParse_none (s : ByteArray) (h : s.size ≤ 20000) (r : Nat) (f : List I) (hr : readF s.data.toList = (r, f, [])) (hrs : ¬ r < s.size) (hc : ((chkF f).2 == 0) = false) (w : World) (hl : Laid w) :
    Calls Tryz.prog 33 #[.string s] w fun e w' => e = .returned (.tuple #[.slice none 0 0, .int .i64 0, .int .i64 (chkF f).2]) ∧ New w w' := by
  have HL := Lib.hid hl
  have HR := Lib.hid hr
  have HS := Lib.hid h
  clear hl hr
  go_enter Tryz.func33, Tryz.ntmps33
  go_wp2_with (first
    | (go_at_call 49; refine (eachLine_any (w0 := w) s HS.out w.heap.size (Nat.le_refl _) _ HL (((New.refl _).alloc _).alloc _) (st_made w)).mono ?_; rw [HR.out]; rintro e w1 ⟨rfl, hst, hn1⟩; obtain ⟨vf, vb, hst⟩ := hst; have HST := Lib.hid hst; clear hst)
    | (refine wpList_ld1 rfl 22 Tryz.isAgg22 (.tmp 5) rfl _ rfl HST2.out.1 ?_)
    | (refine wpList_ld1 rfl 22 Tryz.isAgg22 (.tmp 5) rfl _ rfl HST.out.1 ?_)
    | (refine wpList_ld1 rfl 79 Tryz.isAgg79 (.tmp 6) rfl _ rfl HST2.out.2.1 ?_)
    | (go_at_call 52; refine (asmCheck_any vf f _ (HL.out.new hn1) (fun_own HST.out.2.2.1)).mono ?_; rintro e w2 ⟨rfl, hn2⟩; have HST2 := Lib.hid (HST.out.new hn2); obtain ⟨ao, cap, rfl⟩ := own_form HST2.out.2.2.2))
  refine bodyPost_ret (by simp [results, Tryz.results33]) rfl ⟨rfl, hn1.trans hn2⟩
set_option maxHeartbeats 2000000 in
set_option maxRecDepth 100000 in
theorem asmParse_bad (s : ByteArray) (h : s.size ≤ 20000) (r : Nat) (f : List I) (bs : List Nat) (hr : readF s.data.toList = (r, f, bs)) (hrs : ¬ r < s.size) (hc : ((chkF f).2 == 0) = false) (h0 : ((bs.length : Int) == 0) = false) (hlt : (chkF f).1 < bs.length) (w : World) (hl : Laid w) :
    Calls Tryz.prog 33 #[.string s] w fun e w' => e = .returned (.tuple #[.slice none 0 0, .int .i64 (bs.getD (chkF f).1 0 : Nat), .int .i64 (chkF f).2]) ∧ New w w' := by
  have HL := Lib.hid hl
  have HR := Lib.hid hr
  have HS := Lib.hid h
  clear hl hr
  go_enter Tryz.func33, Tryz.ntmps33
  go_wp2_with (first
    | (go_at_call 49; refine (eachLine_any (w0 := w) s HS.out w.heap.size (Nat.le_refl _) _ HL (((New.refl _).alloc _).alloc _) (st_made w)).mono ?_; rw [HR.out]; rintro e w1 ⟨rfl, hst, hn1⟩; obtain ⟨vf, vb, hst⟩ := hst; have HST := Lib.hid hst; clear hst)
    | (refine wpList_ld1 rfl 22 Tryz.isAgg22 (.tmp 5) rfl _ rfl HST2.out.1 ?_)
    | (refine wpList_ld1 rfl 22 Tryz.isAgg22 (.tmp 5) rfl _ rfl HST.out.1 ?_)
    | (refine wpList_ld1 rfl 79 Tryz.isAgg79 (.tmp 6) rfl _ rfl HST2.out.2.1 ?_)
    | (go_at_call 52; refine (asmCheck_any vf f _ (HL.out.new hn1) (fun_own HST.out.2.2.1)).mono ?_; rintro e w2 ⟨rfl, hn2⟩; have HST2 := Lib.hid (HST.out.new hn2); obtain ⟨g, cap, rfl, hkn, hck⟩ := int_at HST2.out.2.2.2 (chkF f).1 hlt; have hcb := cell_of_one HST2.out.2.1))
  go_region
  all_goals (try go_wp2)
  all_goals refine bodyPost_ret (by simp [results, Tryz.results33, List.getElem?_eq_getElem hlt]) rfl ⟨rfl, (hn1.trans hn2).drew⟩
theorem asmParse_any (s : ByteArray) (w : World) (hl : Laid w) :
    Calls Tryz.prog 33 #[.string s] w fun e w' => ∃ v, e = .returned (.tuple #[v, .int .i64 ((prsF s.data.toList).2.1 : Nat), .int .i64 (prsF s.data.toList).2.2]) ∧ FunAt w' v (prsF s.data.toList).1 ∧ New w w' := by
  have hsz := size_list s
  unfold prsF
  by_cases c1 : 20000 < s.data.toList.length
  · rw [if_pos c1]
    refine (asmParse_full s (by omega) w).mono fun e w' ⟨he, hn⟩ => ⟨_, he, FunAt.nil _ _ _, hn⟩
  · rw [if_neg c1]
    generalize hr : readF s.data.toList = R
    obtain ⟨r, f, bs⟩ := R
    by_cases c2 : r < s.data.toList.length
    · rw [if_pos c2]
      exact (asmParse_form s (by omega) r f bs hr (by omega) w hl).mono fun e w' ⟨he, hn⟩ => ⟨_, he, FunAt.nil _ _ _, hn⟩
    · rw [if_neg c2]
      by_cases c3 : (chkF f).2 = 0
      · rw [if_pos c3]
        exact asmParse_good s (by omega) r f bs hr (by omega) c3 w hl
      · rw [if_neg c3]
        by_cases c4 : bs.length = 0
        · rw [if_pos c4]
          obtain rfl := List.length_eq_zero_iff.mp c4
          exact (asmParse_none s (by omega) r f hr (by omega) (by simp [c3]) w hl).mono fun e w' ⟨he, hn⟩ => ⟨_, he, FunAt.nil _ _ _, hn⟩
        · rw [if_neg c4]
          have hb := rd_begins s.data.toList [] 0 [] [] rfl
          have hb : bs.length = f.length := by
            have e : rdF s.data.toList [] 0 [] [] = (r, f, bs) := hr
            rw [e] at hb
            exact hb
          exact (asmParse_bad s (by omega) r f bs hr (by omega) (by simp [c3]) (by simp; intro e; exact c4 (by rw [e]; rfl)) (by rw [hb]; exact chkF_lt (by omega)) w hl).mono fun e w' ⟨he, hn⟩ => ⟨_, he, FunAt.nil _ _ _, hn⟩
theorem asmParse_from {w0 : World} (s : ByteArray) (w : World) (hl : Hid (Laid w0)) (h : New w0 w) :
    Calls Tryz.prog 33 #[.string s] w fun e w' => ∃ v, e = .returned (.tuple #[v, .int .i64 ((prsF s.data.toList).2.1 : Nat), .int .i64 (prsF s.data.toList).2.2]) ∧ FunAt w' v (prsF s.data.toList).1 ∧ New w0 w' ∧ New w w' :=
  (asmParse_any s w (hl.out.new h)).mono fun _ _ ⟨v, he, hf, hw⟩ => ⟨v, he, hf, h.trans hw, hw⟩
end Go.Proofs.YtdghhedenjgjiaaGreatDoor
