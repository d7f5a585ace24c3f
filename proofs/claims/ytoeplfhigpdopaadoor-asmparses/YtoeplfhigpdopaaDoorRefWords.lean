/-
  The reference's Words (joineryref03): the words of a text, parted by one space each.
-/
import Derived.Test.YtoeplfhigpdopaaDoorOwns
import Derived.Test.YtoeplfhigpdopaaDoorInsB
namespace Go.Proofs.YtoeplfhigpdopaaDoor
open Go.RowKit

/-- The words of a text, behind what has been gathered of the first. -/
def wordsR : List UInt8 → List UInt8 → List (List UInt8)
  | cur, [] => [cur]
  | cur, c :: l => if c = 32 then cur :: wordsR [] l else wordsR (cur ++ [c]) l
def wordsL (l : List UInt8) : List (List UInt8) := wordsR [] l
theorem infoStr : (Tryd.prog.info? 9).map (fun i => (i.zero, i.size, i.bytes)) = some (some (.string ⟨#[]⟩), 1, 16) := by kernel_rfl
def strV (l : List UInt8) : Value := .string ⟨l.toArray⟩

theorem str_step {w wr w2 : World} {e : TypeId} {v v' : Value} {acc : List (List UInt8)} {y : List UInt8}
    (hn : New w wr) (hown : wr.ownsRow w.heap.size e 1 v acc.length (acc.map strV))
    (hown' : w2.ownsRow w.heap.size e 1 v' (acc.length + 1) (acc.map strV ++ [strV y])) (hg : (wr.alloc (.cells #[strV y] e)).grownBy w2 v.ownBlock) :
    New w w2 ∧ w2.ownsRow w.heap.size e 1 v' (acc ++ [y]).length ((acc ++ [y]).map strV) := by
  have hr := owns_row hown
  refine ⟨?_, ?_⟩
  · refine Below.grown (hn.alloc _) hg ?_ (fun k hk => hr k hk)
    exact (hn.alloc (.cells #[strV y] e)).size
  · simpa using hown'

set_option maxHeartbeats 4000000 in
set_option maxRecDepth 100000 in
theorem words_any (s : ByteArray) (hs : s.size ≤ 100000) (w : World) :
    Calls Tryd.prog 50 #[.string s] w fun e w' => ∃ v, e = .returned v ∧ w'.ownsRow w.heap.size 9 1 v (wordsL s.data.toList).length ((wordsL s.data.toList).map strV) ∧ New w w' := by
  obtain ⟨i0, hi, hz0, hz1, hz2⟩ := info_parts infoStr
  go_enter Tryd.func50, Tryd.ntmps50
  go_wp2
  go_loopw [3, 4, 5] (fun v cv iv wr => ∃ (i : Nat) (cur : List UInt8) (acc : List (List UInt8)), i ≤ s.size ∧ iv = .int .i64 i ∧ cv = .string ⟨cur.toArray⟩ ∧ wr.ownsRow w.heap.size 9 1 v acc.length (acc.map strV) ∧ New w wr ∧ Hid (acc ++ wordsR cur (s.data.toList.drop i) = wordsL s.data.toList) ∧ cur.length ≤ i ∧ acc.length ≤ i) (fun _ _ iv _ => s.size - (intOf iv).toNat)
  case atStart => exact ⟨0, [], [], Nat.zero_le _, rfl, rfl, World.ownsRow_nil _ _ _ _, New.refl _, Lib.hid rfl, Nat.le_refl _, Nat.le_refl _⟩
  case round =>
    obtain ⟨i, cur, acc, hi1, rfl, rfl, hown, hnw, HB, hcur, hacc⟩ := hrel
    by_cases hlt : i < s.size
    · have hdrop : s.data.toList.drop i = s[i] :: s.data.toList.drop (i + 1) := by
        rw [List.drop_eq_getElem_cons (by exact hlt)]
        rfl
      have HD := Lib.hid hdrop
      have HO := Lib.hid hown
      clear hdrop hown
      by_cases h32 : s[i].toNat = 32
      · have q : ((s[i].toNat : Int) == 32) = true := beq_of (by omega)
        have HU : Hid ((acc ++ [cur]) ++ wordsR [] (s.data.toList.drop (i + 1)) = wordsL s.data.toList) := Lib.hid (by
          rw [← HB.out, HD.out, wordsR, if_pos (UInt8.toNat_inj.mp h32)]
          simp)
        clear h32
        go_wp2_with (at_builtin; refine wpList_append_own _ rfl (.tmp 16) (.tmp 18) 63 rfl w.heap.size 9 i0 (.string ⟨#[]⟩) 1 16 Tryd.underlying63 hi hz0 hz1 hz2 rfl (by decide) _ _ _ rfl (HO.out.alloc _) ⟨wr.heap.size, 0, none⟩ 1 1 [strV cur] rfl rfl (one_new _ _ _) (by intro u hu; simp at hu; subst hu; rfl) (by unfold maxLen; omega) (by omega) (by rw [alloc_size]; have := hnw.size; omega) ?_; intro v' w2 hown' hgrow hnil)
        obtain ⟨r1, r2⟩ := str_step hnw HO.out hown' hgrow
        go_roundw
        case rel => exact ⟨i + 1, [], acc ++ [cur], by omega, by go_num, rfl, r2, r1, Lib.hid HU.out, by simp, by simp; omega⟩
        case measure => simp [intOf]; omega
      · have q : ((s[i].toNat : Int) == 32) = false := bneq_of (by omega)
        have HU : Hid (acc ++ wordsR (cur ++ [s[i]]) (s.data.toList.drop (i + 1)) = wordsL s.data.toList) := Lib.hid (by
          rw [← HB.out, HD.out, wordsR, if_neg (fun e => h32 (by rw [e]; rfl))])
        have hx1 : (⟨cur.toArray⟩ : ByteArray).size = cur.length := by show cur.toArray.size = _; simp
        have hx2 : (s.extract i (i + 1)).size = 1 := by rw [ByteArray.size_extract]; omega
        have HX : Hid ((⟨cur.toArray⟩ : ByteArray) ++ s.extract i (i + 1) = ⟨(cur ++ [s[i]]).toArray⟩) := Lib.hid (bytes_eq (by
          rw [ByteArray.data_append, Array.toList_append, Lib.extract_eq]
          simp only [HD.out]
          simp))
        have c1 : (0 : Int) ≤ ↑i := by omega
        have c2 : (↑i : Int) ≤ ↑i + 1 := by omega
        have c3 : (↑i + 1 : Int) ≤ ↑s.size := by omega
        clear h32
        go_wp2
        go_roundw
        case rel => exact ⟨i + 1, cur ++ [s[i]], acc, by omega, by go_num, by rw [HX.out], HO.out, hnw, Lib.hid HU.out, by simp; omega, by omega⟩
        case measure => simp [intOf]; omega
    · have HE : Hid (acc ++ [cur] = wordsL s.data.toList) := Lib.hid (by
        rw [← HB.out, List.drop_of_length_le (by rw [size_list]; omega)]; rfl)
      have HO := Lib.hid hown
      clear hown
      go_wp2_with (at_builtin; refine wpList_append_own _ rfl (.tmp 27) (.tmp 29) 63 rfl w.heap.size 9 i0 (.string ⟨#[]⟩) 1 16 Tryd.underlying63 hi hz0 hz1 hz2 rfl (by decide) _ _ _ rfl (HO.out.alloc _) ⟨wr.heap.size, 0, none⟩ 1 1 [strV cur] rfl rfl (one_new _ _ _) (by intro u hu; simp at hu; subst hu; rfl) (by unfold maxLen; omega) (by omega) (by rw [alloc_size]; have := hnw.size; omega) ?_; intro v' w2 hown' hgrow hnil)
      obtain ⟨r1, r2⟩ := str_step hnw HO.out hown' hgrow
      rw [HE.out] at r2
      go_wp2
      go_ret
      exact ⟨_, rfl, r2, r1⟩
end Go.Proofs.YtoeplfhigpdopaaDoor
