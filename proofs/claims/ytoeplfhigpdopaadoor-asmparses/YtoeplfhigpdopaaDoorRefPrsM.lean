/-
  How the reference reads an instruction off its words, as a plain function: of an instruction's own text it is that instruction. No program stands in this text.
-/
import Derived.Test.YtoeplfhigpdopaaDoorInsRead
import Derived.Test.YtoeplfhigpdopaaDoorRefChk
import Derived.Test.YtoeplfhigpdopaaDoorRefWords
namespace Go.Proofs.YtoeplfhigpdopaaDoor
open Go.RowKit

def atW (op : Int) (k : Nat) : Nat := if op = 14 ∨ op = 17 ∨ op = 18 then k + 1 else k
/-- What a word puts into an instruction. -/
def stepW (op : Int) (k : Nat) (x : I) (wd : List UInt8) : I :=
  if (locOf wd).isSome = true then (if atW op k = 1 then { x with d := locN wd } else if atW op k = 2 then { x with a := locN wd } else { x with b := locN wd })
  else if (parseV wd).isSome = true then (if op = 16 ∨ op = 17 then { x with t := parN wd } else { x with n := parN wd })
  else x
def foldW (op : Int) : Nat → I → List (List UInt8) → I
  | _, x, [] => x
  | k, x, wd :: r => foldW op (k + 1) (stepW op k x wd) r

theorem words_app : ∀ (p cur rest : List UInt8), (32 : UInt8) ∉ p → wordsR cur (p ++ rest) = wordsR (cur ++ p) rest
  | [], cur, rest, _ => by simp
  | c :: p, cur, rest, h => by
    have h1 : c ≠ 32 := fun e => h (by simp [e])
    have h2 : (32 : UInt8) ∉ p := fun e => h (List.mem_cons_of_mem _ e)
    rw [List.cons_append, wordsR, if_neg h1, words_app p _ rest h2]
    simp
theorem words_join : ∀ (q : List (Int × Int)) (cur : List UInt8), wordsR cur (joinL q) = cur :: q.map fun p => pieceL p.1 p.2
  | [], cur => rfl
  | p :: q, cur => by
    simp only [joinL, List.map_cons]
    rw [wordsR, if_pos rfl, words_app _ _ _ (piece_no32 p.1 p.2), words_join q]
    simp
theorem words_prt {x : I} (h : knownB x.op = true) : wordsL (prtL x) = wordL x.op.toNat :: (valsOf (letters x.op) x).map fun p => pieceL p.1 p.2 := by
  have hk := known_iff.mp h
  unfold wordsL prtL
  rw [words_app _ _ _ (word_no32 _ (by omega)), words_join]
  simp
theorem words_ne (l : List UInt8) : ∀ cur, wordsR cur l ≠ [] := by
  induction l with
  | nil => intro cur; simp [wordsR]
  | cons c l ih =>
    intro cur
    rw [wordsR]
    split
    · simp
    · exact ih _
theorem loc_itoa (v : Int) : locOf (Lib.itoa v) = none := by
  refine locOf_none fun k _ h => ?_
  have hh : ∃ r, locL k = 114 :: r ∨ locL k = 115 :: r := by
    unfold locL
    split
    · exact ⟨_, .inl rfl⟩
    · exact ⟨_, .inr rfl⟩
  obtain ⟨r, hr⟩ := hh
  rw [h] at hr
  unfold Lib.itoa at hr
  split at hr
  · rcases hr with hr | hr
    · exact absurd (List.cons.inj hr).1 (by decide)
    · exact absurd (List.cons.inj hr).1 (by decide)
  · rcases hr with hr | hr
    · have := dec_digit (v.toNat + 1) v.toNat (by omega) 114 (by rw [hr]; exact List.mem_cons_self ..)
      exact absurd this.2 (by decide)
    · have := dec_digit (v.toNat + 1) v.toNat (by omega) 115 (by rw [hr]; exact List.mem_cons_self ..)
      exact absurd this.2 (by decide)
theorem locW {c v : Int} (hc : placeB c = true) (hv : 0 ≤ v ∧ v < 24) : (locOf (pieceL c v)).isSome = true ∧ locN (pieceL c v) = v := by
  have e : pieceL c v = locL v.toNat := by unfold pieceL; rw [if_pos hc, if_pos hv]
  rw [e]
  unfold locN
  rw [locOf_text v.toNat (by omega)]
  exact ⟨rfl, by show ((v.toNat : Nat) : Int) = v; omega⟩
theorem numW {c v : Int} (hc : placeB c = false) (hv : In64 v) : (locOf (pieceL c v)).isSome = false ∧ (parseV (pieceL c v)).isSome = true ∧ parN (pieceL c v) = v := by
  have e : pieceL c v = Lib.itoa v := by unfold pieceL; rw [if_neg (by rw [hc]; decide)]
  rw [e, loc_itoa]
  unfold parN
  rw [parseV_itoa hv]
  exact ⟨rfl, rfl, rfl⟩
theorem op_shape {o : Int} (h : knownB o = true) : (o = 1 ∧ letters o = [100, 110]) ∨ ((o = 2 ∨ o = 3) ∧ letters o = [100, 97]) ∨ ((4 ≤ o ∧ o ≤ 12) ∧ letters o = [68, 65, 66]) ∨ (o = 13 ∧ letters o = [68, 65]) ∨ (o = 14 ∧ letters o = [65, 66]) ∨ (o = 15 ∧ letters o = [68, 65, 78]) ∨ (o = 16 ∧ letters o = [84]) ∨ (o = 17 ∧ letters o = [65, 84]) ∨ (o = 18 ∧ letters o = [65]) := by
  have hk := known_iff.mp h
  have hcase : o = 1 ∨ (o = 2 ∨ o = 3) ∨ (4 ≤ o ∧ o ≤ 12) ∨ o = 13 ∨ o = 14 ∨ o = 15 ∨ o = 16 ∨ o = 17 ∨ o = 18 := by omega
  rcases hcase with rfl | (rfl | rfl) | ho | rfl | rfl | rfl | rfl | rfl | rfl
  · exact .inl ⟨rfl, by decide +kernel⟩
  · exact .inr (.inl ⟨.inl rfl, by decide +kernel⟩)
  · exact .inr (.inl ⟨.inr rfl, by decide +kernel⟩)
  · refine .inr (.inr (.inl ⟨ho, ?_⟩))
    have := regs_letters o.toNat (by omega) (by omega)
    rw [show ((o.toNat : Nat) : Int) = o from by omega] at this
    exact this
  · exact .inr (.inr (.inr (.inl ⟨rfl, by decide +kernel⟩)))
  · exact .inr (.inr (.inr (.inr (.inl ⟨rfl, by decide +kernel⟩))))
  · exact .inr (.inr (.inr (.inr (.inr (.inl ⟨rfl, by decide +kernel⟩)))))
  · exact .inr (.inr (.inr (.inr (.inr (.inr (.inl ⟨rfl, by decide +kernel⟩))))))
  · exact .inr (.inr (.inr (.inr (.inr (.inr (.inr (.inl ⟨rfl, by decide +kernel⟩)))))))
  · exact .inr (.inr (.inr (.inr (.inr (.inr (.inr (.inr ⟨rfl, by decide +kernel⟩)))))))
theorem fault_loc {c v m : Int} (hc : placeB c = true) (h : faultV c v m = 0) : 0 ≤ v ∧ v < 24 := by
  unfold placeB at hc
  rw [decide_eq_true_iff] at hc
  unfold faultV at h
  by_cases h1 : c = 100 ∨ c = 97
  · rw [if_pos h1] at h
    split at h
    · assumption
    · omega
  · rw [if_neg h1, if_pos (by omega)] at h
    split at h
    · omega
    · omega
/-- An instruction's own words put it together. -/
theorem fold_prt {x : I} (hx : In64I x) (h : chkV x 200 = 0) : foldW x.op 1 (zeroI x.op) ((valsOf (letters x.op) x).map fun p => pieceL p.1 p.2) = x := by
  obtain ⟨h1, h2, h3⟩ := chk_zero h
  have hs := eq_six.mp ((only_same h1).mp h2)
  have p : ∀ c, placeB c = true → c ∈ letters x.op → (locOf (pieceL c (fieldV x c))).isSome = true ∧ locN (pieceL c (fieldV x c)) = fieldV x c := fun c hc hm => locW hc (fault_loc hc (h3 c hm))
  have q : ∀ c, placeB c = false → (locOf (pieceL c (fieldV x c))).isSome = false ∧ (parseV (pieceL c (fieldV x c))).isSome = true ∧ parN (pieceL c (fieldV x c)) = fieldV x c := fun c hc => numW hc (field_in hx c)
  have p100 := p 100 (by decide)
  have p97 := p 97 (by decide)
  have p68 := p 68 (by decide)
  have p65 := p 65 (by decide)
  have p66 := p 66 (by decide)
  have q110 := q 110 (by decide)
  have q78 := q 78 (by decide)
  have q84 := q 84 (by decide)
  clear p q h3
  rw [eq_six]
  rcases op_shape h1 with ⟨ho, e⟩ | ⟨ho, e⟩ | ⟨ho, e⟩ | ⟨ho, e⟩ | ⟨ho, e⟩ | ⟨ho, e⟩ | ⟨ho, e⟩ | ⟨ho, e⟩ | ⟨ho, e⟩
  · rw [e] at p100 p97 p68 p65 p66 ⊢
    simp only [onlyV, e, valsOf, putAll, List.map_cons, List.map_nil, List.foldl_cons, List.foldl_nil, zeroI] at hs
    simp [withV, fieldV] at hs
    have HS := Lib.hid hs
    clear hs
    simp [fieldV] at p100 p97 p68 p65 p66 q110 q78 q84
    simp only [valsOf, List.map_cons, List.map_nil, foldW, zeroI, fieldV]
    simp [stepW, atW, *]
    try (have hs := HS.out; omega)
  · rw [e] at p100 p97 p68 p65 p66 ⊢
    simp only [onlyV, e, valsOf, putAll, List.map_cons, List.map_nil, List.foldl_cons, List.foldl_nil, zeroI] at hs
    simp [withV, fieldV] at hs
    have HS := Lib.hid hs
    clear hs
    simp [fieldV] at p100 p97 p68 p65 p66 q110 q78 q84
    simp only [valsOf, List.map_cons, List.map_nil, foldW, zeroI, fieldV]
    have hat : ∀ k, atW x.op k = k := fun k => if_neg (by omega)
    clear ho
    simp [stepW, *]
    try (have hs := HS.out; omega)
  · rw [e] at p100 p97 p68 p65 p66 ⊢
    simp only [onlyV, e, valsOf, putAll, List.map_cons, List.map_nil, List.foldl_cons, List.foldl_nil, zeroI] at hs
    simp [withV, fieldV] at hs
    have HS := Lib.hid hs
    clear hs
    simp [fieldV] at p100 p97 p68 p65 p66 q110 q78 q84
    simp only [valsOf, List.map_cons, List.map_nil, foldW, zeroI, fieldV]
    have hat : ∀ k, atW x.op k = k := fun k => if_neg (by omega)
    clear ho
    simp [stepW, *]
    try (have hs := HS.out; omega)
  · rw [e] at p100 p97 p68 p65 p66 ⊢
    simp only [onlyV, e, valsOf, putAll, List.map_cons, List.map_nil, List.foldl_cons, List.foldl_nil, zeroI] at hs
    simp [withV, fieldV] at hs
    have HS := Lib.hid hs
    clear hs
    simp [fieldV] at p100 p97 p68 p65 p66 q110 q78 q84
    simp only [valsOf, List.map_cons, List.map_nil, foldW, zeroI, fieldV]
    simp [stepW, atW, *]
    try (have hs := HS.out; omega)
  · rw [e] at p100 p97 p68 p65 p66 ⊢
    simp only [onlyV, e, valsOf, putAll, List.map_cons, List.map_nil, List.foldl_cons, List.foldl_nil, zeroI] at hs
    simp [withV, fieldV] at hs
    have HS := Lib.hid hs
    clear hs
    simp [fieldV] at p100 p97 p68 p65 p66 q110 q78 q84
    simp only [valsOf, List.map_cons, List.map_nil, foldW, zeroI, fieldV]
    simp [stepW, atW, *]
    try (have hs := HS.out; omega)
  · rw [e] at p100 p97 p68 p65 p66 ⊢
    simp only [onlyV, e, valsOf, putAll, List.map_cons, List.map_nil, List.foldl_cons, List.foldl_nil, zeroI] at hs
    simp [withV, fieldV] at hs
    have HS := Lib.hid hs
    clear hs
    simp [fieldV] at p100 p97 p68 p65 p66 q110 q78 q84
    simp only [valsOf, List.map_cons, List.map_nil, foldW, zeroI, fieldV]
    simp [stepW, atW, *]
    try (have hs := HS.out; omega)
  · rw [e] at p100 p97 p68 p65 p66 ⊢
    simp only [onlyV, e, valsOf, putAll, List.map_cons, List.map_nil, List.foldl_cons, List.foldl_nil, zeroI] at hs
    simp [withV, fieldV] at hs
    have HS := Lib.hid hs
    clear hs
    simp [fieldV] at p100 p97 p68 p65 p66 q110 q78 q84
    simp only [valsOf, List.map_cons, List.map_nil, foldW, zeroI, fieldV]
    simp [stepW, *]
    try (have hs := HS.out; omega)
  · rw [e] at p100 p97 p68 p65 p66 ⊢
    simp only [onlyV, e, valsOf, putAll, List.map_cons, List.map_nil, List.foldl_cons, List.foldl_nil, zeroI] at hs
    simp [withV, fieldV] at hs
    have HS := Lib.hid hs
    clear hs
    simp [fieldV] at p100 p97 p68 p65 p66 q110 q78 q84
    simp only [valsOf, List.map_cons, List.map_nil, foldW, zeroI, fieldV]
    simp [stepW, atW, *]
    try (have hs := HS.out; omega)
  · rw [e] at p100 p97 p68 p65 p66 ⊢
    simp only [onlyV, e, valsOf, putAll, List.map_cons, List.map_nil, List.foldl_cons, List.foldl_nil, zeroI] at hs
    simp [withV, fieldV] at hs
    have HS := Lib.hid hs
    clear hs
    simp [fieldV] at p100 p97 p68 p65 p66 q110 q78 q84
    simp only [valsOf, List.map_cons, List.map_nil, foldW, zeroI, fieldV]
    simp [stepW, atW, *]
    try (have hs := HS.out; omega)
theorem locN_in (l : List UInt8) : In64 (locN l) := by
  unfold locN In64
  cases e : locOf l with
  | none => exact ⟨by decide, by decide⟩
  | some k =>
    have := (locOf_some e).1
    show -9223372036854775808 ≤ ((k : Nat) : Int) ∧ ((k : Nat) : Int) ≤ _
    omega
theorem parN_in (l : List UInt8) : In64 (parN l) := by
  unfold parN
  cases e : parseV l with
  | none => exact ⟨by decide, by decide⟩
  | some v => exact (parseV_some e).1
theorem step_in {op : Int} {k : Nat} {x : I} {wd : List UInt8} (h : In64I x) : In64I (stepW op k x wd) := by
  obtain ⟨h1, h2, h3, h4, h5, h6⟩ := h
  have hl := locN_in wd
  have hp := parN_in wd
  unfold stepW In64I
  repeat' split
  all_goals exact ⟨by assumption, by assumption, by assumption, by assumption, by assumption, by assumption⟩
theorem fold_in {op : Int} : ∀ (ws : List (List UInt8)) (k : Nat) (x : I), In64I x → In64I (foldW op k x ws)
  | [], _, _, h => h
  | _ :: r, k, _, h => fold_in r (k + 1) _ (step_in h)
/-- What the reference makes of the words for an operation. -/
def madeW (l : List UInt8) (k : Nat) : I := foldW (k : Int) 1 (zeroI (k : Int)) ((wordsL l).drop 1)
theorem made_in {l : List UInt8} {k : Nat} (h : k ≤ 18) : In64I (madeW l k) := fold_in _ _ _ (zeroI_in (by unfold In64; omega))
/-- It takes the text for that operation's. -/
def Takes (l : List UInt8) (k : Nat) : Prop := wordL k = (wordsL l).getD 0 [] ∧ (wordsL l).length ≤ 4 ∧ chkV (madeW l k) 200 = 0 ∧ prtL (madeW l k) = l
theorem takes_prs {l : List UInt8} {k : Nat} (hk : k ≤ 18) (h : chkV (madeW l k) 200 = 0) (h' : prtL (madeW l k) = l) : prs l = some (madeW l k) := prs_iff.mpr ⟨made_in hk, h, h'⟩
theorem prs_takes {l : List UInt8} {x : I} (h : prs l = some x) : Takes l x.op.toNat ∧ 1 ≤ x.op.toNat ∧ x.op.toNat ≤ 18 := by
  obtain ⟨hx, hc, hp⟩ := prs_iff.mp h
  have hk := (chk_zero hc).1
  have hk' := known_iff.mp hk
  have hw := words_prt hk
  rw [hp] at hw
  have hm : madeW l x.op.toNat = x := by
    unfold madeW
    rw [hw, show ((x.op.toNat : Nat) : Int) = x.op from by omega]
    exact fold_prt hx hc
  refine ⟨⟨by rw [hw]; rfl, ?_, by rw [hm]; exact hc, by rw [hm]; exact hp⟩, by omega, by omega⟩
  rw [hw]
  have : (letters x.op).length ≤ 3 := by rcases letters_of hk with e | e | e | e | e | e | e | e | e <;> rw [e] <;> simp
  simp [valsOf]; omega
theorem none_takes {l : List UInt8} (h : ∀ j, 1 ≤ j → j < 19 → ¬ Takes l j) : prs l = none := by
  cases e : prs l with
  | none => rfl
  | some x =>
    obtain ⟨h1, h2, h3⟩ := prs_takes e
    exact absurd h1 (h _ h2 (by omega))
end Go.Proofs.YtoeplfhigpdopaaDoor
