/-
  Functions and their texts, as plain functions on lists: which are right, with the place and the error; their texts; how a text is read; that what is read is the function whose text it is. No program stands in this text.
-/
import Derived.Test.YtdghhedenjgjiaaGreatDoorInsRead
namespace Go.Proofs.YtdghhedenjgjiaaGreatDoor
open Go.RowKit

/-- The first instruction that isn't right in a function of n, from place k on. -/
def badF (n : Int) : List I → Nat → Option (Nat × Int)
  | [], _ => none
  | x :: r, k => if chkV x n = 0 then badF n r (k + 1) else some (k, chkV x n)
def endB (x : I) : Bool := decide (x.op = 16 ∨ x.op = 18)
def lastI (f : List I) : I := f.getD (f.length - 1) ⟨0, 0, 0, 0, 0, 0⟩
/-- Check: the place and the error. -/
def chkF (f : List I) : Nat × Int :=
  if 200 < f.length then (0, 3) else if f.length = 0 then (0, 5)
  else match badF f.length f 0 with
    | some p => p
    | none => if endB (lastI f) = true then (0, 0) else (f.length - 1, 5)
def rightF (f : List I) : Bool := decide ((chkF f).2 = 0)
/-- A function's text. -/
def prtF (f : List I) : List UInt8 := f.flatMap fun x => prtL x ++ [10]
/-- A text is read: cur: what stands of the line so far; b: where the line begins; f, bs: what has been read. Answered: where the first line begins that isn't taken (or the end), what has been read and where its lines begin. -/
def rdF : List UInt8 → List UInt8 → Nat → List I → List Nat → Nat × List I × List Nat
  | [], _, b, f, bs => (b, f, bs)
  | c :: l, cur, b, f, bs =>
    if c = 10 then
      match prs cur with
      | some x => rdF l [] (b + cur.length + 1) (f ++ [x]) (bs ++ [b])
      | none => (b, f, bs)
    else rdF l (cur ++ [c]) b f bs
def readF (s : List UInt8) : Nat × List I × List Nat := rdF s [] 0 [] []
/-- Parse: the function, the place, the error. -/
def prsF (s : List UInt8) : List I × Nat × Int :=
  if 20000 < s.length then ([], 0, 3)
  else if (readF s).1 < s.length then ([], (readF s).1, 2)
  else if (chkF (readF s).2.1).2 = 0 then ((readF s).2.1, 0, 0)
  else if (readF s).2.2.length = 0 then ([], 0, (chkF (readF s).2.1).2)
  else ([], (readF s).2.2.getD (chkF (readF s).2.1).1 0, (chkF (readF s).2.1).2)

/-! Check. -/
theorem bad_drop {n : Int} {f : List I} {k : Nat} (h : k < f.length) (h' : chkV f[k] n = 0) : badF n (f.drop k) k = badF n (f.drop (k + 1)) (k + 1) := by
  rw [List.drop_eq_getElem_cons h, badF, if_pos h']
theorem bad_here {n : Int} {f : List I} {k : Nat} (h : k < f.length) (h' : ¬ chkV f[k] n = 0) : badF n (f.drop k) k = some (k, chkV f[k] n) := by
  rw [List.drop_eq_getElem_cons h, badF, if_neg h']
theorem bad_none {n : Int} : ∀ (f : List I) (k : Nat), badF n f k = none ↔ ∀ x ∈ f, chkV x n = 0
  | [], k => by simp [badF]
  | x :: r, k => by
    rw [badF]
    by_cases h : chkV x n = 0
    · rw [if_pos h, bad_none r (k + 1)]
      simp [h]
    · rw [if_neg h]
      simp [h]
theorem bad_some {n : Int} : ∀ (f : List I) (k : Nat) (p : Nat × Int), badF n f k = some p → p.2 ≠ 0 ∧ k ≤ p.1 ∧ p.1 < k + f.length
  | [], k, p => by simp [badF]
  | x :: r, k, p => by
    rw [badF]
    by_cases h : chkV x n = 0
    · rw [if_pos h]
      intro h'
      obtain ⟨a, b, c⟩ := bad_some r (k + 1) p h'
      refine ⟨a, by omega, ?_⟩
      simp only [List.length_cons]; omega
    · rw [if_neg h]
      intro h'
      obtain rfl := Option.some.inj h'
      exact ⟨h, Nat.le_refl _, by simp⟩
theorem chkF_full {f : List I} (h : 200 < f.length) : chkF f = (0, 3) := by unfold chkF; rw [if_pos h]
theorem chkF_none {f : List I} (h : f.length = 0) : chkF f = (0, 5) := by unfold chkF; rw [if_neg (by omega), if_pos h]
theorem chkF_bad {f : List I} (h : f.length ≤ 200) {p : Nat × Int} (h' : badF f.length f 0 = some p) : chkF f = p := by
  have h0 : f.length ≠ 0 := by
    intro h0
    rw [List.length_eq_zero_iff.mp h0] at h'
    simp [badF] at h'
  unfold chkF; rw [if_neg (by omega), if_neg h0, h']
theorem chkF_last {f : List I} (h : f.length ≤ 200) (h0 : f.length ≠ 0) (h' : badF f.length f 0 = none) : chkF f = if endB (lastI f) = true then (0, 0) else (f.length - 1, 5) := by
  unfold chkF; rw [if_neg (by omega), if_neg h0, h']
theorem right_iff {f : List I} : (chkF f).2 = 0 ↔ f.length ≤ 200 ∧ f.length ≠ 0 ∧ (∀ x ∈ f, chkV x f.length = 0) ∧ endB (lastI f) = true := by
  by_cases h : 200 < f.length
  · rw [chkF_full h]
    constructor
    · intro h; exact absurd h (by decide)
    · intro h; omega
  · by_cases h0 : f.length = 0
    · rw [chkF_none h0]
      constructor
      · intro h; exact absurd h (by decide)
      · intro h; omega
    · cases hb : badF f.length f 0 with
      | some p =>
        rw [chkF_bad (by omega) hb]
        constructor
        · intro h; exact absurd h (bad_some f 0 p hb).1
        · intro h
          rw [(bad_none f 0).mpr h.2.2.1] at hb
          exact absurd hb (by simp)
      | none =>
        rw [chkF_last (by omega) h0 hb]
        by_cases he : endB (lastI f) = true
        · rw [if_pos he]
          exact ⟨fun _ => ⟨by omega, h0, (bad_none f 0).mp hb, he⟩, fun _ => rfl⟩
        · rw [if_neg he]
          constructor
          · intro h; exact absurd (show (5 : Int) = 0 from h) (by decide)
          · intro h; exact absurd h.2.2.2 he
theorem right_zero {f : List I} (h : (chkF f).2 = 0) : chkF f = (0, 0) := by
  obtain ⟨h1, h2, h3, h4⟩ := right_iff.mp h
  rw [chkF_last h1 h2 ((bad_none f 0).mpr h3), if_pos h4]
theorem chkF_lt {f : List I} (h0 : f.length ≠ 0) : (chkF f).1 < f.length := by
  by_cases h : 200 < f.length
  · rw [chkF_full h]; show 0 < _; omega
  · cases hb : badF f.length f 0 with
    | some p => rw [chkF_bad (by omega) hb]; have := (bad_some f 0 p hb).2.2; omega
    | none =>
      rw [chkF_last (by omega) h0 hb]
      split
      · show 0 < _; omega
      · show f.length - 1 < _; omega

/-! What is right in a function of n is right in one of more. -/
theorem fault_mono {c v n m : Int} (h : n ≤ m) (h' : faultV c v n = 0) : faultV c v m = 0 := by
  unfold faultV at h' ⊢
  by_cases h1 : c = 100 ∨ c = 97
  · rw [if_pos h1] at h' ⊢; exact h'
  · rw [if_neg h1] at h' ⊢
    by_cases h2 : c = 68 ∨ c = 65 ∨ c = 66
    · rw [if_pos h2] at h' ⊢; exact h'
    · rw [if_neg h2] at h' ⊢
      by_cases h3 : c = 78
      · rw [if_pos h3] at h' ⊢; exact h'
      · rw [if_neg h3] at h' ⊢
        by_cases h4 : c = 84
        · rw [if_pos h4] at h' ⊢
          by_cases h5 : v < 0 ∨ n ≤ v
          · rw [if_pos h5] at h'; exact absurd h' (by decide)
          · rw [if_neg (by omega)]
        · rw [if_neg h4]
theorem chk_mono {x : I} {n m : Int} (h : n ≤ m) (h' : chkV x n = 0) : chkV x m = 0 := by
  obtain ⟨a, b, c⟩ := chk_zero h'
  exact zero_chk a b fun l hl => fault_mono h (c l hl)
theorem right_200 {f : List I} (h : (chkF f).2 = 0) : ∀ x ∈ f, chkV x 200 = 0 := by
  obtain ⟨h1, h2, h3, h4⟩ := right_iff.mp h
  exact fun x hx => chk_mono (by omega) (h3 x hx)

/-! Texts: no byte 10 in a line. -/
theorem loc_no10 : ∀ k < 24, (10 : UInt8) ∉ locL k := by decide +kernel
theorem word_no10 : ∀ k < 19, (10 : UInt8) ∉ wordL k := by decide +kernel
theorem dec_no10 (n : Nat) : (10 : UInt8) ∉ Lib.decDigits n := by
  induction n using Nat.strongRecOn with
  | _ n ih =>
    rw [Lib.decDigits]
    split
    · rename_i h
      intro hm
      have hm := List.mem_singleton.mp hm
      have := congrArg UInt8.toNat hm
      simp at this
      omega
    · rename_i h
      intro hm
      rcases List.mem_append.mp hm with hm | hm
      · exact ih (n / 10) (by omega) hm
      · have hm := List.mem_singleton.mp hm
        have := congrArg UInt8.toNat hm
        simp at this
        omega
theorem itoa_no10 (v : Int) : (10 : UInt8) ∉ Lib.itoa v := by
  unfold Lib.itoa
  split
  · intro hm
    rcases List.mem_cons.mp hm with hm | hm
    · exact absurd hm (by decide)
    · exact dec_no10 _ hm
  · exact dec_no10 _
theorem piece_no10 (c v : Int) : (10 : UInt8) ∉ pieceL c v := by
  unfold pieceL
  split
  · split
    · exact loc_no10 _ (by omega)
    · simp
  · exact itoa_no10 v
theorem join_no10 : ∀ q : List (Int × Int), (10 : UInt8) ∉ joinL q
  | [] => by simp [joinL]
  | (c, v) :: q => by
    rw [joinL]
    intro hm
    rcases List.mem_cons.mp hm with hm | hm
    · exact absurd hm (by decide)
    · rcases List.mem_append.mp hm with hm | hm
      · exact piece_no10 _ _ hm
      · exact join_no10 q hm
theorem prt_no10 {x : I} (h : knownB x.op = true) : (10 : UInt8) ∉ prtL x := by
  have hk := known_iff.mp h
  unfold prtL
  intro hm
  rcases List.mem_append.mp hm with hm | hm
  · exact word_no10 _ (by omega) hm
  · exact join_no10 _ hm
theorem prt_ne {x : I} (h : knownB x.op = true) : prtL x ≠ [] := by
  have hk := known_iff.mp h
  have e : ∀ k < 19, 1 ≤ k → wordL k ≠ [] := by decide +kernel
  unfold prtL
  intro h'
  exact e _ (by omega) (by omega) (List.append_eq_nil_iff.mp h').1
theorem prt_short {x : I} (hx : In64I x) (h : knownB x.op = true) : (prtL x).length ≤ 68 := by
  have hk := known_iff.mp h
  have hj := join_len (valsOf (letters x.op) x) (by
    intro p hp
    unfold valsOf at hp
    obtain ⟨c, _, rfl⟩ := List.mem_map.mp hp
    exact field_in hx c)
  have hw := word_len x.op.toNat (by omega)
  have hl : (valsOf (letters x.op) x).length ≤ 3 := by
    unfold valsOf
    rw [List.length_map]
    rcases letters_of h with e | e | e | e | e | e | e | e | e <;> rw [e] <;> simp
  unfold prtL
  rw [List.length_append]
  omega
theorem prtF_len : ∀ f : List I, (∀ x ∈ f, In64I x ∧ chkV x 200 = 0) → (prtF f).length ≤ 69 * f.length
  | [], _ => by simp [prtF]
  | x :: r, h => by
    have h1 := prt_short (h x (by simp)).1 (chk_zero (h x (by simp)).2).1
    have h2 := prtF_len r (fun y hy => h y (by simp [hy]))
    unfold prtF at h2 ⊢
    rw [List.flatMap_cons]
    simp only [List.length_append, List.length_cons, List.length_nil]
    omega
theorem prtF_app (f g : List I) : prtF (f ++ g) = prtF f ++ prtF g := by unfold prtF; rw [List.flatMap_append]
theorem prtF_one (x : I) : prtF [x] = prtL x ++ [10] := by simp [prtF]
theorem prtF_cons (x : I) (f : List I) : prtF (x :: f) = prtL x ++ [10] ++ prtF f := by simp [prtF]

/-! Reading. -/
theorem rd_app : ∀ (p l cur : List UInt8) (b : Nat) (f : List I) (bs : List Nat), (10 : UInt8) ∉ p → rdF (p ++ l) cur b f bs = rdF l (cur ++ p) b f bs
  | [], l, cur, b, f, bs, _ => by simp
  | c :: p, l, cur, b, f, bs, h => by
    rw [List.cons_append, rdF, if_neg (fun e => h (by simp [e])), rd_app p l (cur ++ [c]) b f bs (fun hm => h (by simp [hm]))]
    simp
theorem rd_line {l cur : List UInt8} {b : Nat} {f : List I} {bs : List Nat} {x : I} (h : prs cur = some x) : rdF (10 :: l) cur b f bs = rdF l [] (b + cur.length + 1) (f ++ [x]) (bs ++ [b]) := by
  rw [rdF, if_pos rfl, h]
theorem rd_stop {l cur : List UInt8} {b : Nat} {f : List I} {bs : List Nat} (h : prs cur = none) : rdF (10 :: l) cur b f bs = (b, f, bs) := by
  rw [rdF, if_pos rfl, h]
theorem rd_begins : ∀ (l cur : List UInt8) (b : Nat) (f : List I) (bs : List Nat), bs.length = f.length → (rdF l cur b f bs).2.2.length = (rdF l cur b f bs).2.1.length
  | [], cur, b, f, bs, h => by simpa [rdF] using h
  | c :: l, cur, b, f, bs, h => by
    rw [rdF]
    split
    · split
      · exact rd_begins l _ _ _ _ (by simp [h])
      · exact h
    · exact rd_begins l _ _ _ _ h
/-- What is read: all of it right, and its text is what stands ahead of the place that is answered. -/
theorem rd_text : ∀ (l cur : List UInt8) (b : Nat) (f : List I) (bs : List Nat), b = (prtF f).length → (∀ x ∈ f, In64I x ∧ chkV x 200 = 0) →
    (∀ x ∈ (rdF l cur b f bs).2.1, In64I x ∧ chkV x 200 = 0) ∧ (rdF l cur b f bs).1 = (prtF (rdF l cur b f bs).2.1).length ∧ ∃ r, prtF f ++ cur ++ l = prtF (rdF l cur b f bs).2.1 ++ r
  | [], cur, b, f, bs, hb, hf => ⟨hf, hb, cur, by simp [rdF]⟩
  | c :: l, cur, b, f, bs, hb, hf => by
    by_cases hc : c = 10
    · subst hc
      cases hp : prs cur with
      | some x =>
        rw [rd_line hp]
        obtain ⟨h1, h2, h3⟩ := prt_prs hp
        have hl : (prtF (f ++ [x])) = prtF f ++ (cur ++ [10]) := by rw [prtF_app, prtF_one, h2]
        obtain ⟨i1, i2, r, i3⟩ := rd_text l [] (b + cur.length + 1) (f ++ [x]) (bs ++ [b]) (by rw [hl, hb]; simp; omega) (by
          intro y hy
          rcases List.mem_append.mp hy with hy | hy
          · exact hf y hy
          · obtain rfl := List.mem_singleton.mp hy
            exact ⟨h3, h1⟩)
        refine ⟨i1, i2, r, ?_⟩
        rw [← i3, hl]
        simp
      | none =>
        rw [rd_stop hp]
        exact ⟨hf, hb, cur ++ 10 :: l, by simp⟩
    · rw [rdF, if_neg hc]
      obtain ⟨i1, i2, r, i3⟩ := rd_text l (cur ++ [c]) b f bs hb hf
      refine ⟨i1, i2, r, ?_⟩
      rw [← i3]
      simp
theorem read_text (s : List UInt8) : (∀ x ∈ (readF s).2.1, In64I x ∧ chkV x 200 = 0) ∧ (readF s).1 = (prtF (readF s).2.1).length ∧ (readF s).1 ≤ s.length ∧ ((readF s).1 = s.length → prtF (readF s).2.1 = s) := by
  obtain ⟨h1, h2, r, h3⟩ := rd_text s [] 0 [] [] (by simp [prtF]) (by simp)
  unfold readF
  have e : s = prtF (rdF s [] 0 [] []).2.1 ++ r := by rw [← h3]; simp [prtF]
  have el := congrArg List.length e
  rw [List.length_append] at el
  refine ⟨h1, h2, by omega, fun h => ?_⟩
  have : r = [] := List.length_eq_zero_iff.mp (by omega)
  rw [this, List.append_nil] at e
  exact e.symm
/-- A function's text is read as it. -/
theorem rd_prt : ∀ (g : List I) (l : List UInt8) (b : Nat) (f : List I) (bs : List Nat), (∀ x ∈ g, In64I x ∧ chkV x 200 = 0) →
    ∃ bs', rdF (prtF g ++ l) [] b f bs = rdF l [] (b + (prtF g).length) (f ++ g) bs'
  | [], l, b, f, bs, _ => ⟨bs, by simp [prtF]⟩
  | x :: g, l, b, f, bs, h => by
    obtain ⟨hx, hc⟩ := h x (by simp)
    rw [prtF_cons, List.append_assoc, List.append_assoc, rd_app _ _ _ _ _ _ (prt_no10 (chk_zero hc).1)]
    rw [List.nil_append, List.singleton_append, rd_line (prs_prt hx hc)]
    obtain ⟨bs', e⟩ := rd_prt g l (b + (prtL x).length + 1) (f ++ [x]) (bs ++ [b]) (fun y hy => h y (by simp [hy]))
    refine ⟨bs', ?_⟩
    rw [e]
    simp only [List.append_assoc, List.length_append, List.singleton_append, List.length_cons]
    congr 1
    omega
theorem prs_prtF {f : List I} (hf : ∀ x ∈ f, In64I x) (h : (chkF f).2 = 0) : prsF (prtF f) = (f, 0, 0) := by
  have h2 := right_200 h
  have hr := (right_iff.mp h).1
  have hb : ∀ x ∈ f, In64I x ∧ chkV x 200 = 0 := fun x hx => ⟨hf x hx, h2 x hx⟩
  have hl := prtF_len f hb
  obtain ⟨bs', e⟩ := rd_prt f [] 0 [] [] hb
  have e : readF (prtF f) = ((prtF f).length, f, bs') := by
    unfold readF
    rw [List.append_nil] at e
    rw [e]
    simp [rdF]
  unfold prsF
  rw [e]
  rw [if_neg (by omega), if_neg (by simp), if_pos h]
theorem prtF_inj {f g : List I} (hf : ∀ x ∈ f, In64I x) (hg : ∀ x ∈ g, In64I x) (h : (chkF f).2 = 0) (h' : (chkF g).2 = 0) (e : prtF f = prtF g) : f = g := by
  have := prs_prtF hf h
  rw [e, prs_prtF hg h'] at this
  exact (congrArg Prod.fst this).symm
/-- What was read has just that text. -/
theorem prt_prsF {s : List UInt8} (h : (prsF s).2.2 = 0) : (chkF (prsF s).1).2 = 0 ∧ prtF (prsF s).1 = s ∧ (∀ x ∈ (prsF s).1, In64I x) ∧ s.length ≤ 20000 := by
  obtain ⟨h1, h2, h3, h4⟩ := read_text s
  unfold prsF at h ⊢
  by_cases c1 : 20000 < s.length
  · rw [if_pos c1] at h; exact absurd h (by decide)
  · rw [if_neg c1] at h ⊢
    by_cases c2 : (readF s).1 < s.length
    · rw [if_pos c2] at h; exact absurd (show (2 : Int) = 0 from h) (by decide)
    · rw [if_neg c2] at h ⊢
      by_cases c3 : (chkF (readF s).2.1).2 = 0
      · rw [if_pos c3]
        exact ⟨c3, h4 (by omega), fun x hx => (h1 x hx).1, by omega⟩
      · rw [if_neg c3] at h
        split at h
        · exact absurd h c3
        · exact absurd h c3
theorem prsF_bad {s : List UInt8} (h : ¬ (prsF s).2.2 = 0) : (prsF s).1 = [] := by
  unfold prsF at h ⊢
  split
  · rfl
  · rename_i c1
    rw [if_neg c1] at h
    split
    · rfl
    · rename_i c2
      rw [if_neg c2] at h
      split
      · rename_i c3
        rw [if_pos c3] at h
        exact absurd rfl h
      · split <;> rfl
theorem prsF_in (s : List UInt8) : ∀ x ∈ (prsF s).1, In64I x := by
  by_cases h : (prsF s).2.2 = 0
  · exact (prt_prsF h).2.2.1
  · rw [prsF_bad h]; simp
theorem prsF_few (s : List UInt8) : (prsF s).1.length ≤ 200 := by
  by_cases h : (prsF s).2.2 = 0
  · exact (right_iff.mp (prt_prsF h).1).1
  · rw [prsF_bad h]; simp

/-! A text without its last byte. -/
theorem readF_cut {g : List I} {x : I} (hg : ∀ y ∈ g, In64I y ∧ chkV y 200 = 0) (_hx : In64I x) (hc : chkV x 200 = 0) : (readF (prtF g ++ prtL x)).1 = (prtF g).length := by
  obtain ⟨bs', e⟩ := rd_prt g (prtL x) 0 [] [] hg
  unfold readF
  rw [e]
  have h := rd_app (prtL x) [] [] (0 + (prtF g).length) ([] ++ g) bs' (prt_no10 (chk_zero hc).1)
  rw [List.append_nil] at h
  rw [h]
  simp [rdF]

/-! One line more. -/
theorem last_app (f : List I) (x : I) : lastI (f ++ [x]) = x := by
  unfold lastI
  simp
theorem right_more {f : List I} {x : I} (h : (chkF f).2 = 0) (hl : f.length ≤ 199) : (chkF (f ++ [x])).2 = 0 ↔ chkV x (f.length + 1) = 0 ∧ endB x = true := by
  obtain ⟨h1, h2, h3, h4⟩ := right_iff.mp h
  rw [right_iff, last_app]
  have e : ((f ++ [x]).length : Int) = (f.length : Int) + 1 := by simp
  rw [e]
  constructor
  · rintro ⟨_, _, a, b⟩
    exact ⟨a x (by simp), b⟩
  · rintro ⟨a, b⟩
    refine ⟨by simp; omega, by simp, ?_, b⟩
    intro y hy
    rcases List.mem_append.mp hy with hy | hy
    · exact chk_mono (by omega) (h3 y hy)
    · obtain rfl := List.mem_singleton.mp hy
      exact a
end Go.Proofs.YtdghhedenjgjiaaGreatDoor
