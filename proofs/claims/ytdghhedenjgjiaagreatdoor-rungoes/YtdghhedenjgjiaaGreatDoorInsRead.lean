/-
  What is read of a text is the instruction whose text it is. No program stands in this text.
-/
import Derived.Test.YtdghhedenjgjiaaGreatDoorInsMath
namespace Go.Proofs.YtdghhedenjgjiaaGreatDoor
open Go.RowKit

theorem loc_read {v : Int} (h : 0 ≤ v ∧ v < 24) : locN (locL v.toNat) = v ∧ locE (locL v.toNat) = 0 := by
  unfold locN locE
  rw [locOf_text v.toNat (by omega)]
  exact ⟨by show ((v.toNat : Nat) : Int) = v; omega, rfl⟩
/-- A field that is right is read back off its text. -/
theorem piece_read {c v n : Int} (hv : In64 v) (h : faultV c v n = 0) : readE c (pieceL c v) = 0 ∧ readV c (pieceL c v) = v := by
  unfold readE readV pieceL
  by_cases hp : placeB c = true
  · have hr : 0 ≤ v ∧ v < 24 := by
      unfold placeB at hp
      rw [decide_eq_true_iff] at hp
      unfold faultV at h
      by_cases h1 : c = 100 ∨ c = 97
      · rw [if_pos h1] at h
        split at h
        · assumption
        · omega
      · rw [if_neg h1, if_pos (by omega)] at h
        split at h
        · omega
        · omega
    rw [if_pos hp, if_pos hp, if_pos hp, if_pos hr]
    exact ⟨(loc_read hr).2, (loc_read hr).1⟩
  · rw [if_neg hp, if_neg hp, if_neg hp]
    unfold parE parN
    rw [parseV_itoa hv]
    exact ⟨rfl, rfl⟩
theorem read_piece {c : Int} {p : List UInt8} (h : readE c p = 0) : pieceL c (readV c p) = p ∧ In64 (readV c p) := by
  unfold readE at h
  unfold readV pieceL
  by_cases hp : placeB c = true
  · rw [if_pos hp] at h ⊢
    unfold locE at h
    cases e : locOf p with
    | none => rw [e] at h; exact absurd h (by decide)
    | some k =>
      obtain ⟨hk, hl⟩ := locOf_some e
      have hn : locN p = k := by unfold locN; rw [e]; rfl
      rw [if_pos hp, hn, if_pos (by omega)]
      refine ⟨?_, by unfold In64; omega⟩
      rw [show ((k : Int)).toNat = k from by omega, hl]
  · rw [if_neg hp] at h ⊢
    rw [if_neg hp]
    unfold parE at h
    cases e : parseV p with
    | none => rw [e] at h; exact absurd h (by decide)
    | some v =>
      have hn : parN p = v := by unfold parN; rw [e]; rfl
      rw [hn]
      exact ⟨(parseV_some e).2, (parseV_some e).1⟩
theorem readE_nil (c : Int) : readE c [] = 2 := by
  unfold readE
  split
  · decide +kernel
  · decide +kernel

def putAll (q : List (Int × Int)) (x : I) : I := q.foldl (fun r q => withV r q.1 q.2) x
def In64I (x : I) : Prop := In64 x.op ∧ In64 x.d ∧ In64 x.a ∧ In64 x.b ∧ In64 x.n ∧ In64 x.t
theorem field_in {x : I} (h : In64I x) (c : Int) : In64 (fieldV x c) := by
  obtain ⟨h1, h2, h3, h4, h5, h6⟩ := h
  unfold fieldV
  split
  · exact h2
  · split
    · exact h3
    · split
      · exact h4
      · split
        · exact h6
        · exact h5

theorem join_cut (c v : Int) (q : List (Int × Int)) : cutL (pieceL c v ++ joinL q) = (pieceL c v, (joinL q).tail, !q.isEmpty) := by
  cases q with
  | nil => simp only [joinL, List.append_nil]; rw [cut_no (piece_no32 c v)]; rfl
  | cons q L => simp only [joinL]; rw [cut_at (piece_no32 c v)]; rfl
/-- Texts of fields are read as these fields. -/
theorem rd_join : ∀ (q : List (Int × Int)) (y : I), (∀ p ∈ q, In64 p.2 ∧ faultV p.1 p.2 200 = 0) → rdI (q.map (·.1)) (joinL q).tail (!q.isEmpty) y = some (putAll q y)
  | [], y, _ => rfl
  | (c, v) :: q, y, h => by
    obtain ⟨hv, hf⟩ := h (c, v) (List.mem_cons_self ..)
    obtain ⟨h1, h2⟩ := piece_read hv hf
    have e : (joinL ((c, v) :: q)).tail = pieceL c v ++ joinL q := rfl
    rw [List.map_cons, e, rdI, join_cut]
    simp only
    rw [h1, h2, if_pos ⟨rfl, hf⟩]
    exact rd_join q _ (fun p hp => h p (List.mem_cons_of_mem _ hp))
/-- What was read is of such a text. -/
theorem join_rd : ∀ (L : List Int) (rest : List UInt8) (more : Bool) (y z : I), (more = false → rest = []) → rdI L rest more y = some z →
    ∃ q : List (Int × Int), q.map (·.1) = L ∧ z = putAll q y ∧ (∀ p ∈ q, In64 p.2 ∧ faultV p.1 p.2 200 = 0) ∧ tailT more rest = joinL q
  | [], rest, more, y, z, _, h => by
    rw [rdI] at h
    cases more with
    | true => exact absurd h (by simp)
    | false =>
      have h : y = z := by simpa using h
      exact ⟨[], rfl, h.symm, by simp, rfl⟩
  | c :: L, rest, more, y, z, hm, h => by
    rw [rdI] at h
    split at h
    · rename_i hc
      obtain ⟨h1, h2⟩ := read_piece hc.1
      obtain ⟨hb, hbm, _⟩ := cut_back rest
      obtain ⟨q, hq, hz, ha, ht⟩ := join_rd L _ _ _ z hbm h
      refine ⟨(c, readV c (cutL rest).1) :: q, by rw [List.map_cons, hq], hz, ?_, ?_⟩
      · intro p hp
        rcases List.mem_cons.mp hp with rfl | hp
        · exact ⟨h2, hc.2⟩
        · exact ha p hp
      · cases more with
        | false =>
          rw [hm rfl] at hc
          have := hc.1
          rw [show (cutL []).1 = [] from rfl, readE_nil] at this
          exact absurd this (by decide)
        | true =>
          show 32 :: rest = 32 :: (pieceL c (readV c (cutL rest).1) ++ joinL q)
          rw [h1, ← ht, ← hb]
    · cases h

-- the shapes: what stands in the fields
theorem vals_map (L : List Int) (x : I) : (valsOf L x).map (·.1) = L := by
  unfold valsOf
  rw [List.map_map]
  exact List.map_id'' (fun _ => rfl) L
theorem put_vals {x : I} (h : knownB x.op = true) (hs : spareB x = false) : putAll (valsOf (letters x.op) x) (zeroI x.op) = x := by
  have hs' : bareOf (letters x.op) x = zeroI x.op := by
    unfold spareB at hs
    exact same_iff.mp (by simpa using hs)
  rw [← hs']
  rcases letters_of h with e | e | e | e | e | e | e | e | e <;> rw [e] <;> simp [putAll, valsOf, bareOf, withV, fieldV]
theorem chk_zero {x : I} {n : Int} (h : chkV x n = 0) : knownB x.op = true ∧ spareB x = false ∧ ∀ c ∈ letters x.op, faultV c (fieldV x c) n = 0 := by
  unfold chkV at h
  split at h
  · omega
  rename_i h1
  split at h
  · omega
  rename_i h2
  split at h
  · omega
  rename_i h3
  split at h
  · omega
  rename_i h4
  split at h
  · omega
  rename_i h5
  refine ⟨by simpa using h1, by simpa using h2, fun c hc => ?_⟩
  have g : ∀ e, ¬ hitB (letters x.op) x n e = true → faultV c (fieldV x c) n ≠ e := by
    intro e he hh
    apply he
    unfold hitB
    rw [List.any_eq_true]
    exact ⟨c, hc, by simp [hh]⟩
  have k1 := g 1 h3
  have k2 := g 6 h4
  have k3 := g 4 h5
  have : faultV c (fieldV x c) n = 0 ∨ faultV c (fieldV x c) n = 1 ∨ faultV c (fieldV x c) n = 6 ∨ faultV c (fieldV x c) n = 4 := by
    unfold faultV
    repeat' split
    all_goals simp
  omega
theorem zero_chk {x : I} {n : Int} (h1 : knownB x.op = true) (h2 : spareB x = false) (h3 : ∀ c ∈ letters x.op, faultV c (fieldV x c) n = 0) : chkV x n = 0 := by
  have g : ∀ e, e ≠ 0 → hitB (letters x.op) x n e = false := by
    intro e he
    unfold hitB
    rw [List.any_eq_false]
    intro c hc hh
    rw [h3 c hc] at hh
    exact he (by have : (0 : Int) = e := by simpa using hh
                 omega)
  unfold chkV
  rw [h1, h2, g 1 (by decide), g 6 (by decide), g 4 (by decide)]
  rfl
theorem known_iff {op : Int} : knownB op = true ↔ 1 ≤ op ∧ op ≤ 18 := by unfold knownB; rw [decide_eq_true_iff]

/-- An instruction's text is read as it. -/
theorem prs_prt {x : I} (hx : In64I x) (h : chkV x 200 = 0) : prs (prtL x) = some x := by
  obtain ⟨h1, h2, h3⟩ := chk_zero h
  have hk := known_iff.mp h1
  have hne : letters x.op ≠ [] := by rcases letters_of h1 with e | e | e | e | e | e | e | e | e <;> rw [e] <;> simp
  have hj : ∃ t, joinL (valsOf (letters x.op) x) = 32 :: t ∧ (joinL (valsOf (letters x.op) x)).tail = t := by
    cases e : letters x.op with
    | nil => exact absurd e hne
    | cons c L => exact ⟨_, rfl, rfl⟩
  obtain ⟨t, ht, ht2⟩ := hj
  have hc : cutL (prtL x) = (wordL x.op.toNat, t, true) := by
    unfold prtL
    rw [ht, cut_at (word_no32 _ (by omega))]
  unfold prs
  rw [hc]
  simp only
  rw [opOf_word _ (by omega) (by omega), if_neg (by omega), show ((x.op.toNat : Nat) : Int) = x.op from by omega]
  have := rd_join (valsOf (letters x.op) x) (zeroI x.op) (by
    intro p hp
    unfold valsOf at hp
    obtain ⟨c, hc, rfl⟩ := List.mem_map.mp hp
    exact ⟨field_in hx c, h3 c hc⟩)
  rw [vals_map, ht2, put_vals h1 h2] at this
  have hb : (!(valsOf (letters x.op) x).isEmpty) = true := by
    cases e : letters x.op with
    | nil => exact absurd e hne
    | cons c L => rfl
  rw [hb] at this
  exact this

theorem put_op : ∀ (q : List (Int × Int)) (y : I), (putAll q y).op = y.op
  | [], _ => rfl
  | p :: q, y => by
    show (putAll q (withV y p.1 p.2)).op = y.op
    rw [put_op q]
    unfold withV
    repeat' split
    all_goals rfl
theorem map_one {q : List (Int × Int)} {a : Int} (h : q.map (·.1) = [a]) : ∃ v, q = [(a, v)] := by
  match q, h with
  | [(c, v)], h => exact ⟨v, by simp at h; rw [h]⟩
theorem map_two {q : List (Int × Int)} {a b : Int} (h : q.map (·.1) = [a, b]) : ∃ v w, q = [(a, v), (b, w)] := by
  match q, h with
  | [(c, v), (d, w)], h => exact ⟨v, w, by simp at h; rw [h.1, h.2]⟩
theorem map_three {q : List (Int × Int)} {a b c : Int} (h : q.map (·.1) = [a, b, c]) : ∃ u v w, q = [(a, u), (b, v), (c, w)] := by
  match q, h with
  | [(d, u), (e, v), (f, w)], h => exact ⟨u, v, w, by simp at h; rw [h.1, h.2.1, h.2.2]⟩
/-- What is put into a shape's fields stands there, and nothing else. -/
theorem put_shape {op : Int} {q : List (Int × Int)} (h : knownB op = true) (hq : q.map (·.1) = letters op) :
    valsOf (letters op) (putAll q (zeroI op)) = q ∧ spareB (putAll q (zeroI op)) = false := by
  unfold spareB
  rw [put_op]
  show _ ∧ (!sameB (bareOf (letters op) _) (zeroI op)) = false
  rcases letters_of h with e | e | e | e | e | e | e | e | e <;> rw [e] at hq ⊢
  · obtain ⟨u, v, rfl⟩ := map_two hq; simp [putAll, valsOf, bareOf, withV, fieldV, zeroI, sameB]
  · obtain ⟨u, v, rfl⟩ := map_two hq; simp [putAll, valsOf, bareOf, withV, fieldV, zeroI, sameB]
  · obtain ⟨u, v, w, rfl⟩ := map_three hq; simp [putAll, valsOf, bareOf, withV, fieldV, zeroI, sameB]
  · obtain ⟨u, v, rfl⟩ := map_two hq; simp [putAll, valsOf, bareOf, withV, fieldV, zeroI, sameB]
  · obtain ⟨u, v, rfl⟩ := map_two hq; simp [putAll, valsOf, bareOf, withV, fieldV, zeroI, sameB]
  · obtain ⟨u, v, w, rfl⟩ := map_three hq; simp [putAll, valsOf, bareOf, withV, fieldV, zeroI, sameB]
  · obtain ⟨u, rfl⟩ := map_one hq; simp [putAll, valsOf, bareOf, withV, fieldV, zeroI, sameB]
  · obtain ⟨u, v, rfl⟩ := map_two hq; simp [putAll, valsOf, bareOf, withV, fieldV, zeroI, sameB]
  · obtain ⟨u, rfl⟩ := map_one hq; simp [putAll, valsOf, bareOf, withV, fieldV, zeroI, sameB]
theorem with_in {y : I} (h : In64I y) {c v : Int} (hv : In64 v) : In64I (withV y c v) := by
  obtain ⟨h1, h2, h3, h4, h5, h6⟩ := h
  unfold withV In64I
  repeat' split
  all_goals exact ⟨by assumption, by assumption, by assumption, by assumption, by assumption, by assumption⟩
theorem put_in : ∀ (q : List (Int × Int)) (y : I), In64I y → (∀ p ∈ q, In64 p.2) → In64I (putAll q y)
  | [], _, h, _ => h
  | p :: q, _, h, hq => put_in q _ (with_in h (hq p (List.mem_cons_self ..))) (fun r hr => hq r (List.mem_cons_of_mem _ hr))
theorem zeroI_in {op : Int} (h : In64 op) : In64I (zeroI op) := ⟨h, by unfold In64 zeroI; simp, by unfold In64 zeroI; simp, by unfold In64 zeroI; simp, by unfold In64 zeroI; simp, by unfold In64 zeroI; simp⟩

/-- What was read is right, and has just that text. -/
theorem prt_prs {s : List UInt8} {x : I} (h : prs s = some x) : chkV x 200 = 0 ∧ prtL x = s ∧ In64I x := by
  unfold prs at h
  split at h
  · cases h
  rename_i hne
  obtain ⟨h1, h2, h3⟩ := opOf_some hne
  obtain ⟨hb, hbm, _⟩ := cut_back s
  obtain ⟨q, hq, hz, ha, ht⟩ := join_rd _ _ _ _ x hbm h
  generalize hop : opOfL (cutL s).1 = k at *
  have hk : knownB (k : Int) = true := known_iff.mpr (by omega)
  obtain ⟨g1, g2⟩ := put_shape hk hq
  rw [← hz] at g1 g2
  have hxo : x.op = k := by rw [hz, put_op]; rfl
  have g1' : valsOf (letters x.op) x = q := by rw [hxo]; exact g1
  refine ⟨zero_chk (by rw [hxo]; exact hk) g2 ?_, ?_, ?_⟩
  · intro c hc
    have : (c, fieldV x c) ∈ q := by rw [← g1']; unfold valsOf; exact List.mem_map.mpr ⟨c, hc, rfl⟩
    exact (ha _ this).2
  · unfold prtL
    rw [g1', hxo, show ((k : Int)).toNat = k from by omega, h3, ← ht]
    exact hb.symm
  · rw [hz]
    exact put_in q _ (zeroI_in (by unfold In64; omega)) (fun p hp => (ha p hp).1)
theorem prs_iff {s : List UInt8} {x : I} : prs s = some x ↔ In64I x ∧ chkV x 200 = 0 ∧ prtL x = s :=
  ⟨fun h => ⟨(prt_prs h).2.2, (prt_prs h).1, (prt_prs h).2.1⟩, fun ⟨h1, h2, h3⟩ => h3 ▸ prs_prt h1 h2⟩

-- how long a text is
theorem piece_len {c v : Int} (h : In64 v) : (pieceL c v).length ≤ 20 := by
  unfold pieceL
  split
  · split
    · have := (locL_size v.toNat (by omega)).2; omega
    · simp
  · exact itoa_len h
theorem join_len : ∀ q : List (Int × Int), (∀ p ∈ q, In64 p.2) → (joinL q).length ≤ 21 * q.length
  | [], _ => by simp [joinL]
  | p :: q, h => by
    have h1 := join_len q (fun r hr => h r (List.mem_cons_of_mem _ hr))
    have h2 := piece_len (c := p.1) (h p (List.mem_cons_self ..))
    simp only [joinL, List.length_cons, List.length_append]
    omega
theorem word_len : ∀ k < 19, (wordL k).length ≤ 5 := by decide +kernel
theorem prt_len {x : I} (hx : In64I x) (h : knownB x.op = true) : (prtL x).length ≤ 100 := by
  have h1 := known_iff.mp h
  have h2 := word_len x.op.toNat (by omega)
  have h3 := join_len (valsOf (letters x.op) x) (by
    intro p hp
    obtain ⟨c, _, rfl⟩ := List.mem_map.mp hp
    exact field_in hx c)
  have h4 : (valsOf (letters x.op) x).length ≤ 3 := by
    unfold valsOf
    rw [List.length_map]
    rcases letters_of h with e | e | e | e | e | e | e | e | e <;> rw [e] <;> simp
  unfold prtL
  rw [List.length_append]
  omega
end Go.Proofs.YtdghhedenjgjiaaGreatDoor
