/-
  Layer 7 in plain words: states, which are right, what a step makes of one; what follows. No program stands in this text.
-/
import Derived.Test.YtdghhedenjgjiaaGreatDoorTellMath
import Derived.Test.YtdghhedenjgjiaaGreatDoorAsmMath
import Derived.Test.YtdghhedenjgjiaaGreatDoorHeapMath
import Derived.Test.YtdghhedenjgjiaaGreatDoorWordMath
import Derived.Test.YtdghhedenjgjiaaGreatDoorNumOp
namespace Go.Proofs.YtdghhedenjgjiaaGreatDoor
open Go.RowKit

/-- A machine's state. -/
structure Mc where
  l : Ws
  h : List Int
  p : Int
  q : Int
/-- An event: N, Arg, Answer. -/
abbrev Ev := Int × Int × Int
def wdB (x : Wd) : Bool := x.1 || decide (x.2 = 0)
def wordsB (l : Ws) : Bool := (List.range 24).all fun i => wdB (l i)
theorem words_at {l : Ws} (h : wordsB l = true) {i : Nat} (hi : i < 24) : wdB (l i) = true := (List.all_eq_true.mp h) i (List.mem_range.mpr hi)
theorem words_mk {l : Ws} (h : ∀ i < 24, wdB (l i) = true) : wordsB l = true := List.all_eq_true.mpr fun i hi => h i (List.mem_range.mp hi)
theorem words_no {l : Ws} {i : Nat} (hi : i < 24) (h : wdB (l i) = false) : wordsB l = false := by
  rw [Bool.eq_false_iff]
  intro e
  rw [words_at e hi] at h
  cases h
/-- Which states are right for a function. -/
def mcB (f : List I) (s : Mc) : Bool := decide ((chkF f).2 = 0 ∧ 0 ≤ s.p ∧ s.p < f.length ∧ s.h.length ≤ 16 ∧ 0 ≤ s.q ∧ wordsB s.l = true)
theorem mc_iff {f : List I} {s : Mc} : mcB f s = true ↔ (chkF f).2 = 0 ∧ 0 ≤ s.p ∧ s.p < f.length ∧ s.h.length ≤ 16 ∧ 0 ≤ s.q ∧ wordsB s.l = true := by
  unfold mcB
  rw [decide_eq_true_iff]
theorem mc_not {f : List I} {s : Mc} (h : ¬ ((chkF f).2 = 0 ∧ 0 ≤ s.p ∧ s.p < f.length ∧ s.h.length ≤ 16 ∧ 0 ≤ s.q ∧ wordsB s.l = true)) : mcB f s = false := decide_eq_false h
def noI : I := ⟨0, 0, 0, 0, 0, 0⟩
def insA (f : List I) (p : Int) : I := f.getD p.toNat noI
theorem insA_get {f : List I} {p : Int} (_h0 : 0 ≤ p) (h : p < f.length) : insA f p = f[p.toNat]'(by omega) := by
  unfold insA
  rw [List.getD_eq_getElem?_getD, List.getElem?_eq_getElem (by omega)]
  rfl
/-- What is known of an instruction that is right. -/
structure Ri (x : I) (n : Int) : Prop where
  o1 : 1 ≤ x.op
  o2 : x.op ≤ 18
  d0 : 0 ≤ x.d
  d1 : x.d < 24
  a0 : 0 ≤ x.a
  a1 : x.a < 24
  b0 : 0 ≤ x.b
  b1 : x.b < 24
  t0 : x.op = 16 ∨ x.op = 17 → 0 ≤ x.t ∧ x.t < n
theorem spare_letters {x : I} (h1 : knownB x.op = true) (h2 : spareB x = false) :
    (x.d = 0 ∨ (100 : Int) ∈ letters x.op ∨ (68 : Int) ∈ letters x.op) ∧ (x.a = 0 ∨ (97 : Int) ∈ letters x.op ∨ (65 : Int) ∈ letters x.op) ∧ (x.b = 0 ∨ (66 : Int) ∈ letters x.op) := by
  have h := put_vals h1 h2
  rcases letters_of h1 with e | e | e | e | e | e | e | e | e <;> rw [e] at h ⊢ <;> rw [← h] <;> simp [putAll, valsOf, withV, zeroI]
theorem fault_place {c v n : Int} (hc : c = 100 ∨ c = 97 ∨ c = 68 ∨ c = 65 ∨ c = 66) (h : faultV c v n = 0) : 0 ≤ v ∧ v < 24 := by
  unfold faultV at h
  split at h
  · split at h <;> omega
  · rw [if_pos (by omega)] at h
    split at h <;> omega
theorem ri_of {x : I} {n : Int} (h : chkV x n = 0) : Ri x n := by
  obtain ⟨h1, h2, h3⟩ := chk_zero h
  have hk := known_iff.mp h1
  obtain ⟨hd, ha, hb⟩ := spare_letters h1 h2
  have hD : 0 ≤ x.d ∧ x.d < 24 := by
    rcases hd with e | m | m
    · omega
    · exact fault_place (c := 100) (n := n) (by omega) (h3 100 m)
    · exact fault_place (c := 68) (n := n) (by omega) (h3 68 m)
  have hA : 0 ≤ x.a ∧ x.a < 24 := by
    rcases ha with e | m | m
    · omega
    · exact fault_place (c := 97) (n := n) (by omega) (h3 97 m)
    · exact fault_place (c := 65) (n := n) (by omega) (h3 65 m)
  have hB : 0 ≤ x.b ∧ x.b < 24 := by
    rcases hb with e | m
    · omega
    · exact fault_place (c := 66) (n := n) (by omega) (h3 66 m)
  refine ⟨hk.1, hk.2, hD.1, hD.2, hA.1, hA.2, hB.1, hB.2, fun ht => ?_⟩
  have hm : (84 : Int) ∈ letters x.op := by
    rcases ht with e | e <;> rw [e] <;> decide +kernel
  have := h3 84 hm
  have e : fieldV x 84 = x.t := rfl
  rw [e] at this
  have hf : (if x.t < 0 ∨ n ≤ x.t then (4 : Int) else 0) = 0 := this
  split at hf
  · omega
  · omega
theorem ri_at {f : List I} {s : Mc} (h : mcB f s = true) : Ri (insA f s.p) f.length := by
  have h' := mc_iff.mp h
  have hr := right_iff.mp h'.1
  refine ri_of ?_
  rw [insA_get h'.2.1 h'.2.2.1]
  exact hr.2.2.1 _ (List.getElem_mem _)
/-- Have all places a number that an instruction needs? -/
def knwB (x : I) (l : Ws) : Bool := (usesL x).all fun k => (l k.toNat).1
/-- What an instruction makes of a state, its event, and how it stands, if all that it needs is known. -/
def flw (x : I) (s : Mc) (az : List Int) : Mc × List Ev × Int :=
  if x.op = 1 then (⟨updW s.l x.d.toNat (true, x.n), s.h, s.p + 1, s.q⟩, [], 0)
  else if x.op = 2 then (⟨updW s.l x.d.toNat (s.l x.a.toNat), s.h, s.p + 1, s.q⟩, [], 0)
  else if x.op = 3 then (⟨updW (updW s.l x.a.toNat (s.l x.d.toNat)) x.d.toNat (s.l x.a.toNat), s.h, s.p + 1, s.q⟩, [], 0)
  else if x.op = 13 then (⟨updW s.l x.d.toNat (true, hpLd s.h (s.l x.a.toNat).2), s.h, s.p + 1, s.q⟩, [], hpHow s.h (s.l x.a.toNat).2)
  else if x.op = 14 then (⟨s.l, hpSt s.h (s.l x.a.toNat).2 (s.l x.b.toNat).2, s.p + 1, s.q⟩, [], hpHow s.h (s.l x.a.toNat).2)
  else if x.op = 15 then (if (az.length : Int) ≤ s.q then (⟨s.l, s.h, s.p + 1, s.q⟩, [], 5)
    else (⟨updW s.l x.d.toNat (true, az.getD s.q.toNat 0), s.h, s.p + 1, s.q + 1⟩, [(x.n, (s.l x.a.toNat).2, az.getD s.q.toNat 0)], 0))
  else if x.op = 16 then (⟨s.l, s.h, x.t, s.q⟩, [], 0)
  else if x.op = 17 then (if (s.l x.a.toNat).2 = 0 then (⟨s.l, s.h, x.t, s.q⟩, [], 0) else (⟨s.l, s.h, s.p + 1, s.q⟩, [], 0))
  else if x.op = 18 then (⟨s.l, s.h, s.p + 1, s.q⟩, [], 1)
  else (⟨updW s.l x.d.toNat (true, doV x.op (s.l x.a.toNat).2 (s.l x.b.toNat).2), s.h, s.p + 1, s.q⟩, [], doH x.op (s.l x.b.toNat).2)
/-- A step: the state, the events, how it stands, its value, its heap. -/
structure Tl where
  s : Mc
  ev : List Ev
  how : Int
  val : Int
  hp : List Int
def stp (f : List I) (s : Mc) (az : List Int) : Tl :=
  if knwB (insA f s.p) s.l = false then ⟨s, [], 2, 0, []⟩
  else if (flw (insA f s.p) s az).2.2 = 0 then ⟨(flw (insA f s.p) s az).1, (flw (insA f s.p) s az).2.1, 0, 0, []⟩
  else if (flw (insA f s.p) s az).2.2 = 1 then ⟨s, [], 1, (s.l (insA f s.p).a.toNat).2, s.h⟩
  else ⟨s, [], (flw (insA f s.p) s az).2.2, 0, []⟩
theorem hpHow_cases (zs : List Int) (a : Int) : (hpHow zs a = 0 ∧ inB zs a = true) ∨ (hpHow zs a = 4 ∧ inB zs a = false) := by
  cases h : inB zs a with
  | true => exact .inl ⟨hpHow_in h, rfl⟩
  | false => exact .inr ⟨hpHow_out h, rfl⟩
theorem doH_cases {op b : Int} (h : 4 ≤ op ∧ op ≤ 12) : doH op b = 0 ∨ doH op b = 3 := by
  unfold doH
  rw [if_neg (by omega)]
  split
  · exact .inr rfl
  · exact .inl rfl
end Go.Proofs.YtdghhedenjgjiaaGreatDoor
