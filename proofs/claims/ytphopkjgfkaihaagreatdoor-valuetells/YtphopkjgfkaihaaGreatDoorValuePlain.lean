/-
  Layer 11 in plain words: what a place has by a way; facts (the greatest set that stands); what a run does is an arrival at a node, by a way; that facts hold at each arrival. No program stands in this text.
  Layer 11 in plain words: each place has one fact; facts met by all ways till none changes are these; facts that are taken back till none is are these; numbers come from constants. No program stands in this text.
  Layer 11 in plain words: each step of a run is on the way from the beginning or from a node that was come to; where a place is cut, the run ends: Undef. No program stands in this text.
  Layer 11 in plain words: a skeleton is made again with the places cut at which it ends; places are cut, and again, till none is; that of a function that names no slots none is; that runs end at them. No program stands in this text.
  What an instruction that is right needs are registers. No program stands in this text.
-/
import Derived.Test.YtphopkjgfkaihaaGreatDoorSkelMath
import Derived.Test.YtphopkjgfkaihaaGreatDoorGfpMath
import Derived.Test.YtphopkjgfkaihaaGreatDoorPlain
namespace Go.Proofs.YtphopkjgfkaihaaGreatDoor
open Go.RowKit

/-- A source: its kind (0 none, 1 a register's, 2 a number, 3 what the node set, 4 a place's) and number. -/
abbrev Sc := Int × Int
def atN (s : Skl) (n : Nat) : Int := (s.nodes.getD n (0, [])).1
def outN (s : Skl) (n k : Nat) : Wyo := ((s.nodes.getD n (0, [])).2).getD k (0, newT)
def byA (f : List I) (s : Skl) (e : Int × Int) (l : Nat) : Sc :=
  if e.1 = -1 then (if (s.entry.2 l).1 = 1 then (2, (s.entry.2 l).2) else if (s.entry.2 l).2 < 8 then (1, (s.entry.2 l).2) else (0, 0))
  else if ((outN s e.1.toNat e.2.toNat).2 l).1 = 1 then (2, ((outN s e.1.toNat e.2.toNat).2 l).2)
  else if setsB (insA f (atN s e.1.toNat)).op = true ∧ (insA f (atN s e.1.toNat)).d = ((outN s e.1.toNat e.2.toNat).2 l).2 then (3, 0)
  else (4, ((outN s e.1.toNat e.2.toNat).2 l).2)
/-- Could a place have a fact, if all did that are said to have it? -/
def Fc (f : List I) (s : Skl) (c : Sc) (X : Nat × Nat → Prop) (p : Nat × Nat) : Prop :=
  p.1 < s.nodes.length ∧ p.2 < 24 ∧ ∀ e ∈ edgesA s (p.1 : Int), if (byA f s e p.2).1 = 4 then X (e.1.toNat, (byA f s e p.2).2.toNat) else byA f s e p.2 = c
theorem fc_mono (f : List I) (s : Skl) (c : Sc) {X Y : Nat × Nat → Prop} (h : ∀ a, X a → Y a) (p : Nat × Nat) (hp : Fc f s c X p) : Fc f s c Y p := by
  refine ⟨hp.1, hp.2.1, fun e he => ?_⟩
  have := hp.2.2 e he
  split
  · next h4 => rw [if_pos h4] at this; exact h _ this
  · next h4 => rw [if_neg h4] at this; exact this
def HasFact (f : List I) (s : Skl) (c : Sc) (n l : Nat) : Prop := Gfp (Fc f s c) (n, l)
theorem fact_post {f : List I} {s : Skl} {c : Sc} {n l : Nat} (h : HasFact f s c n l) : n < s.nodes.length ∧ l < 24 ∧ ∀ e ∈ edgesA s (n : Int), if (byA f s e l).1 = 4 then HasFact f s c e.1.toNat (byA f s e l).2.toNat else byA f s e l = c := gfp_post (fc_mono f s c) h
theorem skl_len (f : List I) (cut : List Bool) : (sklA f cut).nodes.length = (nodesA f cut).length := by simp [sklA]
theorem by_entry {f : List I} {s : Skl} {e : Int × Int} {l : Nat} (h : e.1 = -1) : (byA f s e l).1 ≠ 4 := by
  unfold byA
  rw [if_pos h]
  split
  · simp
  · split <;> simp
/-- A place has one fact at most. -/
theorem fact_one {f : List I} (hf : (chkF f).2 = 0) {cut : List Bool} {c c' : Sc} : ∀ (n : Nat) {l : Nat}, HasFact f (sklA f cut) c n l → HasFact f (sklA f cut) c' n l → c = c' := by
  intro n
  induction n using Nat.strongRecOn with
  | _ n ih =>
    intro l h h'
    obtain ⟨h1, _, h3⟩ := fact_post h
    obtain ⟨_, _, h3'⟩ := fact_post h'
    rw [skl_len] at h1
    obtain ⟨e, r, he, hlt⟩ := edges_first hf cut h1
    have a := h3 e (by rw [he]; simp)
    have b := h3' e (by rw [he]; simp)
    by_cases h4 : (byA f (sklA f cut) e l).1 = 4
    · rw [if_pos h4] at a b
      have hne : e.1 ≠ -1 := fun hh => by_entry hh h4
      have hm : e ∈ edgesA (sklA f cut) (n : Int) := by rw [he]; simp
      unfold edgesA at hm
      rw [List.mem_append] at hm
      have h0 : 0 ≤ e.1 := by
        rcases hm with hm | hm
        · split at hm
          · simp at hm
            rw [hm] at hne
            exact absurd rfl hne
          · simp at hm
        · have := allE_from e hm
          omega
      exact ih e.1.toNat (by omega) a b
    · rw [if_neg h4] at a b
      rw [← a, ← b]
/-! What a step leaves as it was; where it goes on. -/
set_option maxHeartbeats 2000000 in
theorem flw_keep {x : I} {s : Mc} {az : List Int} {l : Nat} (h1 : 1 ≤ x.op) (h2 : x.op ≤ 18) (h0 : 0 ≤ x.d) (hno : ¬ (x.op = 1 ∨ x.op = 2 ∨ x.op = 3 ∨ x.op = 16)) (hd : ¬ (setsB x.op = true ∧ x.d = (l : Int))) : (flw x s az).1.l l = s.l l := by
  by_cases hs : setsB x.op = true
  · have hne : l ≠ x.d.toNat := fun e => hd ⟨hs, by omega⟩
    have hu : ∀ w, updW s.l x.d.toNat w l = s.l l := fun w => by unfold updW; rw [if_neg hne]
    unfold flw
    repeat' split
    all_goals first
      | (exfalso; omega)
      | exact hu _
      | rfl
  · have hs' : ¬ ((4 ≤ x.op ∧ x.op ≤ 13) ∨ x.op = 15) := by
      intro e
      apply hs
      have : ∀ k < 19, ((4 ≤ k ∧ k ≤ 13) ∨ k = 15) → setsB (k : Nat) = true := by decide +kernel
      have h3 := this x.op.toNat (by omega) (by omega)
      rwa [show ((x.op.toNat : Nat) : Int) = x.op by omega] at h3
    unfold flw
    repeat' split
    all_goals first
      | (exfalso; omega)
      | rfl
theorem stp_keep {f : List I} {s : Mc} {az : List Int} (hr : Ri (insA f s.p) f.length) (hm : mvA f s.p = false) {l : Nat} (hd : ¬ (setsB (insA f s.p).op = true ∧ (insA f s.p).d = (l : Int))) : (stp f s az).s.l l = s.l l := by
  have hmv : movesB (insA f s.p).op = false := hm
  have key := flw_keep (s := s) (az := az) hr.o1 hr.o2 hr.d0 (of_decide_eq_false hmv) hd
  unfold stp
  split
  · rfl
  · split
    · exact key
    · split <;> rfl
set_option maxHeartbeats 2000000 in
theorem flw_next {x : I} {s : Mc} {az : List Int} (hno : ¬ (x.op = 1 ∨ x.op = 2 ∨ x.op = 3 ∨ x.op = 16)) (h17 : x.op ≠ 17) : (flw x s az).1.p = s.p + 1 := by
  unfold flw
  repeat' split
  all_goals first
    | (exfalso; omega)
    | rfl
theorem stp_to {f : List I} {cut : List Bool} {s : Mc} {az : List Int} (hm : mvA f s.p = false) (hc : ctA cut s.p = false) (h0 : (stp f s az).how = 0) : (stp f s az).s.p ∈ fromsA f cut s.p := by
  have hmv : movesB (insA f s.p).op = false := hm
  have hno := of_decide_eq_false hmv
  unfold stp at h0 ⊢
  split at h0
  · cases h0
  · next hk =>
    rw [if_neg hk]
    split at h0
    · next hz =>
      rw [if_pos hz]
      have h18 : (insA f s.p).op ≠ 18 := by
        intro e
        have : (flw (insA f s.p) s az).2.2 = 1 := by unfold flw; simp [e]
        omega
      unfold fromsA
      rw [if_neg (fun e => e.elim h18 (by rw [hc]; simp))]
      by_cases h17 : (insA f s.p).op = 17
      · rw [if_pos h17]
        have E : flw (insA f s.p) s az = (if (s.l (insA f s.p).a.toNat).2 = 0 then (⟨s.l, s.h, (insA f s.p).t, s.q⟩, [], 0) else (⟨s.l, s.h, s.p + 1, s.q⟩, [], 0)) := by unfold flw; simp [h17]
        show (flw (insA f s.p) s az).1.p ∈ _
        rw [E]
        split <;> simp
      · rw [if_neg h17]
        have E := flw_next (s := s) (az := az) hno h17
        show (flw (insA f s.p) s az).1.p ∈ _
        rw [E]
        simp
    · next hz =>
      exfalso
      split at h0
      · cases h0
      · exact hz h0
/-! Arrivals at nodes: after t nodes a run is at node n, in state M. -/
def ArrA (f : List I) (cut : List Bool) (az : List Int) (m0 : Mc) : Nat → Nat → Mc → Prop
  | 0, n, M => ∃ j, pthA f m0.p = some j ∧ n = (nodesA f cut).idxOf (toA f m0.p) ∧ M = mvS f m0 j
  | t + 1, n, M => ∃ m M' j, ArrA f cut az m0 t m M' ∧ (stp f M' az).how = 0 ∧ ctA cut M'.p = false ∧ pthA f (stp f M' az).s.p = some j ∧ n = (nodesA f cut).idxOf (toA f (stp f M' az).s.p) ∧ M = mvS f (stp f M' az).s j
theorem to_some {f : List I} {p : Int} {j : Nat} (h : pthA f p = some j) : toA f p = itA f p j ∧ tblA f p = tbA f p j := by
  unfold toA tblA
  rw [h]
  exact ⟨rfl, rfl⟩
theorem in_first {f : List I} (hf : (chkF f).2 = 0) (cut : List Bool) (h : 0 ≤ toA f 0) : toA f 0 ∈ nodesA f cut := by
  obtain ⟨l, hp⟩ := met_nodes hf cut 0
  rw [hp]
  refine List.mem_append_left _ ?_
  show toA f 0 ∈ firstA f
  unfold firstA
  rw [if_pos h]
  simp
theorem idx_lt {l : List Int} {x : Int} (h : x ∈ l) : l.idxOf x < l.length ∧ l.getD (l.idxOf x) 0 = x := by
  have h1 : l.idxOf x < l.length := List.idxOf_lt_length_of_mem h
  refine ⟨h1, ?_⟩
  rw [List.getD_eq_getElem?_getD, List.getElem?_eq_getElem h1]
  exact List.getElem_idxOf h1
theorem at_skl {f : List I} {cut : List Bool} {n : Nat} (h : n < (nodesA f cut).length) : atN (sklA f cut) n = (nodesA f cut).getD n 0 := by
  unfold atN sklA
  rw [List.getD_eq_getElem?_getD, List.getElem?_map, List.getD_eq_getElem?_getD, List.getElem?_eq_getElem h]
  rfl
theorem mvS_in {f : List I} {m : Mc} (h : mcB f m = true) {j : Nat} (hj : pthA f m.p = some j) : mcB f (mvS f m j) = true ∧ mvA f (mvS f m j).p = false ∧ (mvS f m j).p = toA f m.p ∧ 0 ≤ toA f m.p := by
  have hi : InF f m.p := ⟨(mc_iff.mp h).1, (mc_iff.mp h).2.1, (mc_iff.mp h).2.2.1⟩
  have hw := pth_wy hi
  rw [hj] at hw
  have ht := (to_some hj).1
  refine ⟨mvS_right h hw.1, hw.2, ht.symm, ?_⟩
  rw [ht]
  exact (it_in hi hw.1).2.1
theorem arr_in {f : List I} {cut : List Bool} {az : List Int} {m0 : Mc} (h0 : mcB f m0 = true) (hp : m0.p = 0) : ∀ (t : Nat) {n : Nat} {M : Mc}, ArrA f cut az m0 t n M → mcB f M = true ∧ mvA f M.p = false ∧ n < (nodesA f cut).length ∧ (nodesA f cut).getD n 0 = M.p
  | 0, n, M, h => by
    obtain ⟨j, h1, rfl, rfl⟩ := h
    obtain ⟨a, b, c, d⟩ := mvS_in h0 h1
    rw [hp] at c d
    have hm := in_first (mc_iff.mp h0).1 cut d
    refine ⟨a, b, ?_, ?_⟩
    · rw [hp]; exact (idx_lt hm).1
    · rw [c, hp]; exact (idx_lt hm).2
  | t + 1, n, M, h => by
    obtain ⟨m, M', j, h1, h2, h3, h4, rfl, rfl⟩ := h
    obtain ⟨p1, p2, p3, p4⟩ := arr_in h0 hp t h1
    have hr := stp_right p1 h2
    obtain ⟨a, b, c, d⟩ := mvS_in hr h4
    have hq := stp_to (az := az) p2 h3 h2
    have hm : toA f (stp f M' az).s.p ∈ nodesA f cut := by
      refine nodes_closed (mc_iff.mp p1).1 cut p3 ?_ d
      rw [p4]
      exact hq
    exact ⟨a, b, (idx_lt hm).1, by rw [c]; exact (idx_lt hm).2⟩
theorem fil_src {t : Tb} (ht : goodT t = true) (l : Ws) {k : Nat} (hk : k < 24) : ((t k).1 = 1 ∧ fil t l k = (true, (t k).2)) ∨ ((t k).1 = 0 ∧ 0 ≤ (t k).2 ∧ (t k).2 < 24 ∧ fil t l k = l (t k).2.toNat) := by
  rw [← fil_here ht]
  rcases ok_cases (good_at ht hk) with h | ⟨h, h1, h2⟩
  · left
    exact ⟨h, by rw [if_neg (by omega)]⟩
  · right
    exact ⟨h, h1, h2, by rw [if_pos h]⟩
/-- WHENEVER A RUN COMES TO A NODE, a place whose fact is a number has that number there, and one whose fact is nothing has nothing. -/
theorem arr_fact {f : List I} {cut : List Bool} {az : List Int} {m0 : Mc} (h0 : mcB f m0 = true) (hp : m0.p = 0) (hb : ∀ i < 24, 8 ≤ i → (m0.l i).1 = false) : ∀ (t : Nat) {n : Nat} {M : Mc}, ArrA f cut az m0 t n M → ∀ (c : Sc) (l : Nat), HasFact f (sklA f cut) c n l →
    (c.1 = 2 → M.l l = (true, c.2)) ∧ (c = (0, 0) → (M.l l).1 = false)
  | 0, n, M, h => by
    intro c l hc
    have hin := arr_in h0 hp 0 h
    obtain ⟨j, h1, e1, rfl⟩ := h
    obtain ⟨_, hl, h3⟩ := fact_post hc
    obtain ⟨_, _, hto, hge⟩ := mvS_in h0 h1
    rw [hp] at hto hge e1
    have hmem : ((-1 : Int), (0 : Int)) ∈ edgesA (sklA f cut) (n : Int) := by
      unfold edgesA
      rw [if_pos]
      · simp
      · show (if toA f 0 < 0 then (-1 : Int) else (((nodesA f cut).idxOf (toA f 0) : Nat) : Int)) = n
        rw [if_neg (by omega), e1]
    have he := h3 _ hmem
    rw [if_neg (by_entry rfl)] at he
    have htb : (sklA f cut).entry.2 = tbA f 0 j := by
      show tblA f 0 = _
      rw [hp] at h1
      exact (to_some h1).2
    have hM : (mvS f m0 j).l l = fil (tbA f 0 j) m0.l l := by
      show fil (tbA f m0.p j) m0.l l = _
      rw [hp]
    rw [hM]
    unfold byA at he
    rw [if_pos rfl, htb] at he
    rcases fil_src (good_tb f 0 j) m0.l hl with ⟨a1, a2⟩ | ⟨a1, a2, a3, a4⟩
    · rw [if_pos a1] at he
      rw [a2, ← he]
      exact ⟨fun _ => rfl, fun e => (by simp at e)⟩
    · rw [if_neg (by omega)] at he
      split at he
      · rw [← he]
        exact ⟨fun e => (by simp at e), fun e => (by simp at e)⟩
      · rw [← he, a4]
        exact ⟨fun e => (by simp at e), fun _ => hb _ (by omega) (by omega)⟩
  | t + 1, n, M, h => by
    intro c l hc
    obtain ⟨m, M', j, h1, h2, h3, h4, e1, rfl⟩ := h
    obtain ⟨_, hl, h5⟩ := fact_post hc
    obtain ⟨p1, p2, p3, p4⟩ := arr_in h0 hp t h1
    have hr := stp_right p1 h2
    obtain ⟨_, _, hto, hge⟩ := mvS_in hr h4
    have hq := stp_to (az := az) p2 h3 h2
    rw [← p4] at hq
    obtain ⟨k, hk, hkq⟩ := List.getElem_of_mem hq
    have hat := at_skl p3
    have hg : (nodesA f cut)[m] = (nodesA f cut).getD m 0 := by
      rw [List.getD_eq_getElem?_getD, List.getElem?_eq_getElem p3]
      rfl
    have hout : outN (sklA f cut) m k = wyA f (nodesA f cut) (stp f M' az).s.p := by
      have h6 : (sklA f cut).nodes.getD m (0, []) = ((nodesA f cut)[m], (fromsA f cut (nodesA f cut)[m]).map (wyA f (nodesA f cut))) := by
        unfold sklA
        rw [List.getD_eq_getElem?_getD, List.getElem?_map, List.getElem?_eq_getElem p3]
        rfl
      unfold outN
      rw [h6, hg]
      show ((fromsA f cut ((nodesA f cut).getD m 0)).map (wyA f (nodesA f cut))).getD k (0, newT) = _
      rw [List.getD_eq_getElem?_getD, List.getElem?_map, List.getElem?_eq_getElem hk, hkq]
      rfl
    have hmem : ((m : Int), (k : Int)) ∈ edgesA (sklA f cut) (n : Int) := by
      unfold edgesA
      refine List.mem_append_right _ (allE_mem.mpr ⟨m, by rw [skl_len]; exact p3, by simp, k, ?_, rfl, ?_⟩)
      · simp only [sklA, List.getElem_map, List.length_map]
        rw [hg]
        exact hk
      · simp only [sklA, List.getElem_map]
        have h8 : (fromsA f cut (nodesA f cut)[m])[k]'(by rw [hg]; exact hk) = (stp f M' az).s.p := by rw [← hkq]; congr 1; rw [hg]
        rw [h8, e1]
        show (if toA f (stp f M' az).s.p < 0 then (-1 : Int) else (((nodesA f cut).idxOf (toA f (stp f M' az).s.p) : Nat) : Int)) = _
        rw [if_neg (by omega)]
    have he := h5 _ hmem
    have htb : (outN (sklA f cut) m k).2 = tbA f (stp f M' az).s.p j := by
      rw [hout]
      exact (to_some h4).2
    have hM : (mvS f (stp f M' az).s j).l l = fil (tbA f (stp f M' az).s.p j) (stp f M' az).s.l l := rfl
    rw [hM]
    have hby : byA f (sklA f cut) ((m : Int), (k : Int)) l = if (tbA f (stp f M' az).s.p j l).1 = 1 then (2, (tbA f (stp f M' az).s.p j l).2) else if setsB (insA f M'.p).op = true ∧ (insA f M'.p).d = (tbA f (stp f M' az).s.p j l).2 then (3, 0) else (4, (tbA f (stp f M' az).s.p j l).2) := by
      unfold byA
      rw [if_neg (by show ¬ (m : Int) = -1; omega)]
      simp only [Int.toNat_natCast, htb, hat, p4]
    rw [hby] at he
    rcases fil_src (good_tb f (stp f M' az).s.p j) (stp f M' az).s.l hl with ⟨a1, a2⟩ | ⟨a1, a2, a3, a4⟩
    · rw [if_pos a1, if_neg (by simp)] at he
      rw [a2, ← he]
      exact ⟨fun _ => rfl, fun e => (by simp at e)⟩
    · have i1 : ¬ (tbA f (stp f M' az).s.p j l).1 = 1 := by omega
      rw [if_neg i1] at he
      by_cases hs : setsB (insA f M'.p).op = true ∧ (insA f M'.p).d = (tbA f (stp f M' az).s.p j l).2
      · rw [if_pos hs, if_neg (by simp)] at he
        rw [← he]
        exact ⟨fun e => (by simp at e), fun e => (by simp at e)⟩
      · rw [if_neg hs, if_pos rfl] at he
        have hf' : HasFact f (sklA f cut) c m (tbA f (stp f M' az).s.p j l).2.toNat := he
        have hk' := stp_keep (az := az) (l := (tbA f (stp f M' az).s.p j l).2.toNat) (ri_at p1) p2 (by rw [Int.toNat_of_nonneg a2]; exact hs)
        rw [a4, hk']
        exact arr_fact h0 hp hb t h1 _ _ hf'
end Go.Proofs.YtphopkjgfkaihaaGreatDoor
namespace Go.Proofs.YtphopkjgfkaihaaGreatDoor
open Go.RowKit

/-- What a fact may be but a place itself: nothing, or a number. -/
def isF (c : Sc) : Prop := c = (0, 0) ∨ c.1 = 2
/-- A place's fact. -/
def IsFact (f : List I) (s : Skl) (n l : Nat) (c : Sc) : Prop := (isF c ∧ HasFact f s c n l) ∨ (c = (4, (l : Int)) ∧ ∀ c', isF c' → ¬ HasFact f s c' n l)
def FactTab (f : List I) (s : Skl) (F : Nat → Nat → Sc) : Prop := ∀ n l, n < s.nodes.length → l < 24 → IsFact f s n l (F n l)
theorem fact_ex (f : List I) (s : Skl) (n l : Nat) : ∃ c, IsFact f s n l c := by
  by_cases h : ∃ c, isF c ∧ HasFact f s c n l
  · obtain ⟨c, h⟩ := h
    exact ⟨c, .inl h⟩
  · exact ⟨(4, (l : Int)), .inr ⟨rfl, fun c' h1 h2 => h ⟨c', h1, h2⟩⟩⟩
theorem fact_tab (f : List I) (s : Skl) : ∃ F, FactTab f s F := ⟨fun n l => Classical.choose (fact_ex f s n l), fun n l _ _ => Classical.choose_spec (fact_ex f s n l)⟩
theorem is_one {f : List I} (hf : (chkF f).2 = 0) {cut : List Bool} {n l : Nat} {c c' : Sc} (h : IsFact f (sklA f cut) n l c) (h' : IsFact f (sklA f cut) n l c') : c = c' := by
  rcases h with ⟨a, b⟩ | ⟨a, b⟩
  · rcases h' with ⟨a', b'⟩ | ⟨a', b'⟩
    · exact fact_one hf n b b'
    · exact absurd b (b' c a)
  · rcases h' with ⟨a', b'⟩ | ⟨a', b'⟩
    · exact absurd b' (b c' a')
    · rw [a, a']
theorem isF_ne4 {c : Sc} (h : isF c) : c.1 ≠ 4 ∧ c.1 ≠ -1 := by
  rcases h with h | h
  · rw [h]; decide
  · rw [h]; decide
theorem is_iff {f : List I} {cut : List Bool} (hf : (chkF f).2 = 0) {n l : Nat} {c k : Sc} (h : IsFact f (sklA f cut) n l k) (hc : isF c) : HasFact f (sklA f cut) c n l ↔ k = c := by
  constructor
  · intro h1
    exact is_one hf h (.inl ⟨hc, h1⟩)
  · intro e
    subst e
    rcases h with ⟨_, b⟩ | ⟨a, _⟩
    · exact b
    · rw [a] at hc
      exact absurd rfl (isF_ne4 hc).1
/-! Tables are good; ways that lead to nodes. -/
theorem good_tbl (f : List I) (p : Int) : goodT (tblA f p) = true := good_tbP f p _
structure GoodS (s : Skl) : Prop where
  e : goodT s.entry.2 = true
  o : ∀ x ∈ s.nodes, ∀ o ∈ x.2, goodT o.2 = true
  b : ∀ x ∈ s.nodes, x.2.length ≤ 10
theorem good_skl (f : List I) (cut : List Bool) : GoodS (sklA f cut) := by
  refine ⟨good_tbl f 0, fun x hx o ho => ?_, fun x hx => ?_⟩
  · simp only [sklA, List.mem_map] at hx
    obtain ⟨p, _, rfl⟩ := hx
    obtain ⟨q, _, rfl⟩ := List.mem_map.mp ho
    exact good_tbl f q
  · simp only [sklA, List.mem_map] at hx
    obtain ⟨p, _, rfl⟩ := hx
    show ((fromsA f cut p).map (wyA f (nodesA f cut))).length ≤ 10
    unfold fromsA
    rw [List.length_map]
    split <;> (try split) <;> simp
theorem by_kind (f : List I) (s : Skl) (e : Int × Int) (l : Nat) : (byA f s e l) = (0, 0) ∨ (byA f s e l).1 = 1 ∨ (byA f s e l).1 = 2 ∨ (byA f s e l) = (3, 0) ∨ (byA f s e l).1 = 4 := by
  unfold byA
  split
  · split
    · exact .inr (.inr (.inl rfl))
    · split
      · exact .inr (.inl rfl)
      · exact .inl rfl
  · split
    · exact .inr (.inr (.inl rfl))
    · split
      · exact .inr (.inr (.inr (.inl rfl)))
      · exact .inr (.inr (.inr (.inr rfl)))
/-- A way to a node is the Entry, or one of a node's. -/
theorem edge_in {s : Skl} {n : Int} {e : Int × Int} (h : e ∈ edgesA s n) : (e = (-1, 0) ∧ s.entry.1 = n) ∨ ∃ (j : Nat) (x : Int × List Wyo) (k : Nat) (o : Wyo), s.nodes[j]? = some x ∧ x.2[k]? = some o ∧ e = ((j : Int), (k : Int)) ∧ o.1 = n ∧ outN s j k = o := by
  unfold edgesA at h
  rw [List.mem_append] at h
  rcases h with h | h
  · split at h
    · next he =>
      simp at h
      exact .inl ⟨h, he⟩
    · simp at h
  · obtain ⟨a, b⟩ := e
    obtain ⟨j, hj, h1, k, hk, h2, h3⟩ := allE_mem.mp h
    refine .inr ⟨j, s.nodes[j], k, (s.nodes[j]).2[k], List.getElem?_eq_getElem hj, List.getElem?_eq_getElem hk, ?_, h3, ?_⟩
    · rw [h1, h2, Nat.zero_add]
    · unfold outN
      have h5 : s.nodes.getD j (0, []) = s.nodes[j] := by rw [List.getD_eq_getElem?_getD, List.getElem?_eq_getElem hj]; rfl
      rw [h5, List.getD_eq_getElem?_getD, List.getElem?_eq_getElem hk]
      rfl
theorem edge_from {s : Skl} {n : Int} {e : Int × Int} (h : e ∈ edgesA s n) : e.1 = -1 ∨ (0 ≤ e.1 ∧ e.1.toNat < s.nodes.length) := by
  rcases edge_in h with ⟨h, _⟩ | ⟨j, x, k, o, h1, _, h3, _⟩
  · left; rw [h]
  · right
    rw [h3]
    have := (List.getElem?_eq_some_iff.mp h1).1
    exact ⟨by show (0 : Int) ≤ (j : Int); omega, by show ((j : Int)).toNat < _; omega⟩
/-- What is a place's comes from a node that is there, and is one of the 24. -/
theorem by_val {f : List I} {s : Skl} (hg : GoodS s) {n : Int} {e : Int × Int} (h : e ∈ edgesA s n) {l : Nat} (hl : l < 24) (h4 : (byA f s e l).1 = 4) : 0 ≤ e.1 ∧ e.1.toNat < s.nodes.length ∧ 0 ≤ (byA f s e l).2 ∧ (byA f s e l).2.toNat < 24 := by
  rcases edge_in h with ⟨h1, _⟩ | ⟨j, x, k, o, h1, h2, h3, _, h5⟩
  · exact absurd h4 (by_entry (by rw [h1]))
  · have hj := (List.getElem?_eq_some_iff.mp h1).1
    have hgo := hg.o x (List.mem_of_getElem? h1) o (List.mem_of_getElem? h2)
    have hne : ¬ e.1 = -1 := by rw [h3]; show ¬ (j : Int) = -1; omega
    refine ⟨by rw [h3]; show (0 : Int) ≤ (j : Int); omega, by rw [h3]; show ((j : Int)).toNat < _; omega, ?_⟩
    unfold byA at h4 ⊢
    rw [if_neg hne] at h4 ⊢
    have hout : outN s e.1.toNat e.2.toNat = o := by rw [h3]; exact h5
    rw [hout] at h4 ⊢
    split at h4
    · cases h4
    · next h6 =>
      rw [if_neg h6]
      split at h4
      · cases h4
      · next h7 =>
        rw [if_neg h7]
        rcases ok_cases (good_at hgo hl) with h8 | ⟨_, h8, h9⟩
        · exact absurd (by omega) h6
        · exact ⟨h8, by show (o.2 l).2.toNat < 24; omega⟩
/-! Facts that are met. -/
def metF (c x : Sc) (l : Nat) : Sc := if x.1 = -1 then c else if (x.1 = 2 ∨ x.1 = 0) ∧ (c.1 = -1 ∨ c = x) then x else (4, (l : Int))
abbrev Kt := Nat → Nat → Sc
def updK (K : Kt) (n l : Nat) (c : Sc) : Kt := fun a b => if a = n ∧ b = l then c else K a b
def byK (f : List I) (s : Skl) (K : Kt) (e : Int × Int) (l : Nat) : Sc := if (byA f s e l).1 = 4 then K e.1.toNat (byA f s e l).2.toNat else byA f s e l
def formK (c : Sc) (l : Nat) : Prop := c = (-1, 0) ∨ isF c ∨ c = (4, (l : Int))
def rkS (c : Sc) : Nat := if c.1 = -1 then 2 else if c.1 = 4 then 0 else 1
/-- Not below the facts. -/
structure Kn (f : List I) (s : Skl) (K : Kt) : Prop where
  form : ∀ n l, n < s.nodes.length → l < 24 → formK (K n l) l
  up : ∀ n l, n < s.nodes.length → l < 24 → ∀ c, isF c → HasFact f s c n l → K n l = (-1, 0) ∨ K n l = c
theorem kn_open (f : List I) (s : Skl) : Kn f s (fun _ _ => (-1, 0)) := ⟨fun _ _ _ _ => .inl rfl, fun _ _ _ _ _ _ _ => .inl rfl⟩
theorem byK_kind {f : List I} {s : Skl} {K : Kt} (hg : GoodS s) (hK : Kn f s K) {n : Int} {e : Int × Int} (he : e ∈ edgesA s n) {l : Nat} (hl : l < 24) : byK f s K e l = (-1, 0) ∨ isF (byK f s K e l) ∨ (byK f s K e l).1 = 1 ∨ (byK f s K e l).1 = 3 ∨ (byK f s K e l).1 = 4 := by
  unfold byK
  split
  · next h4 =>
    obtain ⟨_, h1, _, h2⟩ := by_val hg he hl h4
    rcases hK.form _ _ h1 h2 with h | h | h
    · exact .inl h
    · exact .inr (.inl h)
    · right; right; right; right; rw [h]
  · rcases by_kind f s e l with h | h | h | h | h
    · exact .inr (.inl (.inl h))
    · exact .inr (.inr (.inl h))
    · exact .inr (.inl (.inr h))
    · right; right; right; left; rw [h]
    · exact .inr (.inr (.inr (.inr h)))
theorem isF_k {x : Sc} (h : isF x) : ¬ x.1 = -1 ∧ (x.1 = 2 ∨ x.1 = 0) := by
  rcases h with h | h
  · rw [h]; decide
  · rw [h]; decide
theorem met_form {c x : Sc} {l : Nat} (hc : formK c l) (hx : x = (-1, 0) ∨ isF x ∨ x.1 = 1 ∨ x.1 = 3 ∨ x.1 = 4) : formK (metF c x l) l := by
  unfold metF
  split
  · exact hc
  · next h =>
    split
    · next h2 =>
      rcases hx with e | e | e | e | e
      · exact absurd (by rw [e]) h
      · exact .inr (.inl e)
      · omega
      · omega
      · omega
    · exact .inr (.inr rfl)
/-- Either it stays, or it falls. -/
theorem met_rank {c x : Sc} {l : Nat} (hc : formK c l) : metF c x l = c ∨ rkS (metF c x l) < rkS c := by
  unfold metF
  split
  · exact .inl rfl
  · next h =>
    split
    · next h2 =>
      rcases h2.2 with h3 | h3
      · right
        unfold rkS
        rw [if_neg h, if_pos h3, if_neg (by omega)]
        decide
      · exact .inl h3.symm
    · rcases hc with e | e | e
      · right; rw [e]; show (0 : Nat) < 2; omega
      · right
        have := isF_k e
        have h4 := (isF_ne4 e).1
        unfold rkS
        rw [if_neg this.1, if_neg h4]
        show (0 : Nat) < 1
        omega
      · exact .inl e.symm
theorem met_up {c x k : Sc} {l : Nat} (hk : isF k) (hc : c = (-1, 0) ∨ c = k) (hx : x = (-1, 0) ∨ x = k) : metF c x l = (-1, 0) ∨ metF c x l = k := by
  have hkk := isF_k hk
  rcases hx with rfl | rfl
  · unfold metF
    rw [if_pos rfl]
    exact hc
  · right
    unfold metF
    rw [if_neg hkk.1, if_pos ⟨hkk.2, hc.imp (fun h => by rw [h]) id⟩]
theorem kn_step {f : List I} {s : Skl} {K : Kt} (hg : GoodS s) (hK : Kn f s K) {n l : Nat} (hn : n < s.nodes.length) (hl : l < 24) {e : Int × Int} (he : e ∈ edgesA s (n : Int)) : Kn f s (updK K n l (metF (K n l) (byK f s K e l) l)) := by
  refine ⟨fun a b ha hb => ?_, fun a b ha hb c hc hh => ?_⟩
  · unfold updK
    split
    · next h =>
      rw [h.2]
      exact met_form (hK.form n l hn hl) (byK_kind hg hK he hl)
    · exact hK.form a b ha hb
  · unfold updK
    split
    · next h =>
      obtain ⟨rfl, rfl⟩ := h
      refine met_up hc (hK.up a b ha hb c hc hh) ?_
      have hp := (fact_post hh).2.2 e he
      unfold byK
      split
      · next h4 =>
        rw [if_pos h4] at hp
        obtain ⟨_, h1, _, h2⟩ := by_val hg he hl h4
        exact hK.up _ _ h1 h2 c hc hp
      · next h4 =>
        rw [if_neg h4] at hp
        exact .inr hp
    · exact hK.up a b ha hb c hc hh
/-- A place is met by its ways. -/
def meetK (f : List I) (s : Skl) (n l : Nat) (es : List (Int × Int)) (K : Kt) : Kt := es.foldl (fun K e => updK K n l (metF (K n l) (byK f s K e l) l)) K
/-- By no way does it change. -/
def Stay (f : List I) (s : Skl) (K : Kt) (n l : Nat) : Prop := ∀ e ∈ edgesA s (n : Int), metF (K n l) (byK f s K e l) l = K n l
theorem upd_self (K : Kt) (n l : Nat) : updK K n l (K n l) = K := by
  funext a b
  unfold updK
  split
  · next h => rw [h.1, h.2]
  · rfl
theorem upd_at (K : Kt) (n l : Nat) (c : Sc) : updK K n l c n l = c := if_pos ⟨rfl, rfl⟩
theorem upd_ne {K : Kt} {n l : Nat} {c : Sc} {a b : Nat} (h : ¬ (a = n ∧ b = l)) : updK K n l c a b = K a b := if_neg h
theorem meet_all {f : List I} {s : Skl} (hg : GoodS s) {n l : Nat} (hn : n < s.nodes.length) (hl : l < 24) : ∀ (es : List (Int × Int)) {K : Kt}, (∀ e ∈ es, e ∈ edgesA s (n : Int)) → Kn f s K →
    Kn f s (meetK f s n l es K) ∧ (∀ a b, ¬ (a = n ∧ b = l) → meetK f s n l es K a b = K a b) ∧ ((meetK f s n l es K = K ∧ ∀ e ∈ es, metF (K n l) (byK f s K e l) l = K n l) ∨ rkS (meetK f s n l es K n l) < rkS (K n l))
  | [], K, _, hK => ⟨hK, fun _ _ _ => rfl, .inl ⟨rfl, by simp⟩⟩
  | e :: es, K, hs, hK => by
    have he := hs e (by simp)
    have hK' := kn_step hg hK hn hl he
    obtain ⟨h1, h2, h3⟩ := meet_all hg hn hl es (fun e h => hs e (by simp [h])) hK'
    have hr := met_rank (x := byK f s K e l) (hK.form n l hn hl)
    have hu := upd_at K n l (metF (K n l) (byK f s K e l) l)
    show Kn f s (meetK f s n l es (updK K n l (metF (K n l) (byK f s K e l) l))) ∧ (∀ a b, ¬ (a = n ∧ b = l) → meetK f s n l es (updK K n l (metF (K n l) (byK f s K e l) l)) a b = K a b) ∧ ((meetK f s n l es (updK K n l (metF (K n l) (byK f s K e l) l)) = K ∧ _) ∨ rkS (meetK f s n l es (updK K n l (metF (K n l) (byK f s K e l) l)) n l) < rkS (K n l))
    refine ⟨h1, fun a b hab => (h2 a b hab).trans (upd_ne hab), ?_⟩
    rcases hr with hr | hr
    · rw [hr, upd_self] at h3 ⊢
      rcases h3 with ⟨h4, h5⟩ | h3
      · left
        refine ⟨h4, fun x hx => ?_⟩
        rcases List.mem_cons.mp hx with rfl | hx
        · exact hr
        · exact h5 x hx
      · exact .inr h3
    · right
      rcases h3 with ⟨h4, _⟩ | h3
      · rw [h4, hu]; exact hr
      · rw [hu] at h3; omega
/-- How much may still fall. -/
def rowSum (g : Nat → Nat) : Nat → Nat
  | 0 => 0
  | k + 1 => rowSum g k + g k
theorem rowSum_eq {g h : Nat → Nat} : ∀ {k : Nat}, (∀ i < k, g i = h i) → rowSum g k = rowSum h k
  | 0, _ => rfl
  | k + 1, e => by rw [rowSum, rowSum, rowSum_eq fun i hi => e i (by omega), e k (by omega)]
theorem rowSum_lt {g h : Nat → Nat} {j : Nat} (hlt : g j < h j) : ∀ {k : Nat}, j < k → (∀ i, i ≠ j → g i = h i) → rowSum g k < rowSum h k
  | 0, hj, _ => absurd hj (Nat.not_lt_zero _)
  | k + 1, hj, e => by
    rw [rowSum, rowSum]
    by_cases h1 : j = k
    · rw [rowSum_eq fun i hi => e i (by omega), ← h1]
      omega
    · have := rowSum_lt hlt (k := k) (by omega) e
      rw [e k (Ne.symm h1)]
      omega
def sumK (N : Nat) (K : Kt) : Nat := rowSum (fun n => rowSum (fun l => rkS (K n l)) 24) N
theorem sum_lt {N : Nat} {K K' : Kt} {n l : Nat} (hn : n < N) (hl : l < 24) (h : rkS (K' n l) < rkS (K n l)) (ho : ∀ a b, ¬ (a = n ∧ b = l) → K' a b = K a b) : sumK N K' < sumK N K := by
  refine rowSum_lt (j := n) ?_ hn fun i hi => ?_
  · exact rowSum_lt (j := l) h hl fun i hi => by rw [ho n i fun e => hi e.2]
  · exact rowSum_eq fun j _ => by rw [ho i j fun e => hi e.1]
theorem rk_le (c : Sc) : rkS c ≤ 2 := by unfold rkS; split <;> (try split) <;> omega
theorem rowSum_le {g : Nat → Nat} {B : Nat} (h : ∀ i, g i ≤ B) : ∀ k, rowSum g k ≤ k * B
  | 0 => by rw [rowSum]; omega
  | k + 1 => by
    have := rowSum_le h k
    have h2 := h k
    rw [rowSum, Nat.succ_mul]
    omega
theorem sum_le (N : Nat) (K : Kt) : sumK N K ≤ N * (24 * 2) := rowSum_le (fun _ => rowSum_le (fun _ => rk_le _) 24) N
/-- Where nothing changes any more, these are the facts. -/
theorem stay_open {f : List I} (hf : (chkF f).2 = 0) {cut : List Bool} {K : Kt} (hs : ∀ n l, n < (sklA f cut).nodes.length → l < 24 → Stay f (sklA f cut) K n l) : ∀ (n l : Nat), n < (sklA f cut).nodes.length → l < 24 → (K n l).1 ≠ -1 := by
  intro n
  induction n using Nat.strongRecOn with
  | _ n ih =>
    intro l hn hl ho
    have hg := good_skl f cut
    obtain ⟨e, r, he, hlt⟩ := edges_first hf cut (n := n) (by rwa [skl_len] at hn)
    have hm : e ∈ edgesA (sklA f cut) (n : Int) := by rw [he]; simp
    have h1 := hs n l hn hl e hm
    have hx : (byK f (sklA f cut) K e l).1 ≠ -1 := by
      unfold byK
      split
      · next h4 =>
        obtain ⟨a, b, _, d⟩ := by_val hg hm hl h4
        exact ih _ (by omega) _ b d
      · rcases by_kind f (sklA f cut) e l with h | h | h | h | h
        · rw [h]; decide
        · omega
        · omega
        · rw [h]; decide
        · omega
    have h2 : (metF (K n l) (byK f (sklA f cut) K e l) l).1 ≠ -1 := by
      unfold metF
      rw [if_neg hx]
      split
      · exact hx
      · show ¬ (4 : Int) = -1
        omega
    rw [h1] at h2
    exact h2 ho
theorem stay_facts {f : List I} (hf : (chkF f).2 = 0) {cut : List Bool} {K : Kt} (hK : Kn f (sklA f cut) K) (hs : ∀ n l, n < (sklA f cut).nodes.length → l < 24 → Stay f (sklA f cut) K n l) : FactTab f (sklA f cut) K := by
  have hg := good_skl f cut
  have hno := stay_open hf hs
  have hpost : ∀ c, isF c → ∀ n l, n < (sklA f cut).nodes.length → l < 24 → K n l = c → HasFact f (sklA f cut) c n l := by
    intro c hc n l hn hl he
    refine gfp_of (Y := fun p => p.1 < (sklA f cut).nodes.length ∧ p.2 < 24 ∧ K p.1 p.2 = c) ?_ ⟨hn, hl, he⟩
    rintro ⟨a, b⟩ ⟨ha, hb, hab⟩
    refine ⟨ha, hb, fun e hm => ?_⟩
    have h1 := hs a b ha hb e hm
    have hab' : K a b = c := hab
    rw [hab'] at h1
    have h2 : byK f (sklA f cut) K e b = c := by
      have hx : (byK f (sklA f cut) K e b).1 ≠ -1 := by
        unfold byK
        split
        · next h4 =>
          obtain ⟨_, q1, _, q2⟩ := by_val hg hm hb h4
          exact hno _ _ q1 q2
        · rcases by_kind f (sklA f cut) e b with h | h | h | h | h
          · rw [h]; decide
          · omega
          · omega
          · rw [h]; decide
          · omega
      unfold metF at h1
      rw [if_neg hx] at h1
      split at h1
      · exact h1
      · exact absurd (by rw [← h1]) (isF_ne4 hc).1
    unfold byK at h2
    split
    · next h4 =>
      rw [if_pos h4] at h2
      obtain ⟨_, q1, _, q2⟩ := by_val hg hm hb h4
      exact ⟨q1, q2, h2⟩
    · next h4 =>
      rw [if_neg h4] at h2
      exact h2
  intro n l hn hl
  rcases hK.form n l hn hl with h | h | h
  · exact absurd (by rw [h]) (hno n l hn hl)
  · exact .inl ⟨h, hpost _ h n l hn hl rfl⟩
  · refine .inr ⟨h, fun c' hc' hh => ?_⟩
    rcases hK.up n l hn hl c' hc' hh with e | e
    · exact hno n l hn hl (by rw [e])
    · rw [h] at e
      exact (isF_ne4 hc').1 (by rw [← e])
/-! Facts that are taken back. -/
abbrev Bt := Nat → Nat → Bool
def updB (X : Bt) (n l : Nat) (b : Bool) : Bt := fun i j => if i = n ∧ j = l then b else X i j
/-- Could it have the fact by this way? -/
def hldE (f : List I) (s : Skl) (c : Sc) (X : Bt) (l : Nat) (e : Int × Int) : Bool := if (byA f s e l).1 = 4 then X e.1.toNat (byA f s e l).2.toNat else decide (byA f s e l = c)
def hldB (f : List I) (s : Skl) (c : Sc) (X : Bt) (n l : Nat) : Bool := (edgesA s (n : Int)).all (hldE f s c X l)
/-- No less than all that have it. -/
def Up (f : List I) (s : Skl) (c : Sc) (X : Bt) : Prop := ∀ n l, n < s.nodes.length → l < 24 → HasFact f s c n l → X n l = true
theorem up_hld {f : List I} {s : Skl} {c : Sc} {X : Bt} (h : Up f s c X) {n l : Nat} (hh : HasFact f s c n l) : hldB f s c X n l = true := by
  refine List.all_eq_true.mpr fun e he => ?_
  have hp := (fact_post hh).2.2 e he
  unfold hldE
  split
  · next h4 =>
    rw [if_pos h4] at hp
    obtain ⟨a, b, _⟩ := fact_post hp
    exact h _ _ a b hp
  · next h4 =>
    rw [if_neg h4] at hp
    exact decide_eq_true hp
theorem up_step {f : List I} {s : Skl} {c : Sc} {X : Bt} (h : Up f s c X) {n l : Nat} (hb : hldB f s c X n l = false) : Up f s c (updB X n l false) := by
  intro a b ha hb' hh
  unfold updB
  split
  · next e =>
    obtain ⟨rfl, rfl⟩ := e
    rw [up_hld h hh] at hb
    cases hb
  · exact h a b ha hb' hh
theorem up_done {f : List I} {s : Skl} (hg : GoodS s) {c : Sc} {X : Bt} (h : Up f s c X) (hs : ∀ n l, n < s.nodes.length → l < 24 → X n l = true → hldB f s c X n l = true) {n l : Nat} (hn : n < s.nodes.length) (hl : l < 24) : X n l = true ↔ HasFact f s c n l := by
  refine ⟨fun hx => ?_, h n l hn hl⟩
  refine gfp_of (Y := fun p => p.1 < s.nodes.length ∧ p.2 < 24 ∧ X p.1 p.2 = true) ?_ ⟨hn, hl, hx⟩
  rintro ⟨a, b⟩ ⟨ha, hb, hab⟩
  refine ⟨ha, hb, fun e he => ?_⟩
  have h1 := List.all_eq_true.mp (hs a b ha hb hab) e he
  unfold hldE at h1
  split
  · next h4 =>
    rw [if_pos h4] at h1
    obtain ⟨_, q1, _, q2⟩ := by_val hg he hb h4
    exact ⟨q1, q2, h1⟩
  · next h4 =>
    rw [if_neg h4] at h1
    exact of_decide_eq_true h1
def bN (b : Bool) : Nat := if b = true then 1 else 0
def sumB (N : Nat) (X : Bt) : Nat := rowSum (fun n => rowSum (fun l => bN (X n l)) 24) N
theorem sumB_lt {N : Nat} {X : Bt} {n l : Nat} (hn : n < N) (hl : l < 24) (h : X n l = true) : sumB N (updB X n l false) < sumB N X := by
  have ho : ∀ a b, ¬ (a = n ∧ b = l) → updB X n l false a b = X a b := fun a b e => if_neg e
  refine rowSum_lt (j := n) ?_ hn fun i hi => ?_
  · refine rowSum_lt (j := l) ?_ hl fun i hi => ?_
    · show bN (updB X n l false n l) < bN (X n l)
      rw [h, show updB X n l false n l = false from if_pos ⟨rfl, rfl⟩]
      decide
    · show bN (updB X n l false n i) = bN (X n i)
      rw [ho n i fun e => hi e.2]
  · refine rowSum_eq fun j _ => ?_
    show bN (updB X n l false i j) = bN (X i j)
    rw [ho i j fun e => hi e.1]
/-! Numbers come from constants. -/
def NumOf (f : List I) (v : Int) : Prop := ∃ x ∈ f, x.op = 1 ∧ x.n = v
theorem aft_all {t : Tb} {x : I} {P : Sr → Prop} {B : Nat} (hn : ∀ i < B, P (newT i)) (ht : ∀ i < B, P (t i)) (hb : rightB x.d = true → rightB x.a = true → x.d.toNat < B ∧ x.a.toNat < B) (hx : x.op = 1 → P (1, x.n)) : ∀ i < B, P (aft t x i) := by
  have h0 : ∀ i < B, P (orN t i) := by
    intro i hi
    unfold orN
    split
    · exact ht i hi
    · exact hn i hi
  have hu : ∀ (u : Tb) (k : Nat) (c : Sr), (∀ i < B, P (u i)) → P c → ∀ i < B, P (upd u k c i) := by
    intro u k c h1 h2 i hi
    unfold upd
    split
    · exact h2
    · exact h1 i hi
  unfold aft
  split
  · next hr =>
    obtain ⟨a1, a2⟩ := hb hr.1 hr.2
    split
    · next h1 => exact hu _ _ _ h0 (hx h1)
    · split
      · exact hu _ _ _ h0 (h0 _ a2)
      · split
        · exact hu _ _ _ (hu _ _ _ h0 (h0 _ a2)) (h0 _ a1)
        · exact h0
  · exact h0
theorem ins_mem {f : List I} {p : Int} (h : InF f p) : insA f p ∈ f := by
  have h1 := h.2.1
  have h2 := h.2.2
  unfold insA
  rw [List.getD_eq_getElem?_getD, List.getElem?_eq_getElem (by omega)]
  exact List.getElem_mem _
theorem tb_all {f : List I} {P : Sr → Prop} {B : Nat} (hn : ∀ i < B, P (newT i)) (hb : ∀ x ∈ f, rightB x.d = true → rightB x.a = true → x.d.toNat < B ∧ x.a.toNat < B) (hx : ∀ x ∈ f, x.op = 1 → P (1, x.n)) {p : Int} (h : InF f p) : ∀ {n : Nat}, (∀ k < n, mvA f (itA f p k) = true) → ∀ i < B, P (tbA f p n i)
  | 0, _ => hn
  | n + 1, hm => by
    have hin := ins_mem (it_in h (n := n) fun k hk => hm k (by omega))
    exact aft_all hn (tb_all hn hb hx h (n := n) fun k hk => hm k (by omega)) (hb _ hin) (hx _ hin)
theorem tbl_all {f : List I} {P : Sr → Prop} {B : Nat} (hn : ∀ i < B, P (newT i)) (hb : ∀ x ∈ f, rightB x.d = true → rightB x.a = true → x.d.toNat < B ∧ x.a.toNat < B) (hx : ∀ x ∈ f, x.op = 1 → P (1, x.n)) {p : Int} (h : InF f p) : ∀ i < B, P (tblA f p i) := by
  have hw := pth_wy h
  unfold tblA
  cases e : pthA f p with
  | none => exact hn
  | some n =>
    rw [e] at hw
    exact tb_all hn hb hx h hw.1
theorem tbl_num {f : List I} {p : Int} (h : InF f p) : ∀ i < 24, (tblA f p i).1 = 1 → NumOf f (tblA f p i).2 :=
  tbl_all (P := fun s => s.1 = 1 → NumOf f s.2) (fun i _ e => by simp [newT] at e) (fun x _ h1 h2 => ⟨(right_lt h1).1, (right_lt h2).1⟩) (fun x hx h1 _ => ⟨x, hx, h1, rfl⟩) h
theorem tbl_reg {f : List I} (hr : ∀ x ∈ f, x.d ≤ 7 ∧ x.a ≤ 7) {p : Int} (h : InF f p) : ∀ i < 8, (tblA f p i).1 = 0 → (tblA f p i).2 < 8 :=
  tbl_all (P := fun s => s.1 = 0 → s.2 < 8) (fun i hi _ => by show (i : Int) < 8; omega) (fun x hx h1 h2 => by
    have := hr x hx
    have := right_lt h1
    have := right_lt h2
    omega) (fun x _ _ e => by cases e) h
theorem by_num {f : List I} (hf : (chkF f).2 = 0) {cut : List Bool} {n : Int} {e : Int × Int} (he : e ∈ edgesA (sklA f cut) n) {l : Nat} (hl : l < 24) (h : (byA f (sklA f cut) e l).1 = 2) : NumOf f (byA f (sklA f cut) e l).2 := by
  have h00 : InF f 0 := ⟨hf, Int.le_refl 0, by have := (right_iff.mp hf).2.1; omega⟩
  rcases edge_in he with ⟨h1, _⟩ | ⟨j, x, k, o, h1, h2, h3, _, h5⟩
  · unfold byA at h ⊢
    rw [if_pos (by rw [h1])] at h ⊢
    split at h
    · next h6 =>
      rw [if_pos h6]
      exact tbl_num h00 l hl h6
    · split at h <;> cases h
  · have hne : ¬ e.1 = -1 := by rw [h3]; show ¬ (j : Int) = -1; omega
    have hout : outN (sklA f cut) e.1.toNat e.2.toNat = o := by rw [h3]; exact h5
    unfold byA at h ⊢
    rw [if_neg hne, hout] at h ⊢
    split at h
    · next h6 =>
      rw [if_pos h6]
      have hx := List.mem_of_getElem? h1
      simp only [sklA, List.mem_map] at hx
      obtain ⟨p, hp, rfl⟩ := hx
      obtain ⟨q, hq, rfl⟩ := List.mem_map.mp (List.mem_of_getElem? h2)
      obtain ⟨i1, i2⟩ := (nodes_nds hf cut).inf p hp
      exact tbl_num (froms_in i1 i2 q hq) l hl h6
    · split at h <;> cases h
theorem fact_num {f : List I} (hf : (chkF f).2 = 0) {cut : List Bool} {c : Sc} (hc : c.1 = 2) : ∀ (n : Nat) {l : Nat}, HasFact f (sklA f cut) c n l → NumOf f c.2 := by
  intro n
  induction n using Nat.strongRecOn with
  | _ n ih =>
    intro l h
    obtain ⟨h1, h2, h3⟩ := fact_post h
    obtain ⟨e, r, he, hlt⟩ := edges_first hf cut (n := n) (by rwa [skl_len] at h1)
    have hm : e ∈ edgesA (sklA f cut) (n : Int) := by rw [he]; simp
    have a := h3 e hm
    by_cases h4 : (byA f (sklA f cut) e l).1 = 4
    · rw [if_pos h4] at a
      obtain ⟨q, _, _, _⟩ := by_val (good_skl f cut) hm h2 h4
      exact ih e.1.toNat (by omega) a
    · rw [if_neg h4] at a
      have := by_num hf hm h2 (by rw [a]; exact hc)
      rwa [a] at this
end Go.Proofs.YtphopkjgfkaihaaGreatDoor
namespace Go.Proofs.YtphopkjgfkaihaaGreatDoor
open Go.RowKit

/-- The states of a run, step by step (as long as it goes on). -/
def stA (f : List I) (az : List Int) (m0 : Mc) : Nat → Mc
  | 0 => m0
  | t + 1 => (stp f (stA f az m0 t) az).s
def Alive (f : List I) (az : List Int) (m0 : Mc) (t : Nat) : Prop := ∀ i < t, (stp f (stA f az m0 i) az).how = 0
theorem alive_right {f : List I} {az : List Int} {m0 : Mc} (h0 : mcB f m0 = true) : ∀ {t : Nat}, Alive f az m0 t → mcB f (stA f az m0 t) = true
  | 0, _ => h0
  | t + 1, h => stp_right (alive_right h0 fun i hi => h i (by omega)) (h t (by omega))
/-- On the way from the beginning, or from a node that was come to. -/
def Enr (f : List I) (cut : List Bool) (az : List Int) (m0 S : Mc) : Prop :=
  ∃ (W : Mc) (j : Nat), mcB f W = true ∧ S = mvS f W j ∧ (∀ i < j, mvA f (itA f W.p i) = true) ∧ (W = m0 ∨ ∃ t m M, ArrA f cut az m0 t m M ∧ (stp f M az).how = 0 ∧ ctA cut M.p = false ∧ W = (stp f M az).s)
theorem pth_of {f : List I} {p : Int} (hi : InF f p) {j : Nat} (h : Leads f p j) : pthA f p = some j := wy_one (pth_wy hi) (show Wy f p (some j) from h)
/-- Where it does more than move, it has come to a node. -/
theorem enr_arr {f : List I} {cut : List Bool} {az : List Int} {m0 S : Mc} (h : Enr f cut az m0 S) (hm : mvA f S.p = false) : ∃ t n, ArrA f cut az m0 t n S := by
  obtain ⟨W, j, hw, rfl, h2, h3⟩ := h
  have hi : InF f W.p := ⟨(mc_iff.mp hw).1, (mc_iff.mp hw).2.1, (mc_iff.mp hw).2.2.1⟩
  have hp := pth_of hi (j := j) ⟨h2, hm⟩
  rcases h3 with rfl | ⟨t, m, M, h4, h5, h6, rfl⟩
  · exact ⟨0, _, j, hp, rfl, rfl⟩
  · exact ⟨t + 1, _, m, M, j, h4, h5, h6, hp, rfl, rfl⟩
theorem enr_step {f : List I} {cut : List Bool} {az : List Int} {m0 S : Mc} (h : Enr f cut az m0 S) (hr : mcB f S = true) (h0 : (stp f S az).how = 0) (hc : mvA f S.p = false → ctA cut S.p = false) : Enr f cut az m0 (stp f S az).s := by
  cases hm : mvA f S.p with
  | true =>
    obtain ⟨W, j, hw, rfl, h2, h3⟩ := h
    have hi : InF f W.p := ⟨(mc_iff.mp hw).1, (mc_iff.mp hw).2.1, (mc_iff.mp hw).2.2.1⟩
    have e := mvS_step (s := W) (it_in hi h2) hm az
    refine ⟨W, j + 1, hw, by rw [e], fun i hij => ?_, h3⟩
    rcases Nat.lt_or_ge i j with hlt | hge
    · exact h2 i hlt
    · rw [show i = j by omega]
      exact hm
  | false =>
    obtain ⟨t, n, ha⟩ := enr_arr h hm
    exact ⟨(stp f S az).s, 0, stp_right hr h0, (mvS_zero _ _).symm, fun i hi => absurd hi (Nat.not_lt_zero i), .inr ⟨t, n, S, ha, h0, hc hm, rfl⟩⟩
theorem run_enr {f : List I} {cut : List Bool} {az : List Int} {m0 : Mc} (h0 : mcB f m0 = true) : ∀ {t : Nat}, Alive f az m0 t → (∀ i < t, mvA f (stA f az m0 i).p = false → ctA cut (stA f az m0 i).p = false) → Enr f cut az m0 (stA f az m0 t)
  | 0, _, _ => ⟨m0, 0, h0, (mvS_zero _ _).symm, fun i hi => absurd hi (Nat.not_lt_zero i), .inl rfl⟩
  | t + 1, h, hc => enr_step (run_enr h0 (t := t) (fun i hi => h i (by omega)) fun i hi => hc i (by omega)) (alive_right h0 fun i hi => h i (by omega)) (h t (by omega)) (hc t (by omega))
/-- A place that needs what is not there. -/
theorem stp_undef {f : List I} {s : Mc} {az : List Int} {u : Int} (hu : u ∈ usesL (insA f s.p)) (h : (s.l u.toNat).1 = false) : (stp f s az).how = 2 := by
  have hk : knwB (insA f s.p) s.l = false := by
    unfold knwB
    rw [List.all_eq_false]
    exact ⟨u, hu, by rw [h]; decide⟩
  unfold stp
  rw [if_pos hk]
/-- At places that are cut a run ends: Undef. -/
def CutEnds (f : List I) (cut : List Bool) (az : List Int) (m0 : Mc) : Prop := ∀ t, Alive f az m0 t → mvA f (stA f az m0 t).p = false → ctA cut (stA f az m0 t).p = true → (stp f (stA f az m0 t) az).how = 2
theorem cut_alive {f : List I} {cut : List Bool} {az : List Int} {m0 : Mc} (h : CutEnds f cut az m0) {t : Nat} (ha : Alive f az m0 t) : ∀ i < t, mvA f (stA f az m0 i).p = false → ctA cut (stA f az m0 i).p = false := by
  intro i hi hm
  cases e : ctA cut (stA f az m0 i).p with
  | false => rfl
  | true =>
    have := h i (fun k hk => ha k (by omega)) hm e
    rw [ha i hi] at this
    cases this
theorem cut_more {f : List I} {cut cut' : List Bool} {az : List Int} {m0 : Mc} (h0 : mcB f m0 = true) (hp : m0.p = 0) (hb : ∀ i < 24, 8 ≤ i → (m0.l i).1 = false) (h : CutEnds f cut az m0)
    (hc : ∀ p : Int, 0 ≤ p → p < f.length → ctA cut' p = true → ctA cut p = true ∨ ∃ n u, n < (nodesA f cut).length ∧ (nodesA f cut).getD n 0 = p ∧ u ∈ usesL (insA f p) ∧ HasFact f (sklA f cut) (0, 0) n u.toNat) : CutEnds f cut' az m0 := by
  intro t ha hm hcut
  have hmc := mc_iff.mp (alive_right h0 ha)
  rcases hc _ hmc.2.1 hmc.2.2.1 hcut with e | ⟨n, u, h1, h2, h3, h4⟩
  · exact h t ha hm e
  · obtain ⟨t', n', har⟩ := enr_arr (run_enr h0 ha (cut_alive h ha)) hm
    obtain ⟨_, _, q3, q4⟩ := arr_in h0 hp t' har
    have hn : n' = n := by
      have hnd := (nodes_nds (mc_iff.mp h0).1 cut).nd
      have e1 : (nodesA f cut)[n'] = (nodesA f cut)[n] := by
        rw [List.getD_eq_getElem?_getD, List.getElem?_eq_getElem q3] at q4
        rw [List.getD_eq_getElem?_getD, List.getElem?_eq_getElem h1] at h2
        have a : (nodesA f cut)[n'] = (stA f az m0 t).p := q4
        have b : (nodesA f cut)[n] = (stA f az m0 t).p := h2
        rw [a, b]
      have i1 := idx_at hnd q3
      have i2 := idx_at hnd h1
      rw [e1] at i1
      omega
    subst hn
    exact stp_undef h3 ((arr_fact h0 hp hb t' har _ _ h4).2 rfl)
/-- With no place cut. -/
theorem cut_none {f : List I} {cut : List Bool} {az : List Int} {m0 : Mc} (h : ∀ p, ctA cut p = false) : CutEnds f cut az m0 := fun t _ _ e => by
  rw [h] at e
  cases e
/-- What is told of a run: at each step it moves on, or has come to a node, whose facts hold there. -/
theorem run_tells {f : List I} {cut : List Bool} {az : List Int} {m0 : Mc} (h0 : mcB f m0 = true) (hp : m0.p = 0) (hb : ∀ i < 24, 8 ≤ i → (m0.l i).1 = false) (h : CutEnds f cut az m0) {t : Nat} (ha : Alive f az m0 t) :
    mvA f (stA f az m0 t).p = true ∨ ((stA f az m0 t).p ∈ nodesA f cut ∧ ∀ n, n < (nodesA f cut).length → (nodesA f cut).getD n 0 = (stA f az m0 t).p → ∀ c l, HasFact f (sklA f cut) c n l → (c.1 = 2 → (stA f az m0 t).l l = (true, c.2)) ∧ (c = (0, 0) → ((stA f az m0 t).l l).1 = false)) := by
  cases hm : mvA f (stA f az m0 t).p with
  | true => exact .inl rfl
  | false =>
    right
    obtain ⟨t', n', har⟩ := enr_arr (run_enr h0 ha (cut_alive h ha)) hm
    obtain ⟨_, _, q3, q4⟩ := arr_in h0 hp t' har
    have q5 : (nodesA f cut)[n'] = (stA f az m0 t).p := by
      rw [List.getD_eq_getElem?_getD, List.getElem?_eq_getElem q3] at q4
      exact q4
    refine ⟨by rw [← q5]; exact List.getElem_mem q3, fun n h1 h2 c l hc => ?_⟩
    have hn : n' = n := by
      have hnd := (nodes_nds (mc_iff.mp h0).1 cut).nd
      have e1 : (nodesA f cut)[n] = (stA f az m0 t).p := by
        rw [List.getD_eq_getElem?_getD, List.getElem?_eq_getElem h1] at h2
        exact h2
      have i1 := idx_at hnd q3
      have i2 := idx_at hnd h1
      rw [q5, ← e1] at i1
      omega
    subst hn
    exact arr_fact h0 hp hb t' har c l hc
end Go.Proofs.YtphopkjgfkaihaaGreatDoor
namespace Go.Proofs.YtphopkjgfkaihaaGreatDoor
open Go.RowKit

/-- The places at which a skeleton ends. -/
def endN (n : Nat) (xs : List (Int × List Wyo)) : List Bool := (List.range n).map fun p : Nat => xs.any fun x => x.2.isEmpty && decide (x.1 = (p : Int))
theorem endN_len (n : Nat) (xs : List (Int × List Wyo)) : (endN n xs).length = n := by simp [endN]
theorem endN_nil (n : Nat) : endN n [] = List.replicate n false := by
  unfold endN
  simp only [List.any_nil]
  rw [List.map_const', List.length_range]
theorem endN_at {n : Nat} (xs : List (Int × List Wyo)) {p : Nat} (h : p < n) : (endN n xs)[p]? = some (xs.any fun x => x.2.isEmpty && decide (x.1 = (p : Int))) := by
  unfold endN
  rw [List.getElem?_map, List.getElem?_range h]
  rfl
theorem endN_more {n : Nat} (xs : List (Int × List Wyo)) (x : Int × List Wyo) : endN n (xs ++ [x]) = if x.2.length = 0 ∧ 0 ≤ x.1 ∧ x.1 < n then (endN n xs).set x.1.toNat true else endN n xs := by
  apply List.ext_getElem?
  intro p
  by_cases hp : p < n
  · rw [endN_at _ hp, List.any_append]
    simp only [List.any_cons, List.any_nil, Bool.or_false]
    split
    · next h =>
      rw [List.getElem?_set, endN_len]
      by_cases e : x.1.toNat = p
      · rw [if_pos e, if_pos (by omega)]
        have h1 : x.2.isEmpty = true := by rw [List.isEmpty_iff_length_eq_zero]; exact h.1
        have h2 : x.1 = (p : Int) := by omega
        rw [h1, decide_eq_true h2, Bool.and_self, Bool.or_true]
      · rw [if_neg e, endN_at _ hp]
        have h2 : ¬ x.1 = (p : Int) := by omega
        rw [decide_eq_false h2, Bool.and_false, Bool.or_false]
    · next h =>
      rw [endN_at _ hp]
      have h2 : (x.2.isEmpty && decide (x.1 = (p : Int))) = false := by
        rw [Bool.and_eq_false_iff]
        by_cases h1 : x.2.length = 0
        · right
          exact decide_eq_false fun e => h ⟨h1, by omega, by omega⟩
        · left
          rw [Bool.eq_false_iff]
          intro e
          exact h1 (List.isEmpty_iff_length_eq_zero.mp e)
      rw [h2, Bool.or_false]
  · rw [List.getElem?_eq_none (by rw [endN_len]; omega)]
    split
    · rw [List.getElem?_eq_none (by rw [List.length_set, endN_len]; omega)]
    · rw [List.getElem?_eq_none (by rw [endN_len]; omega)]
theorem froms_nil {f : List I} {cut : List Bool} {p : Int} : fromsA f cut p = [] ↔ ((insA f p).op = 18 ∨ ctA cut p = true) := by
  unfold fromsA
  split
  · next h => exact ⟨fun _ => h, fun _ => rfl⟩
  · next h =>
    constructor
    · intro e
      split at e <;> cases e
    · exact fun e => absurd e h
theorem ct_end {f : List I} (hf : (chkF f).2 = 0) {cut : List Bool} {p : Int} (hp : p ∈ nodesA f cut) : ctA (endN f.length (sklA f cut).nodes) p = true ↔ fromsA f cut p = [] := by
  obtain ⟨hi, _⟩ := (nodes_nds hf cut).inf p hp
  have h1 := hi.2.1
  have h2 := hi.2.2
  have hlt : p.toNat < f.length := by omega
  unfold ctA
  rw [endN_len, decide_eq_true h2, Bool.true_and, List.getD_eq_getElem?_getD, endN_at _ hlt, Option.getD_some, List.any_eq_true]
  constructor
  · rintro ⟨x, hx, h3⟩
    simp only [sklA, List.mem_map] at hx
    obtain ⟨q, _, rfl⟩ := hx
    rw [Bool.and_eq_true, List.isEmpty_iff, decide_eq_true_iff] at h3
    have h4 : q = p := by have := h3.2; show q = p; omega
    rw [← h4]
    exact List.map_eq_nil_iff.mp h3.1
  · intro h
    refine ⟨(p, (fromsA f cut p).map (wyA f (nodesA f cut))), ?_, ?_⟩
    · simp only [sklA, List.mem_map]
      exact ⟨p, hp, rfl⟩
    · rw [h, Bool.and_eq_true]
      exact ⟨rfl, decide_eq_true (by show p = _; omega)⟩
theorem froms_end {f : List I} (hf : (chkF f).2 = 0) {cut : List Bool} {p : Int} (hp : p ∈ nodesA f cut) : fromsA f (endN f.length (sklA f cut).nodes) p = fromsA f cut p := by
  by_cases h : fromsA f cut p = []
  · rw [h]
    exact froms_nil.mpr (.inr ((ct_end hf hp).mpr h))
  · have h1 : ¬ ((insA f p).op = 18 ∨ ctA cut p = true) := fun e => h (froms_nil.mpr e)
    have h2 : ¬ ((insA f p).op = 18 ∨ ctA (endN f.length (sklA f cut).nodes) p = true) := fun e => by
      rcases e with e | e
      · exact h1 (.inl e)
      · exact h ((ct_end hf hp).mp e)
    unfold fromsA
    rw [if_neg h1, if_neg h2]
theorem met_end {f : List I} (hf : (chkF f).2 = 0) (cut : List Bool) : ∀ n, metA f (endN f.length (sklA f cut).nodes) n = metA f cut n
  | 0 => rfl
  | n + 1 => by
    have ih := met_end hf cut n
    unfold metA
    rw [ih]
    split
    · next hn =>
      unfold stepA
      rw [froms_end hf]
      obtain ⟨l, hl⟩ := met_nodes hf cut n
      rw [hl, List.getD_eq_getElem?_getD, List.getElem?_eq_getElem hn]
      exact List.mem_append_left _ (List.getElem_mem hn)
    · rfl
/-- IT IS MADE AGAIN. -/
theorem skl_again {f : List I} (hf : (chkF f).2 = 0) (cut : List Bool) : sklA f (endN f.length (sklA f cut).nodes) = sklA f cut := by
  have hn : nodesA f (endN f.length (sklA f cut).nodes) = nodesA f cut := met_end hf cut _
  have : (nodesA f cut).map (fun p => (p, (fromsA f (endN f.length (sklA f cut).nodes) p).map (wyA f (nodesA f cut)))) = (nodesA f cut).map (fun p => (p, (fromsA f cut p).map (wyA f (nodesA f cut)))) :=
    List.map_congr_left fun p hp => by rw [froms_end hf hp]
  show Skl.mk (wyA f (nodesA f (endN f.length (sklA f cut).nodes)) 0) ((nodesA f (endN f.length (sklA f cut).nodes)).map _) = Skl.mk (wyA f (nodesA f cut) 0) ((nodesA f cut).map _)
  rw [hn, this]
/-! Places that are cut. -/
/-- One of the first m nodes stands there, and needs what has nothing. -/
def Lack (f : List I) (cut : List Bool) (m : Nat) (p : Int) : Prop := ∃ n u, n < m ∧ n < (nodesA f cut).length ∧ (nodesA f cut).getD n 0 = p ∧ u ∈ usesL (insA f p) ∧ HasFact f (sklA f cut) (0, 0) n u.toNat
def IsRnd (f : List I) (cut : List Bool) (m : Nat) (c : List Bool) : Prop := c.length = f.length ∧ ∀ p : Nat, p < f.length → (c.getD p false = true ↔ cut.getD p false = true ∨ Lack f cut m (p : Int))
def CutN (f : List I) : Nat → List Bool → Prop
  | 0, c => c = List.replicate f.length false
  | k + 1, c => ∃ c', CutN f k c' ∧ IsRnd f c' (nodesA f c').length c
/-- These are the places that are cut. -/
def IsCut (f : List I) (c : List Bool) : Prop := ∃ k, CutN f k c ∧ IsRnd f c (nodesA f c).length c
theorem bools_eq {a b : List Bool} {n : Nat} (ha : a.length = n) (hb : b.length = n) (h : ∀ p < n, (a.getD p false = true ↔ b.getD p false = true)) : a = b := by
  apply List.ext_getElem (by rw [ha, hb])
  intro i h1 h2
  have := h i (by omega)
  rw [List.getD_eq_getElem?_getD, List.getD_eq_getElem?_getD, List.getElem?_eq_getElem h1, List.getElem?_eq_getElem h2, Option.getD_some, Option.getD_some] at this
  cases ha : a[i] <;> cases hb : b[i] <;> simp_all
theorem rnd_one {f : List I} {cut : List Bool} {m : Nat} {c c' : List Bool} (h : IsRnd f cut m c) (h' : IsRnd f cut m c') : c = c' :=
  bools_eq h.1 h'.1 fun p hp => (h.2 p hp).trans (h'.2 p hp).symm
theorem cutN_one {f : List I} : ∀ {k : Nat} {c c' : List Bool}, CutN f k c → CutN f k c' → c = c'
  | 0, c, c', h, h' => by
    have h1 : c = List.replicate f.length false := h
    have h2 : c' = List.replicate f.length false := h'
    rw [h1, h2]
  | k + 1, c, c', ⟨d, h1, h2⟩, ⟨d', h3, h4⟩ => by
    have := cutN_one h1 h3
    subst this
    exact rnd_one h2 h4
theorem cutN_stay {f : List I} {k : Nat} {c : List Bool} (h : CutN f k c) (hs : IsRnd f c (nodesA f c).length c) : ∀ j, CutN f (k + j) c
  | 0 => h
  | j + 1 => ⟨c, cutN_stay h hs j, hs⟩
theorem cut_one {f : List I} {c c' : List Bool} (h : IsCut f c) (h' : IsCut f c') : c = c' := by
  obtain ⟨k, h1, h2⟩ := h
  obtain ⟨k', h3, h4⟩ := h'
  have a := cutN_stay h1 h2 k'
  have b := cutN_stay h3 h4 k
  rw [show k' + k = k + k' by omega] at b
  exact cutN_one a b
theorem cutN_len {f : List I} : ∀ {k : Nat} {c : List Bool}, CutN f k c → c.length = f.length
  | 0, c, h => by
    have h1 : c = List.replicate f.length false := h
    rw [h1, List.length_replicate]
  | _ + 1, _, ⟨_, _, h⟩ => h.1
theorem rnd_zero {f : List I} {cut : List Bool} (h : cut.length = f.length) : IsRnd f cut 0 cut := ⟨h, fun _ _ => ⟨.inl, fun e => e.elim id fun ⟨_, _, h, _⟩ => absurd h (Nat.not_lt_zero _)⟩⟩
/-- A node more: its place is cut. -/
theorem rnd_cut {f : List I} {cut c : List Bool} {m p : Nat} (h : IsRnd f cut m c) (hm : m < (nodesA f cut).length) (hp : (nodesA f cut).getD m 0 = (p : Int)) {u : Int} (hu : u ∈ usesL (insA f (p : Int))) (hh : HasFact f (sklA f cut) (0, 0) m u.toNat) : IsRnd f cut (m + 1) (c.set p true) := by
  refine ⟨by rw [List.length_set]; exact h.1, fun q hq => ?_⟩
  have hq' : q < c.length := by rw [h.1]; exact hq
  rw [List.getD_eq_getElem?_getD, List.getElem?_set]
  by_cases e : p = q
  · subst e
    rw [if_pos rfl, if_pos hq']
    exact ⟨fun _ => .inr ⟨m, u, by omega, hm, hp, hu, hh⟩, fun _ => rfl⟩
  · rw [if_neg e, ← List.getD_eq_getElem?_getD, h.2 q hq]
    refine or_congr Iff.rfl ⟨fun ⟨n, v, h1, h2⟩ => ⟨n, v, by omega, h2⟩, fun ⟨n, v, h1, h2, h3, h4⟩ => ?_⟩
    by_cases e2 : n = m
    · subst e2
      rw [hp] at h3
      omega
    · exact ⟨n, v, by omega, h2, h3, h4⟩
/-- A node more: its place is not cut, or was. -/
theorem rnd_not {f : List I} {cut c : List Bool} {m p : Nat} (h : IsRnd f cut m c) (hp : (nodesA f cut).getD m 0 = (p : Int)) (hn : c.getD p false = true ∨ ∀ u ∈ usesL (insA f (p : Int)), ¬ HasFact f (sklA f cut) (0, 0) m u.toNat) : IsRnd f cut (m + 1) c := by
  refine ⟨h.1, fun q hq => ?_⟩
  constructor
  · intro h1
    exact ((h.2 q hq).mp h1).imp id fun ⟨n, v, h2, h3⟩ => ⟨n, v, by omega, h3⟩
  · rintro (h1 | ⟨n, v, h1, h2, h3, h4, h5⟩)
    · exact (h.2 q hq).mpr (.inl h1)
    · by_cases e : n = m
      · subst e
        rw [hp] at h3
        have e2 : p = q := by omega
        subst e2
        rcases hn with hn | hn
        · exact hn
        · exact absurd h5 (hn v h4)
      · exact (h.2 q hq).mpr (.inr ⟨n, v, by omega, h2, h3, h4, h5⟩)
theorem rnd_keep {f : List I} {cut c : List Bool} {m p : Nat} (h : IsRnd f cut m c) (hp : p < f.length) (hc : cut.getD p false = true) : c.getD p false = true := (h.2 p hp).mpr (.inl hc)
/-- How many are not cut. -/
def offs (c : List Bool) : Nat := c.countP fun b => !b
theorem offs_le (c : List Bool) : offs c ≤ c.length := List.countP_le_length
theorem offs_set : ∀ {c : List Bool} {p : Nat}, c[p]? = some false → offs (c.set p true) < offs c
  | [], p, h => by simp at h
  | b :: c, 0, h => by
    simp at h
    subst h
    simp [offs]
  | b :: c, p + 1, h => by
    have := offs_set (c := c) (p := p) (by simpa using h)
    unfold offs at this ⊢
    rw [List.set_cons_succ, List.countP_cons, List.countP_cons]
    omega
/-- At places that are cut runs end. -/
theorem cutN_ends {f : List I} {az : List Int} {m0 : Mc} (h0 : mcB f m0 = true) (hp : m0.p = 0) (hb : ∀ i < 24, 8 ≤ i → (m0.l i).1 = false) : ∀ {k : Nat} {c : List Bool}, CutN f k c → CutEnds f c az m0
  | 0, c, h => by
    have h1 : c = List.replicate f.length false := h
    refine cut_none fun p => ?_
    unfold ctA
    rw [h1, Bool.and_eq_false_iff]
    right
    rw [List.getD_eq_getElem?_getD, List.getElem?_replicate]
    split <;> rfl
  | k + 1, c, ⟨c', h1, h2⟩ => by
    have hl := cutN_len h1
    refine cut_more h0 hp hb (cutN_ends h0 hp hb h1) fun p hp0 hp1 hc => ?_
    unfold ctA at hc
    rw [Bool.and_eq_true, decide_eq_true_iff, h2.1] at hc
    have hpp : ((p.toNat : Nat) : Int) = p := by omega
    rcases (h2.2 p.toNat (by omega)).mp hc.2 with h3 | ⟨n, u, _, h3, h4, h5, h6⟩
    · left
      unfold ctA
      rw [decide_eq_true (by rw [hl]; exact hc.1), h3]
      rfl
    · right
      rw [hpp] at h4 h5
      exact ⟨n, u, h3, h4, h5, h6⟩
theorem cut_ends {f : List I} {c : List Bool} {az : List Int} {m0 : Mc} (h0 : mcB f m0 = true) (hp : m0.p = 0) (hb : ∀ i < 24, 8 ≤ i → (m0.l i).1 = false) (h : IsCut f c) : CutEnds f c az m0 :=
  let ⟨_, h1, _⟩ := h
  cutN_ends h0 hp hb h1
/-! Of a function that names no slots. -/
theorem reg_none {f : List I} (hf : (chkF f).2 = 0) (hr : ∀ x ∈ f, x.d ≤ 7 ∧ x.a ≤ 7) {cut : List Bool} : ∀ (n : Nat) {l : Nat}, l < 8 → ¬ HasFact f (sklA f cut) (0, 0) n l := by
  intro n
  induction n using Nat.strongRecOn with
  | _ n ih =>
    intro l hl h
    have h00 : InF f 0 := ⟨hf, Int.le_refl 0, by have := (right_iff.mp hf).2.1; omega⟩
    obtain ⟨h1, h2, h3⟩ := fact_post h
    obtain ⟨e, r, he, hlt⟩ := edges_first hf cut (n := n) (by rwa [skl_len] at h1)
    have hm : e ∈ edgesA (sklA f cut) (n : Int) := by rw [he]; simp
    have a := h3 e hm
    rcases edge_in hm with ⟨h4, _⟩ | ⟨j, x, k, o, h4, h5, h6, _, h7⟩
    · rw [if_neg (by_entry (by rw [h4]))] at a
      unfold byA at a
      rw [if_pos (by rw [h4])] at a
      have hg := good_at (good_tbl f 0) h2
      have a' : (if (tblA f 0 l).1 = 1 then ((2 : Int), (tblA f 0 l).2) else if (tblA f 0 l).2 < 8 then (1, (tblA f 0 l).2) else (0, 0)) = (0, 0) := a
      split at a'
      · cases a'
      · next h8 =>
        rcases ok_cases hg with h9 | ⟨h9, _⟩
        · exact h8 h9
        · rw [if_pos (tbl_reg hr h00 l hl h9)] at a'
          cases a'
    · have hne : ¬ e.1 = -1 := by rw [h6]; show ¬ (j : Int) = -1; omega
      have hout : outN (sklA f cut) e.1.toNat e.2.toNat = o := by rw [h6]; exact h7
      have hx := List.mem_of_getElem? h4
      simp only [sklA, List.mem_map] at hx
      obtain ⟨p, hp, rfl⟩ := hx
      obtain ⟨q, hq, rfl⟩ := List.mem_map.mp (List.mem_of_getElem? h5)
      obtain ⟨i1, i2⟩ := (nodes_nds hf cut).inf p hp
      have hiq := froms_in i1 i2 q hq
      have hg := good_at (good_tbl f q) h2
      have hby : byA f (sklA f cut) e l = if (tblA f q l).1 = 1 then (2, (tblA f q l).2) else if setsB (insA f (atN (sklA f cut) e.1.toNat)).op = true ∧ (insA f (atN (sklA f cut) e.1.toNat)).d = (tblA f q l).2 then (3, 0) else (4, (tblA f q l).2) := by
        unfold byA
        rw [if_neg hne, hout]
        rfl
      rw [hby] at a
      by_cases h8 : (tblA f q l).1 = 1
      · rw [if_pos h8] at a
        have a2 : (if (2 : Int) = 4 then HasFact f (sklA f cut) (0, 0) e.1.toNat (tblA f q l).2.toNat else ((2 : Int), (tblA f q l).2) = (0, 0)) := a
        rw [if_neg (by decide)] at a2
        cases a2
      · rw [if_neg h8] at a
        have h9 : (tblA f q l).1 = 0 ∧ 0 ≤ (tblA f q l).2 := by
          rcases ok_cases hg with h9 | ⟨h9, h10, _⟩
          · exact absurd h9 h8
          · exact ⟨h9, h10⟩
        split at a
        · rw [if_neg (by decide)] at a
          cases a
        · rw [if_pos rfl] at a
          refine ih e.1.toNat ?_ (l := (tblA f q l).2.toNat) ?_ a
          · rcases edge_from hm with h10 | h10
            · exact absurd h10 hne
            · omega
          · have := tbl_reg hr hiq l hl h9.1
            omega
theorem cut_regs {f : List I} (hf : (chkF f).2 = 0) (hr : ∀ x ∈ f, x.d ≤ 7 ∧ x.a ≤ 7) (hu : ∀ x ∈ f, ∀ u ∈ usesL x, 0 ≤ u ∧ u < 8) {c : List Bool} (h : IsCut f c) : c = List.replicate f.length false := by
  have hz : IsRnd f (List.replicate f.length false) (nodesA f (List.replicate f.length false)).length (List.replicate f.length false) := by
    refine ⟨List.length_replicate, fun p hp => ⟨.inl, fun e => e.elim id ?_⟩⟩
    rintro ⟨n, u, _, h3, h4, h5, h6⟩
    exfalso
    have hi := (nodes_nds hf (List.replicate f.length false)).inf (p : Int) (by
      rw [← h4, List.getD_eq_getElem?_getD, List.getElem?_eq_getElem h3]
      exact List.getElem_mem h3)
    have := hu _ (ins_mem hi.1) u h5
    exact reg_none hf hr n (l := u.toNat) (by omega) h6
  exact cut_one h ⟨0, rfl, hz⟩
end Go.Proofs.YtphopkjgfkaihaaGreatDoor
namespace Go.Proofs.YtphopkjgfkaihaaGreatDoor
open Go.RowKit

theorem needs_mem {x : I} : ∀ {L : List Int} {v : Int}, v ∈ usesR x L → ((65 : Int) ∈ L ∧ v = x.a) ∨ ((66 : Int) ∈ L ∧ v = x.b)
  | [], v, h => by cases h
  | c :: L, v, h => by
    rw [usesR] at h
    by_cases h1 : c = 65
    · rw [if_pos h1] at h
      rcases List.mem_cons.mp h with h | h
      · exact .inl ⟨by rw [h1]; exact List.mem_cons_self .., h⟩
      · rcases needs_mem h with ⟨h, e⟩ | ⟨h, e⟩
        · exact .inl ⟨List.mem_cons_of_mem _ h, e⟩
        · exact .inr ⟨List.mem_cons_of_mem _ h, e⟩
    · rw [if_neg h1] at h
      by_cases h2 : c = 66
      · rw [if_pos h2] at h
        rcases List.mem_cons.mp h with h | h
        · exact .inr ⟨by rw [h2]; exact List.mem_cons_self .., h⟩
        · rcases needs_mem h with ⟨h, e⟩ | ⟨h, e⟩
          · exact .inl ⟨List.mem_cons_of_mem _ h, e⟩
          · exact .inr ⟨List.mem_cons_of_mem _ h, e⟩
      · rw [if_neg h2] at h
        rcases needs_mem h with ⟨h, e⟩ | ⟨h, e⟩
        · exact .inl ⟨List.mem_cons_of_mem _ h, e⟩
        · exact .inr ⟨List.mem_cons_of_mem _ h, e⟩
theorem needs_reg {x : I} {n : Int} (h : chkV x n = 0) : ∀ u ∈ usesL x, 0 ≤ u ∧ u < 8 := by
  obtain ⟨_, _, h3⟩ := chk_zero h
  have hreg : ∀ c v : Int, c = 68 ∨ c = 65 ∨ c = 66 → faultV c v n = 0 → 0 ≤ v ∧ v < 8 := by
    intro c v hc hf
    unfold faultV at hf
    rw [if_neg (by omega), if_pos hc] at hf
    split at hf
    · omega
    · omega
  intro u hm
  rcases needs_mem hm with ⟨hc, e⟩ | ⟨hc, e⟩
  · rw [e]; exact hreg 65 _ (by omega) (h3 65 hc)
  · rw [e]; exact hreg 66 _ (by omega) (h3 66 hc)
end Go.Proofs.YtphopkjgfkaihaaGreatDoor
