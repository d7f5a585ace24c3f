/-
  A region that draws its order, whose first operations only make new memory and answer a fixed value (in whatever order), and whose last ones wait for all of those and stand in one order: one walk of the first, then one of the last. No program stands in this text.
-/
import Derived.Test.YtdghhedenjgjiaaGreatDoorBase
namespace Go.Proofs.YtdghhedenjgjiaaGreatDoor
open Go.RowKit

section
variable {P : Program} {ops : Array Oper} {md : Region.Mode} {C : World → Prop}
/-- The first k come up before the others: a Boolean. -/
def prefB (md : Region.Mode) (ops : Array Oper) (k : Nat) : Nat → Array Bool → Bool
  | 0, listed => (Region.ready md ops listed).all fun j => decide (k ≤ j)
  | n + 1, listed => (Region.ready md ops listed).all fun j => decide (j < k) && prefB md ops k n (listed.setIfInBounds j true)
/-- In lexical order, n operations from number k on. -/
def lexP (md : Region.Mode) (ops : Array Oper) : Nat → Nat → Array Bool → Bool
  | 0, _, _ => true
  | n + 1, k, listed => (Region.ready md ops listed).contains k && Region.free md ops listed k && lexP md ops n (k + 1) (listed.setIfInBounds k true)
/-- Just one may come up at a time. -/
def forcedB (md : Region.Mode) (ops : Array Oper) : Nat → Nat → Array Bool → Bool
  | 0, _, listed => (Region.ready md ops listed).isEmpty
  | n + 1, k, listed => (Region.ready md ops listed == [k]) && forcedB md ops n (k + 1) (listed.setIfInBounds k true)
def listedFrom : Nat → Nat → Array Bool → Array Bool
  | 0, _, listed => listed
  | n + 1, k, listed => listedFrom n (k + 1) (listed.setIfInBounds k true)
def wpAnyP (P : Program) (md : Region.Mode) (ops : Array Oper) (C : World → Prop) (R : Array Bool → Act → Prop) : Nat → Array Bool → Act → Prop
  | 0, listed, a => R listed a
  | n + 1, listed, a => Region.ready md ops listed ≠ [] ∧ ∀ i ∈ Region.ready md ops listed, qOp P ops C i (wpAnyP P md ops C R n (listed.setIfInBounds i true)) a
theorem wpAny_of_prefix {R : Array Bool → Act → Prop} {Q : Exit → Act → World → Prop} {m : Nat} (hR : ∀ listed a w, C w → R listed a → wpAny P md ops Q m listed a w) :
    ∀ (n : Nat) (listed : Array Bool) (a : Act) (w : World), C w → wpAnyP P md ops C R n listed a → wpAny P md ops Q (n + m) listed a w
  | 0, listed, a, w, hw, h => by rw [Nat.zero_add]; exact hR _ _ _ hw h
  | n + 1, listed, a, w, hw, h => by
    rw [show n + 1 + m = (n + m) + 1 by omega]
    exact ⟨fun h0 => absurd h0 h.1, fun i hi => wpOp_of_qOp hw (fun a' w' hw' hk => wpAny_of_prefix hR n _ a' w' hw' hk) (h.2 i hi)⟩
theorem wpAnyP_first {R : Array Bool → Act → Prop} {i : Nat} {oi : Oper} {v : Value} (k : Nat) (hi : ops[i]? = some oi) (hsel : ∀ (j : Nat) (o : Oper) cs b, ops[j]? = some o → o.op ≠ .select cs b) :
    ∀ (n : Nat) (listed : Array Bool) (a : Act), prefB md ops k (n + 1) listed = true →
      (∀ j oj, ops[j]? = some oj → j ≠ i → listed.getD j true = false → (∀ e ∈ oj.after, Region.binds md e = true → e.on ≠ i) → oi.apart ops oj = true) →
      i ∈ Region.ready md ops listed → YieldsIn P ops C oi v a →
      wpAnyP P md ops C R n (listed.setIfInBounds i true) (a.put oi.dst v) → wpAnyP P md ops C R (n + 1) listed a := by
  intro n
  induction n with
  | zero =>
    intro listed a hp _ hr hy H
    refine ⟨fun h => (by rw [h] at hr; cases hr), fun j hj => ?_⟩
    by_cases hji : j = i
    · subst hji; exact hy.qOp hi H
    · exfalso
      have h1 := ready_mono hj hji
      have p1 := List.all_eq_true.mp hp
      have a1 := p1 j hj
      have a2 := p1 i hr
      simp only [Bool.and_eq_true, decide_eq_true_iff] at a1 a2
      have a3 := List.all_eq_true.mp a2.2 j h1
      simp only [decide_eq_true_iff] at a3
      omega
  | succ n ih =>
    intro listed a hp hfree hr hy H
    refine ⟨fun h => (by rw [h] at hr; cases hr), fun j hj => ?_⟩
    by_cases hji : j = i
    · subst hji; exact hy.qOp hi H
    · have h1 := H.2 j (ready_mono hj hji)
      have p1 := List.all_eq_true.mp hp j hj
      simp only [Bool.and_eq_true, decide_eq_true_iff] at p1
      obtain ⟨hjun, oj, hoj, hall⟩ := mem_ready.1 hj
      have hnot : ∀ e ∈ oj.after, Region.binds md e = true → e.on ≠ i := fun e he hb heq => by
        have h1 := hall e he hb
        have h0 := (mem_ready.1 hr).1
        rw [heq] at h1
        rcases Nat.lt_or_ge i listed.size with h' | h'
        · simp [h'] at h0 h1; rw [h0] at h1; cases h1
        · simp [Array.getElem?_eq_none h'] at h1
      have h2 := qOp_put hoj (hfree j oj hoj hji hjun hnot) (fun cs b => hsel i oi cs b hi) (fun cs b => hsel j oj cs b hoj) hy h1
      have hfree' : ∀ k ok, ops[k]? = some ok → k ≠ i → (listed.setIfInBounds j true).getD k true = false →
          (∀ e ∈ ok.after, Region.binds md e = true → e.on ≠ i) → oi.apart ops ok = true := fun k ok hk hki hun hno => by
        refine hfree k ok hk hki ?_ hno
        by_cases hjk : j = k
        · subst hjk; exact hjun
        · rw [getD_set_ne true hjk] at hun; exact hun
      refine qOp_mono (fun a' h3 => ih (listed.setIfInBounds j true) a' p1.2 hfree' (ready_mono hr (Ne.symm hji)) h3.1 ?_) h2
      rw [Array.setIfInBounds_comm _ _ hji]
      exact h3.2
theorem pref_next {k n i : Nat} {listed : Array Bool} (h : prefB md ops k (n + 1) listed = true) (hi : i ∈ Region.ready md ops listed) : prefB md ops k n (listed.setIfInBounds i true) = true := by
  have := List.all_eq_true.mp h i hi
  simp only [Bool.and_eq_true] at this
  exact this.2
theorem wpAnyP_lex {R : Array Bool → Act → Prop} {n : Nat} (hs : Region.noSelect ops = true) : ∀ (l : List Oper) (k : Nat) (listed : Array Bool) (a : Act), (∀ j, j < l.length → l[j]? = ops[k + j]?) →
    lexP md ops l.length k listed = true → prefB md ops n l.length listed = true → wpQuiet P ops C (R (listedFrom l.length k listed)) l a → wpAnyP P md ops C R l.length listed a
  | [], _, _, _, _, _, _, h => h
  | o :: l, k, listed, a, hl, hB, hp, h => by
    have h0 : ops[k]? = some o := by simpa using (hl 0 (by simp)).symm
    simp only [List.length_cons, lexP, Bool.and_eq_true] at hB
    obtain ⟨⟨hr, hf⟩, hB'⟩ := hB
    have hst : qOp P ops C k (wpQuiet P ops C (R (listedFrom l.length (k + 1) (listed.setIfInBounds k true))) l) a := by unfold qOp; simp only [h0]; exact h
    obtain ⟨v, hy, hK⟩ := yieldsIn_of_qOp h0 hst
    have hr' : k ∈ Region.ready md ops listed := by simpa using hr
    exact wpAnyP_first n h0 (Region.noSelect_spec hs) l.length listed a hp (Region.free_spec h0 hf) hr' hy
      (wpAnyP_lex hs l (k + 1) _ _ (fun j hj => by have := hl (j + 1) (by simpa using hj); simpa [Nat.add_assoc, Nat.add_comm 1 j] using this) hB' (pref_next hp hr') hK)
theorem wpAny_forced {Q : Exit → Act → World → Prop} : ∀ (l : List Oper) (k : Nat) (listed : Array Bool) (a : Act) (w : World), (∀ j, j < l.length → l[j]? = ops[k + j]?) →
    forcedB md ops l.length k listed = true → wpList P ops Q l a w → wpAny P md ops Q l.length listed a w
  | [], _, listed, a, w, _, hB, h => ⟨by simpa [forcedB] using hB, h⟩
  | o :: l, k, listed, a, w, hl, hB, h => by
    have h0 : ops[k]? = some o := by simpa using (hl 0 (by simp)).symm
    simp only [List.length_cons, forcedB, Bool.and_eq_true, beq_iff_eq] at hB
    obtain ⟨hr, hB'⟩ := hB
    refine ⟨fun he => (by rw [hr] at he; cases he), fun i hi => ?_⟩
    rw [hr] at hi
    obtain rfl := List.mem_singleton.mp hi
    have go : ∀ a w, wpList P ops Q l a w → wpAny P md ops Q l.length (listed.setIfInBounds i true) a w := fun a w hh => wpAny_forced l (i + 1) _ a w (fun j hj => by have := hl (j + 1) (by simpa using hj); simpa [Nat.add_assoc, Nat.add_comm 1 j] using this) hB' hh
    refine wpOp_mono go ?_
    unfold wpOp
    simp only [h0]
    exact h
theorem wpQuiet_mono {Q Q' : Act → Prop} (h : ∀ a, Q a → Q' a) : ∀ (l : List Oper) (a : Act), wpQuiet P ops C Q l a → wpQuiet P ops C Q' l a
  | [], a, hh => h a hh
  | o :: l, a, hh => by
    unfold wpQuiet at hh ⊢
    split
    · next hw =>
      rw [if_pos hw] at hh
      exact Oper.quiet_mono (wpQuiet_mono h l) hh
    · next hw =>
      rw [if_neg hw] at hh
      exact wpQuiet_mono h l _ hh
/-- THE LAW: the first k quiet, in whatever order; the rest in the order of the text. -/
theorem wp_region_pref {id : Nat} {Q : Exit → Act → World → Prop} {a : Act} {w0 w : World} {l : List Oper} (k : Nat) (hC : New w0 w) (hm : P.follows .mixedOrders = true) (hs : Region.noSelect l.toArray = true)
    (h1 : lexP .any l.toArray (l.take k).length 0 (Array.replicate l.toArray.size false) = true) (h2 : prefB .any l.toArray k (l.take k).length (Array.replicate l.toArray.size false) = true)
    (h3 : forcedB .any l.toArray (l.drop k).length k (listedFrom (l.take k).length 0 (Array.replicate l.toArray.size false)) = true)
    (h : wpQuiet P l.toArray (fun w' => ∃ x : NewW w0, w' = x.val) (fun a' => ∀ w', New w0 w' → wpList P l.toArray Q (l.drop k) a' w') (l.take k) a) : (Code.region id l.toArray true).wp P Q a w := by
  refine wp_region_any hm ?_
  have hk : l.toArray.size = (l.take k).length + (l.drop k).length := by simp [List.length_take, List.length_drop]; omega
  rw [hk] at h1 h2 h3 ⊢
  refine wpAny_of_prefix (C := fun w' => ∃ x : NewW w0, w' = x.val) (R := fun listed a' => ∀ w', New w0 w' → wpAny P .any l.toArray Q (l.drop k).length listed a' w') ?_ _ _ _ _ ⟨⟨w.drew, hC.drew⟩, rfl⟩ ?_
  · rintro listed a' w' ⟨x, rfl⟩ hh
    exact hh _ x.property
  · refine wpAnyP_lex (n := k) hs _ 0 _ _ (fun j hj => ?_) h1 h2 ?_
    · rw [Nat.zero_add, List.getElem?_take, if_pos (by simp [List.length_take] at hj; omega)]
      simp
    · exact wpQuiet_mono (fun a' hh w' hw' => wpAny_forced (l.drop k) k _ a' w' (fun j _ => by simp [List.getElem?_drop]) h3 (hh w' hw')) _ _ h
end
end Go.Proofs.YtdghhedenjgjiaaGreatDoor
