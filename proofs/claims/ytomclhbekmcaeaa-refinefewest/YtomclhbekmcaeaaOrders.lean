/-
  A region that draws its order, whose first operations only make new memory and answer a fixed value (in whatever order), and whose last ones wait for all of those and stand in one order: one walk of the first, then one of the last. No program stands in this text.
  A region that draws its order, whose first operations only make new memory and answer a fixed value, whose next one makes a new variable at whatever time, and whose last ones wait for all of those and stand in one order. No program stands in this text.
  A region that draws its order, whose loads may be taken first (nothing that was there is ever turned in it), and whose other operations then stand in one order: one walk. No program stands in this text.
  A region that draws its order: three new variables of one kind may come up in whatever order, and what stands behind them then. No program stands in this text.
  A quiet value, guarded or not; what is left of a region is quiet. No program stands in this text.
-/
import Derived.Test.YtomclhbekmcaeaaPlain
import Derived.Deep.RegionHeld3
namespace Go.Proofs.Ytomclhbekmcaeaa
open Go.RowKit

section
variable {P : Program} {ops : Array Oper} {md : Region.Mode} {C : World → Prop}
/-- The first k come up before the others: a Boolean. -/
def prefB (md : Region.Mode) (ops : Array Oper) (k : Nat) : Nat → Array Bool → Bool
  | 0, listed => (Region.ready md ops listed).all fun j => decide (k ≤ j)
  | n + 1, listed => (Region.ready md ops listed).all fun j => decide (j < k) && prefB md ops k n (listed.setIfInBounds j true)
/-- In lexical order, n operations from number k on. -/
def lexP (md : Region.Mode) (ops : Array Oper) : Nat → Nat → Array Bool → Bool
  | 0, _, _ => true
  | n + 1, k, listed => (Region.ready md ops listed).contains k && Region.free md ops listed k && lexP md ops n (k + 1) (listed.setIfInBounds k true)
/-- Just one may come up at a time. -/
def forcedB (md : Region.Mode) (ops : Array Oper) : Nat → Nat → Array Bool → Bool
  | 0, _, listed => (Region.ready md ops listed).isEmpty
  | n + 1, k, listed => (Region.ready md ops listed == [k]) && forcedB md ops n (k + 1) (listed.setIfInBounds k true)
def listedFrom : Nat → Nat → Array Bool → Array Bool
  | 0, _, listed => listed
  | n + 1, k, listed => listedFrom n (k + 1) (listed.setIfInBounds k true)
def wpAnyP (P : Program) (md : Region.Mode) (ops : Array Oper) (C : World → Prop) (R : Array Bool → Act → Prop) : Nat → Array Bool → Act → Prop
  | 0, listed, a => R listed a
  | n + 1, listed, a => Region.ready md ops listed ≠ [] ∧ ∀ i ∈ Region.ready md ops listed, qOp P ops C i (wpAnyP P md ops C R n (listed.setIfInBounds i true)) a
theorem wpAny_of_prefix {R : Array Bool → Act → Prop} {Q : Exit → Act → World → Prop} {m : Nat} (hR : ∀ listed a w, C w → R listed a → wpAny P md ops Q m listed a w) :
    ∀ (n : Nat) (listed : Array Bool) (a : Act) (w : World), C w → wpAnyP P md ops C R n listed a → wpAny P md ops Q (n + m) listed a w
  | 0, listed, a, w, hw, h => by rw [Nat.zero_add]; exact hR _ _ _ hw h
  | n + 1, listed, a, w, hw, h => by
    rw [show n + 1 + m = (n + m) + 1 by omega]
    exact ⟨fun h0 => absurd h0 h.1, fun i hi => wpOp_of_qOp hw (fun a' w' hw' hk => wpAny_of_prefix hR n _ a' w' hw' hk) (h.2 i hi)⟩
theorem wpAnyP_first {R : Array Bool → Act → Prop} {i : Nat} {oi : Oper} {v : Value} (k : Nat) (hi : ops[i]? = some oi) (hsel : ∀ (j : Nat) (o : Oper) cs b, ops[j]? = some o → o.op ≠ .select cs b) :
    ∀ (n : Nat) (listed : Array Bool) (a : Act), prefB md ops k (n + 1) listed = true →
      (∀ j oj, ops[j]? = some oj → j ≠ i → listed.getD j true = false → (∀ e ∈ oj.after, Region.binds md e = true → e.on ≠ i) → oi.apart ops oj = true) →
      i ∈ Region.ready md ops listed → YieldsIn P ops C oi v a →
      wpAnyP P md ops C R n (listed.setIfInBounds i true) (a.put oi.dst v) → wpAnyP P md ops C R (n + 1) listed a := by
  intro n
  induction n with
  | zero =>
    intro listed a hp _ hr hy H
    refine ⟨fun h => (by rw [h] at hr; cases hr), fun j hj => ?_⟩
    by_cases hji : j = i
    · subst hji; exact hy.qOp hi H
    · exfalso
      have h1 := ready_mono hj hji
      have p1 := List.all_eq_true.mp hp
      have a1 := p1 j hj
      have a2 := p1 i hr
      simp only [Bool.and_eq_true, decide_eq_true_iff] at a1 a2
      have a3 := List.all_eq_true.mp a2.2 j h1
      simp only [decide_eq_true_iff] at a3
      omega
  | succ n ih =>
    intro listed a hp hfree hr hy H
    refine ⟨fun h => (by rw [h] at hr; cases hr), fun j hj => ?_⟩
    by_cases hji : j = i
    · subst hji; exact hy.qOp hi H
    · have h1 := H.2 j (ready_mono hj hji)
      have p1 := List.all_eq_true.mp hp j hj
      simp only [Bool.and_eq_true, decide_eq_true_iff] at p1
      obtain ⟨hjun, oj, hoj, hall⟩ := mem_ready.1 hj
      have hnot : ∀ e ∈ oj.after, Region.binds md e = true → e.on ≠ i := fun e he hb heq => by
        have h1 := hall e he hb
        have h0 := (mem_ready.1 hr).1
        rw [heq] at h1
        rcases Nat.lt_or_ge i listed.size with h' | h'
        · simp [h'] at h0 h1; rw [h0] at h1; cases h1
        · simp [Array.getElem?_eq_none h'] at h1
      have h2 := qOp_put hoj (hfree j oj hoj hji hjun hnot) (fun cs b => hsel i oi cs b hi) (fun cs b => hsel j oj cs b hoj) hy h1
      have hfree' : ∀ k ok, ops[k]? = some ok → k ≠ i → (listed.setIfInBounds j true).getD k true = false →
          (∀ e ∈ ok.after, Region.binds md e = true → e.on ≠ i) → oi.apart ops ok = true := fun k ok hk hki hun hno => by
        refine hfree k ok hk hki ?_ hno
        by_cases hjk : j = k
        · subst hjk; exact hjun
        · rw [getD_set_ne true hjk] at hun; exact hun
      refine qOp_mono (fun a' h3 => ih (listed.setIfInBounds j true) a' p1.2 hfree' (ready_mono hr (Ne.symm hji)) h3.1 ?_) h2
      rw [Array.setIfInBounds_comm _ _ hji]
      exact h3.2
theorem pref_next {k n i : Nat} {listed : Array Bool} (h : prefB md ops k (n + 1) listed = true) (hi : i ∈ Region.ready md ops listed) : prefB md ops k n (listed.setIfInBounds i true) = true := by
  have := List.all_eq_true.mp h i hi
  simp only [Bool.and_eq_true] at this
  exact this.2
theorem wpAnyP_lex {R : Array Bool → Act → Prop} {n : Nat} (hs : Region.noSelect ops = true) : ∀ (l : List Oper) (k : Nat) (listed : Array Bool) (a : Act), (∀ j, j < l.length → l[j]? = ops[k + j]?) →
    lexP md ops l.length k listed = true → prefB md ops n l.length listed = true → wpQuiet P ops C (R (listedFrom l.length k listed)) l a → wpAnyP P md ops C R l.length listed a
  | [], _, _, _, _, _, _, h => h
  | o :: l, k, listed, a, hl, hB, hp, h => by
    have h0 : ops[k]? = some o := by simpa using (hl 0 (by simp)).symm
    simp only [List.length_cons, lexP, Bool.and_eq_true] at hB
    obtain ⟨⟨hr, hf⟩, hB'⟩ := hB
    have hst : qOp P ops C k (wpQuiet P ops C (R (listedFrom l.length (k + 1) (listed.setIfInBounds k true))) l) a := by unfold qOp; simp only [h0]; exact h
    obtain ⟨v, hy, hK⟩ := yieldsIn_of_qOp h0 hst
    have hr' : k ∈ Region.ready md ops listed := by simpa using hr
    exact wpAnyP_first n h0 (Region.noSelect_spec hs) l.length listed a hp (Region.free_spec h0 hf) hr' hy
      (wpAnyP_lex hs l (k + 1) _ _ (fun j hj => by have := hl (j + 1) (by simpa using hj); simpa [Nat.add_assoc, Nat.add_comm 1 j] using this) hB' (pref_next hp hr') hK)
theorem wpAny_forced {Q : Exit → Act → World → Prop} : ∀ (l : List Oper) (k : Nat) (listed : Array Bool) (a : Act) (w : World), (∀ j, j < l.length → l[j]? = ops[k + j]?) →
    forcedB md ops l.length k listed = true → wpList P ops Q l a w → wpAny P md ops Q l.length listed a w
  | [], _, listed, a, w, _, hB, h => ⟨by simpa [forcedB] using hB, h⟩
  | o :: l, k, listed, a, w, hl, hB, h => by
    have h0 : ops[k]? = some o := by simpa using (hl 0 (by simp)).symm
    simp only [List.length_cons, forcedB, Bool.and_eq_true, beq_iff_eq] at hB
    obtain ⟨hr, hB'⟩ := hB
    refine ⟨fun he => (by rw [hr] at he; cases he), fun i hi => ?_⟩
    rw [hr] at hi
    obtain rfl := List.mem_singleton.mp hi
    have go : ∀ a w, wpList P ops Q l a w → wpAny P md ops Q l.length (listed.setIfInBounds i true) a w := fun a w hh => wpAny_forced l (i + 1) _ a w (fun j hj => by have := hl (j + 1) (by simpa using hj); simpa [Nat.add_assoc, Nat.add_comm 1 j] using this) hB' hh
    refine wpOp_mono go ?_
    unfold wpOp
    simp only [h0]
    exact h
theorem wpQuiet_mono {Q Q' : Act → Prop} (h : ∀ a, Q a → Q' a) : ∀ (l : List Oper) (a : Act), wpQuiet P ops C Q l a → wpQuiet P ops C Q' l a
  | [], a, hh => h a hh
  | o :: l, a, hh => by
    unfold wpQuiet at hh ⊢
    split
    · next hw =>
      rw [if_pos hw] at hh
      exact Oper.quiet_mono (wpQuiet_mono h l) hh
    · next hw =>
      rw [if_neg hw] at hh
      exact wpQuiet_mono h l _ hh
/-- THE LAW: the first k quiet, in whatever order; the rest in the order of the text. -/
theorem wp_region_pref {id : Nat} {Q : Exit → Act → World → Prop} {a : Act} {w0 w : World} {l : List Oper} (k : Nat) (hC : New w0 w) (hm : P.follows .mixedOrders = true) (hs : Region.noSelect l.toArray = true)
    (h1 : lexP .any l.toArray (l.take k).length 0 (Array.replicate l.toArray.size false) = true) (h2 : prefB .any l.toArray k (l.take k).length (Array.replicate l.toArray.size false) = true)
    (h3 : forcedB .any l.toArray (l.drop k).length k (listedFrom (l.take k).length 0 (Array.replicate l.toArray.size false)) = true)
    (h : wpQuiet P l.toArray (fun w' => ∃ x : NewW w0, w' = x.val) (fun a' => ∀ w', New w0 w' → wpList P l.toArray Q (l.drop k) a' w') (l.take k) a) : (Code.region id l.toArray true).wp P Q a w := by
  refine wp_region_any hm ?_
  have hk : l.toArray.size = (l.take k).length + (l.drop k).length := by simp [List.length_take, List.length_drop]; omega
  rw [hk] at h1 h2 h3 ⊢
  refine wpAny_of_prefix (C := fun w' => ∃ x : NewW w0, w' = x.val) (R := fun listed a' => ∀ w', New w0 w' → wpAny P .any l.toArray Q (l.drop k).length listed a' w') ?_ _ _ _ _ ⟨⟨w.drew, hC.drew⟩, rfl⟩ ?_
  · rintro listed a' w' ⟨x, rfl⟩ hh
    exact hh _ x.property
  · refine wpAnyP_lex (n := k) hs _ 0 _ _ (fun j hj => ?_) h1 h2 ?_
    · rw [Nat.zero_add, List.getElem?_take, if_pos (by simp [List.length_take] at hj; omega)]
      simp
    · exact wpQuiet_mono (fun a' hh w' hw' => wpAny_forced (l.drop k) k _ a' w' (fun j _ => by simp [List.getElem?_drop]) h3 (hh w' hw')) _ _ h
end
end Go.Proofs.Ytomclhbekmcaeaa
namespace Go.Proofs.Ytomclhbekmcaeaa
open Go.RowKit

section
variable {P : Program} {ops : Array Oper} {md : Region.Mode}
theorem quietUpon_mono {C D : World → Prop} {w : World} {v : Value} {r : Result Next} (h : ∀ w, C w → D w) (hh : Oper.quietUpon P C w v r) : Oper.quietUpon P D w v r := by
  cases r with
  | ok n w' =>
    cases n <;> simp only [Oper.quietUpon] at hh ⊢
    all_goals first | exact hh | exact ⟨hh.1, hh.2.mono fun e w'' ⟨h1, h2⟩ => ⟨h1, h _ h2⟩⟩
  | halt x w' => exact hh
/-- In every world that has grown out of W0: the value, and nothing that was there turned. -/
def QN (P : Program) (W0 : World) (o : Oper) (a : Act) (v : Value) : Prop := ∀ w, New W0 w → o.quietAt P a (fun w'' => New w w'') w v
def wpQN (P : Program) (ops : Array Oper) (W0 : World) (Q : Act → Prop) : List Oper → Act → Prop
  | [], a => Q a
  | o :: rest, a => if Region.wanted o (yielded ops a.tmps) then ∃ v, QN P W0 o a v ∧ wpQN P ops W0 Q rest (a.put o.dst v) else wpQN P ops W0 Q rest (a.put o.dst undef)
theorem wpQN_mono {W0 : World} {Q Q' : Act → Prop} (h : ∀ a, Q a → Q' a) : ∀ (l : List Oper) (a : Act), wpQN P ops W0 Q l a → wpQN P ops W0 Q' l a
  | [], a, hh => h a hh
  | o :: l, a, hh => by
    unfold wpQN at hh ⊢
    split
    · next hw =>
      rw [if_pos hw] at hh
      obtain ⟨v, h1, h2⟩ := hh
      exact ⟨v, h1, wpQN_mono h l _ h2⟩
    · next hw =>
      rw [if_neg hw] at hh
      exact wpQN_mono h l _ hh
abbrev cls (w : World) : World → Prop := fun w' => New w w'
theorem QN.cls {W0 w1 : World} {o : Oper} {a : Act} {v : Value} (h : QN P W0 o a v) (hn : New W0 w1) : ∀ w, cls w1 w → o.quietAt P a (cls w1) w v := fun w hw => quietUpon_mono (fun _ hw' => New.trans hw hw') (h w (hn.trans hw))
/-- What an operation yields in a class, at every class of grown worlds. -/
def YieldsAll (P : Program) (ops : Array Oper) (W0 : World) (o : Oper) (v : Value) (a : Act) : Prop :=
  (Region.wanted o (yielded ops a.tmps) = true ∧ QN P W0 o a v) ∨ (Region.wanted o (yielded ops a.tmps) = false ∧ v = undef)
theorem YieldsAll.at {W0 w1 : World} {o : Oper} {v : Value} {a : Act} (h : YieldsAll P ops W0 o v a) (hn : New W0 w1) : YieldsIn P ops (cls w1) o v a :=
  h.imp (fun ⟨h1, h2⟩ => ⟨h1, h2.cls hn⟩) id
theorem YieldsAll.of_same {W0 : World} {o : Oper} {v : Value} {a a' : Act} (hy : YieldsAll P ops W0 o v a) (he : execOp a'.eval o = execOp a.eval o)
    (hw : Region.wanted o (yielded ops a'.tmps) = Region.wanted o (yielded ops a.tmps)) : YieldsAll P ops W0 o v a' := by
  unfold YieldsAll QN Oper.quietAt at *
  rw [he, hw]
  exact hy
/-- The new variable's place among the operations is k. -/
def gB (md : Region.Mode) (ops : Array Oper) (k : Nat) : Nat → Array Bool → Bool
  | 0, listed => (Region.ready md ops listed == [k]) && prefB md ops (k + 1) 0 (listed.setIfInBounds k true)
  | n + 1, listed => (Region.ready md ops listed).contains k && prefB md ops (k + 1) (n + 1) (listed.setIfInBounds k true) && (Region.ready md ops listed).all fun j => (j == k) || (decide (j < k) && gB md ops k n (listed.setIfInBounds j true))
theorem gB_succ {k n : Nat} {listed : Array Bool} (h : gB md ops k (n + 1) listed = true) : k ∈ Region.ready md ops listed ∧ prefB md ops (k + 1) (n + 1) (listed.setIfInBounds k true) = true ∧ ∀ j ∈ Region.ready md ops listed, j ≠ k → gB md ops k n (listed.setIfInBounds j true) = true := by
  rw [gB, Bool.and_eq_true, Bool.and_eq_true] at h
  refine ⟨by simpa using h.1.1, h.1.2, fun j hj hjk => ?_⟩
  have := List.all_eq_true.mp h.2 j hj
  rw [Bool.or_eq_true, Bool.and_eq_true] at this
  rcases this with e | e
  · exact absurd (by simpa using e) hjk
  · exact e.2
theorem gB_zero {k : Nat} {listed : Array Bool} (h : gB md ops k 0 listed = true) : Region.ready md ops listed = [k] := by
  rw [gB, Bool.and_eq_true] at h
  simpa using h.1
variable {W0 : World} {o : Obj} {Q : Exit → Act → World → Prop} {m k : Nat}
/-- The new variable is made now; then the n quiet ones that are left; then the rest. -/
def nowG (P : Program) (md : Region.Mode) (ops : Array Oper) (Q : Exit → Act → World → Prop) (W0 : World) (o : Obj) (m k : Nat) (dst : Option Tmp) (n : Nat) (listed : Array Bool) (a : Act) : Prop :=
  ∀ w1, New W0 w1 → wpAnyP P md ops (cls (w1.alloc o)) (fun listed a => ∀ w', New (w1.alloc o) w' → wpAny P md ops Q m listed a w') n (listed.setIfInBounds k true) (a.put dst (.pointer (some ⟨w1.heap.size, 0, none⟩)))
def wpAnyG (P : Program) (md : Region.Mode) (ops : Array Oper) (Q : Exit → Act → World → Prop) (W0 : World) (o : Obj) (m k : Nat) (dst : Option Tmp) : Nat → Array Bool → Act → Prop
  | 0, listed, a => nowG P md ops Q W0 o m k dst 0 listed a
  | n + 1, listed, a => nowG P md ops Q W0 o m k dst (n + 1) listed a ∧ ∀ i ∈ Region.ready md ops listed, i ≠ k → qOp P ops (cls W0) i (wpAnyG P md ops Q W0 o m k dst n (listed.setIfInBounds i true)) a
theorem wpAnyG_now {dst : Option Tmp} {n : Nat} {listed : Array Bool} {a : Act} (h : wpAnyG P md ops Q W0 o m k dst n listed a) : nowG P md ops Q W0 o m k dst n listed a := by
  cases n with
  | zero => exact h
  | succ n => exact h.1
theorem wpAny_of_G {ok : Oper} (hk : ops[k]? = some ok) (hg : ok.guard = none) (hrun : ∀ (a : Act) (w : World), (execOp a.eval ok).run P w = .ok (.value (.pointer (some ⟨w.heap.size, 0, none⟩))) (w.alloc o)) :
    ∀ (n : Nat) (listed : Array Bool) (a : Act) (w : World), gB md ops k n listed = true → New W0 w → wpAnyG P md ops Q W0 o m k ok.dst n listed a → wpAny P md ops Q (n + 1 + m) listed a w := by
  have now : ∀ (n : Nat) (listed : Array Bool) (a : Act) (w : World), New W0 w → nowG P md ops Q W0 o m k ok.dst n listed a → wpOp P ops Q k (wpAny P md ops Q (n + m) (listed.setIfInBounds k true)) a w := by
    intro n listed a w hw h
    unfold wpOp
    simp only [hk, Region.wanted, hg, if_true]
    refine .inl ?_
    unfold Oper.wp
    rw [hrun a w]
    simp only [Oper.upon]
    exact wpAny_of_prefix (C := cls (w.alloc o)) (R := fun listed a => ∀ w', New (w.alloc o) w' → wpAny P md ops Q m listed a w') (fun l a' w' hw' hh => hh w' hw') n _ _ _ (New.refl _) (h w hw)
  intro n
  induction n with
  | zero =>
    intro listed a w hb hw h
    have hz := gB_zero hb
    rw [show 0 + 1 + m = (0 + m) + 1 by omega]
    refine ⟨fun he => (by rw [hz] at he; cases he), fun i hi => ?_⟩
    rw [hz] at hi
    obtain rfl := List.mem_singleton.mp hi
    exact now 0 listed a w hw h
  | succ n ih =>
    intro listed a w hb hw h
    obtain ⟨hck, _, hbj⟩ := gB_succ hb
    rw [show n + 1 + 1 + m = (n + 1 + m) + 1 by omega]
    refine ⟨fun he => (by rw [he] at hck; cases hck), fun i hi => ?_⟩
    by_cases e : i = k
    · subst e
      exact now (n + 1) listed a w hw h.1
    · exact wpOp_of_qOp (C := cls W0) hw (fun a' w' hw' hh => ih _ a' w' (hbj i hi e) hw' hh) (h.2 i hi e)
theorem wpAnyG_first {i : Nat} {oi ok : Oper} {v : Value} (hi : ops[i]? = some oi) (hik : i ≠ k) (hsel : ∀ (j : Nat) (o : Oper) cs b, ops[j]? = some o → o.op ≠ .select cs b) (hap : ok.apart ops oi = true) :
    ∀ (n : Nat) (listed : Array Bool) (a : Act), gB md ops k (n + 1) listed = true →
      (∀ j oj, ops[j]? = some oj → j ≠ i → listed.getD j true = false → (∀ e ∈ oj.after, Region.binds md e = true → e.on ≠ i) → oi.apart ops oj = true) →
      i ∈ Region.ready md ops listed → YieldsAll P ops W0 oi v a →
      wpAnyG P md ops Q W0 o m k ok.dst n (listed.setIfInBounds i true) (a.put oi.dst v) → wpAnyG P md ops Q W0 o m k ok.dst (n + 1) listed a := by
  obtain ⟨p1, p2, p3⟩ := Oper.apart_spec hap
  have nowF : ∀ (n : Nat) (listed : Array Bool) (a : Act), prefB md ops (k + 1) (n + 1) (listed.setIfInBounds k true) = true →
      (∀ j oj, ops[j]? = some oj → j ≠ i → listed.getD j true = false → (∀ e ∈ oj.after, Region.binds md e = true → e.on ≠ i) → oi.apart ops oj = true) →
      i ∈ Region.ready md ops listed → YieldsAll P ops W0 oi v a → nowG P md ops Q W0 o m k ok.dst n (listed.setIfInBounds i true) (a.put oi.dst v) → nowG P md ops Q W0 o m k ok.dst (n + 1) listed a := by
    intro n listed a hp hfree hr hy H w1 hw1
    refine wpAnyP_first (k + 1) hi hsel n _ _ hp ?_ (ready_mono hr hik) ((hy.of_same (execOp_put oi (fun cs b => hsel i oi cs b hi) a ok.dst _ p1) (wanted_put oi a ok.dst _ p1)).at (hw1.alloc o)) ?_
    · intro j oj hj hji hun hno
      refine hfree j oj hj hji ?_ hno
      by_cases hjk : k = j
      · subst hjk
        have : (listed.setIfInBounds k true).getD k true = true := by simp [Array.getD]
        rw [this] at hun
        cases hun
      · rw [getD_set_ne true hjk] at hun; exact hun
    · have := H w1 hw1
      rw [Array.setIfInBounds_comm _ _ hik] at this
      rw [Act.put_comm a (x := ok.dst) (y := oi.dst) _ _ p2]
      exact this
  intro n
  induction n with
  | zero =>
    intro listed a hb hfree hr hy H
    obtain ⟨_, hb1, hbj⟩ := gB_succ hb
    refine ⟨nowF 0 listed a hb1 hfree hr hy H, fun j hj hjk => ?_⟩
    by_cases hji : j = i
    · subst hji
      exact (hy.at (New.refl _)).qOp hi H
    · exfalso
      have h1 := ready_mono hj hji
      rw [gB_zero (hbj i hr hik)] at h1
      exact hjk (List.mem_singleton.mp h1)
  | succ n ih =>
    intro listed a hb hfree hr hy H
    obtain ⟨_, hb1, hbj⟩ := gB_succ hb
    refine ⟨nowF (n + 1) listed a hb1 hfree hr hy H.1, fun j hj hjk => ?_⟩
    by_cases hji : j = i
    · subst hji
      exact (hy.at (New.refl _)).qOp hi H
    · have h1 := H.2 j (ready_mono hj hji) hjk
      obtain ⟨hjun, oj, hoj, hall⟩ := mem_ready.1 hj
      have hnot : ∀ e ∈ oj.after, Region.binds md e = true → e.on ≠ i := fun e he hb heq => by
        have h1 := hall e he hb
        have h0 := (mem_ready.1 hr).1
        rw [heq] at h1
        rcases Nat.lt_or_ge i listed.size with h' | h'
        · simp [h'] at h0 h1; rw [h0] at h1; cases h1
        · simp [Array.getElem?_eq_none h'] at h1
      have hapj := hfree j oj hoj hji hjun hnot
      have h2 := qOp_put hoj hapj (fun cs b => hsel i oi cs b hi) (fun cs b => hsel j oj cs b hoj) (hy.at (New.refl _)) h1
      obtain ⟨b1, b2, b3⟩ := Oper.apart_spec hapj
      have hfree' : ∀ k ok, ops[k]? = some ok → k ≠ i → (listed.setIfInBounds j true).getD k true = false →
          (∀ e ∈ ok.after, Region.binds md e = true → e.on ≠ i) → oi.apart ops ok = true := fun k ok hk hki hun hno => by
        refine hfree k ok hk hki ?_ hno
        by_cases hjk : j = k
        · subst hjk; exact hjun
        · rw [getD_set_ne true hjk] at hun; exact hun
      obtain ⟨u, hyu, hK⟩ := yieldsIn_of_qOp hoj (qOp_mono (fun a' h3 => h3.2) h2)
      refine hyu.qOp hoj ?_
      refine ih (listed.setIfInBounds j true) _ (hbj j hj hjk) hfree' (ready_mono hr (Ne.symm hji)) (hy.of_same (execOp_put oi (fun cs b => hsel i oi cs b hi) a oj.dst _ b3) (wanted_put oi a oj.dst _ b3)) ?_
      rw [Array.setIfInBounds_comm _ _ hji]
      exact hK
theorem wpAnyG_lex {ok : Oper} (hk : ops[k]? = some ok) (hs : Region.noSelect ops = true) : ∀ (l : List Oper) (i : Nat) (listed : Array Bool) (a : Act), (∀ j, j < l.length → l[j]? = ops[i + j]?) → i + l.length ≤ k → (∀ j, j < l.length → ∀ oj, l[j]? = some oj → ok.apart ops oj = true) →
    lexP md ops l.length i listed = true → gB md ops k l.length listed = true → wpQN P ops W0 (nowG P md ops Q W0 o m k ok.dst 0 (listedFrom l.length i listed)) l a → wpAnyG P md ops Q W0 o m k ok.dst l.length listed a
  | [], _, _, _, _, _, _, _, _, h => h
  | oi :: l, i, listed, a, hl, hlt, hap, hB, hp, h => by
    have h0 : ops[i]? = some oi := by simpa using (hl 0 (by simp)).symm
    simp only [List.length_cons, lexP, Bool.and_eq_true] at hB
    obtain ⟨⟨hr, hf⟩, hB'⟩ := hB
    have hr' : i ∈ Region.ready md ops listed := by simpa using hr
    have hik : i ≠ k := by simp at hlt; omega
    have hrec : ∀ v, wpQN P ops W0 (nowG P md ops Q W0 o m k ok.dst 0 (listedFrom l.length (i + 1) (listed.setIfInBounds i true))) l (a.put oi.dst v) → wpAnyG P md ops Q W0 o m k ok.dst l.length (listed.setIfInBounds i true) (a.put oi.dst v) := fun v hh =>
      wpAnyG_lex hk hs l (i + 1) _ _ (fun j hj => by have := hl (j + 1) (by simpa using hj); simpa [Nat.add_assoc, Nat.add_comm 1 j] using this) (by simp at hlt; omega) (fun j hj oj hoj => hap (j + 1) (by simpa using hj) oj (by simpa using hoj)) hB' ((gB_succ hp).2.2 i hr' hik) hh
    have fst : ∀ v, YieldsAll P ops W0 oi v a → wpQN P ops W0 (nowG P md ops Q W0 o m k ok.dst 0 (listedFrom l.length (i + 1) (listed.setIfInBounds i true))) l (a.put oi.dst v) → wpAnyG P md ops Q W0 o m k ok.dst (l.length + 1) listed a := fun v hy hh =>
      wpAnyG_first h0 hik (Region.noSelect_spec hs) (hap 0 (by simp) oi (by simp)) l.length listed a hp (Region.free_spec h0 hf) hr' hy (hrec v hh)
    unfold wpQN at h
    by_cases hw : Region.wanted oi (yielded ops a.tmps) = true
    · rw [if_pos hw] at h
      obtain ⟨v, h1, h2⟩ := h
      exact fst v (.inl ⟨hw, h1⟩) h2
    · rw [if_neg hw] at h
      exact fst undef (.inr ⟨by simpa using hw, rfl⟩) h
def apartB (ops : Array Oper) (ok : Oper) (l : List Oper) : Bool := l.all fun oj => ok.apart ops oj
/-- THE LAW: the first k quiet, a new variable at whatever time, the rest in the order of the text. -/
theorem wp_region_new1 {id : Nat} {a : Act} {w : World} {l : List Oper} {ok : Oper} (k : Nat) (o : Obj) (hk : l[k]? = some ok) (hg : ok.guard = none) (hrun : ∀ (a : Act) (w : World), (execOp a.eval ok).run P w = .ok (.value (.pointer (some ⟨w.heap.size, 0, none⟩))) (w.alloc o))
    (hC : New W0 w) (hm : P.follows .mixedOrders = true) (hs : Region.noSelect l.toArray = true) (hap : apartB l.toArray ok (l.take k) = true)
    (h1 : lexP .any l.toArray (l.take k).length 0 (Array.replicate l.toArray.size false) = true) (h2 : gB .any l.toArray k (l.take k).length (Array.replicate l.toArray.size false) = true)
    (h3 : forcedB .any l.toArray (l.drop (k + 1)).length (k + 1) ((listedFrom (l.take k).length 0 (Array.replicate l.toArray.size false)).setIfInBounds k true) = true)
    (h : wpQN P l.toArray W0 (fun a' => ∀ g w', W0.heap.size ≤ g → w'.heap[g]? = some o → New W0 w' → wpList P l.toArray Q (l.drop (k + 1)) (a'.put ok.dst (.pointer (some ⟨g, 0, none⟩))) w') (l.take k) a) : (Code.region id l.toArray true).wp P Q a w := by
  refine wp_region_any hm ?_
  have hkl : k < l.length := (List.getElem?_eq_some_iff.mp hk).1
  have hz : l.toArray.size = (l.take k).length + 1 + (l.drop (k + 1)).length := by simp [List.length_take, List.length_drop]; omega
  rw [hz] at h1 h2 h3 ⊢
  have hk' : l.toArray[k]? = some ok := by simpa using hk
  refine wpAny_of_G (W0 := W0) (o := o) (k := k) hk' hg hrun _ _ _ _ h2 hC.drew ?_
  refine wpAnyG_lex hk' hs _ 0 _ _ (fun j hj => ?_) (by simp [List.length_take]; omega) (fun j hj oj hoj => List.all_eq_true.mp hap oj (List.mem_of_getElem? hoj)) h1 h2 ?_
  · rw [Nat.zero_add, List.getElem?_take, if_pos (by simp [List.length_take] at hj; omega)]
    simp
  · refine wpQN_mono (fun a' hh => ?_) _ _ h
    intro w1 hw1 w' hw'
    refine wpAny_forced (l.drop (k + 1)) (k + 1) _ _ w' (fun j _ => by simp [List.getElem?_drop]) h3 ?_
    exact hh w1.heap.size w' hw1.size (hw'.heap (heap_alloc_new _ _)) ((hw1.alloc o).trans hw')
end
end Go.Proofs.Ytomclhbekmcaeaa
namespace Go.Proofs.Ytomclhbekmcaeaa
open Go.RowKit

section
variable {P : Program} {ops : Array Oper} {md : Region.Mode} {S : World → Prop} {Q : Exit → Act → World → Prop}
/-- The operations of a list, one behind the other; behind each the condition holds. -/
def wpLS (P : Program) (ops : Array Oper) (Q : Exit → Act → World → Prop) (S : World → Prop) : List Oper → Act → World → Prop
  | [], a, w => Q .normal a w
  | o :: rest, a, w => if Region.wanted o (yielded ops a.tmps) then o.wp P a w (fun a' w' => S w' ∧ wpLS P ops Q S rest a' w') Q else wpLS P ops Q S rest (a.put o.dst undef) w
/-- Just these may come up, one behind the other. -/
def forcedL (md : Region.Mode) (ops : Array Oper) : List Nat → Array Bool → Bool
  | [], listed => (Region.ready md ops listed).isEmpty
  | i :: is, listed => (Region.ready md ops listed == [i]) && forcedL md ops is (listed.setIfInBounds i true)
theorem wpAnyH_forced : ∀ (is : List Nat) (listed : Array Bool) (a : Act) (w : World), S w → forcedL md ops is listed = true → (∀ i ∈ is, i < ops.size) → wpLS P ops Q S (is.map fun i => ops.getD i default) a w → wpAnyH P md ops Q S is.length listed a w
  | [], listed, a, w, _, hB, _, h => ⟨by simpa [forcedL] using hB, h⟩
  | i :: is, listed, a, w, hS, hB, hlt, h => by
    simp only [forcedL, Bool.and_eq_true, beq_iff_eq] at hB
    obtain ⟨hr, hB'⟩ := hB
    have hi := hlt i (by simp)
    have h0 : ops[i]? = some (ops.getD i default) := by simp [Array.getD, hi]
    have rest : ∀ a w, S w → wpLS P ops Q S (is.map fun i => ops.getD i default) a w → wpAnyH P md ops Q S is.length (listed.setIfInBounds i true) a w := fun a w hs hh => wpAnyH_forced is _ a w hs hB' (fun j hj => hlt j (by simp [hj])) hh
    refine ⟨fun he => (by rw [hr] at he; cases he), fun j hj => ?_⟩
    rw [hr] at hj
    obtain rfl := List.mem_singleton.mp hj
    rw [List.map_cons] at h
    unfold wpOp
    simp only [h0]
    unfold wpLS at h
    by_cases hw : Region.wanted (ops.getD j default) (yielded ops a.tmps) = true
    · rw [if_pos hw] at h ⊢
      exact .inl (Oper.wp_mono (fun a' w' ⟨h1, h2⟩ => ⟨h1, rest a' w' h1 h2⟩) h)
    · rw [if_neg hw] at h ⊢
      exact ⟨hS, rest _ _ hS h⟩
variable {o : Oper} {rest : List Oper} {a : Act} {w : World}
theorem wpLS_nil (h : Q .normal a w) : wpLS P ops Q S [] a w := h
theorem wpLS_value (hw : Region.wanted o (yielded ops a.tmps) = true) (v : Value) (hS : S w) (hr : (execOp a.eval o).run P w = .ok (.value v) w) (h : wpLS P ops Q S rest (a.put o.dst v) w) : wpLS P ops Q S (o :: rest) a w := by
  unfold wpLS
  rw [if_pos hw]
  unfold Oper.wp
  rw [hr]
  exact ⟨hS, h⟩
theorem wpLS_call (hw : Region.wanted o (yielded ops a.tmps) = true) (f : FuncId) (args : Array Value) (hr : (execOp a.eval o).run P w = .ok (.enter f args) w)
    (h : Calls P f args w fun e w' => ∃ v, e = .returned v ∧ S w' ∧ wpLS P ops Q S rest (a.put o.dst v) w') : wpLS P ops Q S (o :: rest) a w := by
  unfold wpLS
  rw [if_pos hw]
  unfold Oper.wp
  rw [hr]
  refine h.mono fun e w' ⟨v, he, hh⟩ => ?_
  subst he
  exact hh
end
end Go.Proofs.Ytomclhbekmcaeaa
namespace Go.Proofs.Ytomclhbekmcaeaa
open Go.RowKit

section
variable {P : Program} {ops : Array Oper} {md : Region.Mode} {S : World → Prop} {Q : Exit → Act → World → Prop}
theorem wpOp_value {i : Nat} {o : Oper} {a : Act} {w w' : World} {K : Act → World → Prop} {v : Value} (hi : ops[i]? = some o) (hg : o.guard = none) (hr : (execOp a.eval o).run P w = .ok (.value v) w') (h : K (a.put o.dst v) w') : wpOp P ops Q i K a w := by
  unfold wpOp
  simp only [hi, Region.wanted, hg, if_true]
  refine .inl ?_
  unfold Oper.wp
  rw [hr]
  exact h
def ptr (g : Nat) : Value := .pointer (some ⟨g, 0, none⟩)
/-- The three may come up, each ahead of each. -/
def news3 (md : Region.Mode) (ops : Array Oper) (i j k : Nat) (l : Array Bool) : Bool :=
  (Region.ready md ops l == [i, j, k]) && (Region.ready md ops (l.setIfInBounds i true) == [j, k]) && (Region.ready md ops (l.setIfInBounds j true) == [i, k]) && (Region.ready md ops (l.setIfInBounds k true) == [i, j]) &&
  (Region.ready md ops ((l.setIfInBounds i true).setIfInBounds j true) == [k]) && (Region.ready md ops ((l.setIfInBounds i true).setIfInBounds k true) == [j]) && (Region.ready md ops ((l.setIfInBounds j true).setIfInBounds k true) == [i])
/-- Three numbers from n on, each another. -/
structure Three (n a b c : Nat) : Prop where
  a0 : n ≤ a
  b0 : n ≤ b
  c0 : n ≤ c
  a1 : a < n + 3
  b1 : b < n + 3
  c1 : c < n + 3
  ab : a ≠ b
  ac : a ≠ c
  bc : b ≠ c
theorem put_comm (a : Act) {d e : Tmp} (h : d ≠ e) (u v : Value) : (a.put (some d) u).put (some e) v = (a.put (some e) v).put (some d) u := by
  simp only [Act.put]
  rw [Array.setIfInBounds_comm _ _ h]
theorem wpAnyH_new3 {i j k : Nat} {oi oj ok : Oper} {o : Obj} {di dj dk : Tmp} {m : Nat} {l : Array Bool} {a : Act} {w : World}
    (hi : ops[i]? = some oi) (hj : ops[j]? = some oj) (hk : ops[k]? = some ok) (ei : oi.dst = some di) (ej : oj.dst = some dj) (ek : ok.dst = some dk) (gi : oi.guard = none) (gj : oj.guard = none) (gk : ok.guard = none)
    (ri : ∀ (a : Act) (w : World), (execOp a.eval oi).run P w = .ok (.value (ptr w.heap.size)) (w.alloc o)) (rj : ∀ (a : Act) (w : World), (execOp a.eval oj).run P w = .ok (.value (ptr w.heap.size)) (w.alloc o)) (rk : ∀ (a : Act) (w : World), (execOp a.eval ok).run P w = .ok (.value (ptr w.heap.size)) (w.alloc o))
    (hB : news3 md ops i j k l = true) (hij : i ≠ j) (hik : i ≠ k) (hjk : j ≠ k) (dij : di ≠ dj) (dik : di ≠ dk) (djk : dj ≠ dk) (hS : ∀ w, S w → S (w.alloc o)) (hw : S w)
    (h : ∀ x y z, Three w.heap.size x y z → S (((w.alloc o).alloc o).alloc o) → wpAnyH P md ops Q S m (((l.setIfInBounds i true).setIfInBounds j true).setIfInBounds k true) (((a.put (some di) (ptr x)).put (some dj) (ptr y)).put (some dk) (ptr z)) (((w.alloc o).alloc o).alloc o)) :
    wpAnyH P md ops Q S (m + 3) l a w := by
  simp only [news3, Bool.and_eq_true, beq_iff_eq] at hB
  obtain ⟨⟨⟨⟨⟨⟨b0, bi⟩, bj⟩, bk⟩, bij⟩, bik⟩, bjk⟩ := hB
  have s1 := hS _ hw
  have s2 := hS _ s1
  have s3 := hS _ s2
  have cij : (l.setIfInBounds j true).setIfInBounds i true = (l.setIfInBounds i true).setIfInBounds j true := Array.setIfInBounds_comm _ _ (Ne.symm hij)
  have cik : (l.setIfInBounds k true).setIfInBounds i true = (l.setIfInBounds i true).setIfInBounds k true := Array.setIfInBounds_comm _ _ (Ne.symm hik)
  have cjk : (l.setIfInBounds k true).setIfInBounds j true = (l.setIfInBounds j true).setIfInBounds k true := Array.setIfInBounds_comm _ _ (Ne.symm hjk)
  have d1 : ((l.setIfInBounds i true).setIfInBounds k true).setIfInBounds j true = ((l.setIfInBounds i true).setIfInBounds j true).setIfInBounds k true := Array.setIfInBounds_comm _ _ (Ne.symm hjk)
  have d2 : ((l.setIfInBounds j true).setIfInBounds k true).setIfInBounds i true = ((l.setIfInBounds i true).setIfInBounds j true).setIfInBounds k true := by
    rw [Array.setIfInBounds_comm _ _ (Ne.symm hik), cij]
  have z1 : (w.alloc o).heap.size = w.heap.size + 1 := alloc_size _ _
  have z2 : ((w.alloc o).alloc o).heap.size = w.heap.size + 2 := by rw [alloc_size, z1]
  refine wpAnyH_all b0 (by simp) ?_
  simp only [List.mem_cons, List.not_mem_nil, or_false]
  rintro t (rfl | rfl | rfl)
  · refine wpOp_value hi gi (ri a w) ⟨s1, ?_⟩
    refine wpAnyH_all bi (by simp) ?_
    simp only [List.mem_cons, List.not_mem_nil, or_false]
    rintro t (rfl | rfl)
    · refine wpOp_value hj gj (rj _ _) ⟨s2, ?_⟩
      refine wpAnyH_all bij (by simp) ?_
      simp only [List.mem_cons, List.not_mem_nil, or_false]
      rintro t rfl
      refine wpOp_value hk gk (rk _ _) ⟨s3, ?_⟩
      rw [ei, ej, ek, z1, z2]
      exact h _ _ _ ⟨by omega, by omega, by omega, by omega, by omega, by omega, by omega, by omega, by omega⟩ s3
    · refine wpOp_value hk gk (rk _ _) ⟨s2, ?_⟩
      refine wpAnyH_all bik (by simp) ?_
      simp only [List.mem_cons, List.not_mem_nil, or_false]
      rintro t rfl
      refine wpOp_value hj gj (rj _ _) ⟨s3, ?_⟩
      rw [ei, ej, ek, z1, z2, d1, put_comm _ (Ne.symm djk)]
      exact h _ _ _ ⟨by omega, by omega, by omega, by omega, by omega, by omega, by omega, by omega, by omega⟩ s3
  · refine wpOp_value hj gj (rj a w) ⟨s1, ?_⟩
    refine wpAnyH_all bj (by simp) ?_
    simp only [List.mem_cons, List.not_mem_nil, or_false]
    rintro t (rfl | rfl)
    · refine wpOp_value hi gi (ri _ _) ⟨s2, ?_⟩
      rw [cij]
      refine wpAnyH_all bij (by simp) ?_
      simp only [List.mem_cons, List.not_mem_nil, or_false]
      rintro t rfl
      refine wpOp_value hk gk (rk _ _) ⟨s3, ?_⟩
      rw [ei, ej, ek, z1, z2, put_comm a (Ne.symm dij)]
      exact h _ _ _ ⟨by omega, by omega, by omega, by omega, by omega, by omega, by omega, by omega, by omega⟩ s3
    · refine wpOp_value hk gk (rk _ _) ⟨s2, ?_⟩
      refine wpAnyH_all bjk (by simp) ?_
      simp only [List.mem_cons, List.not_mem_nil, or_false]
      rintro t rfl
      refine wpOp_value hi gi (ri _ _) ⟨s3, ?_⟩
      rw [ei, ej, ek, z1, z2, d2, put_comm _ (Ne.symm dik), put_comm a (Ne.symm dij)]
      exact h _ _ _ ⟨by omega, by omega, by omega, by omega, by omega, by omega, by omega, by omega, by omega⟩ s3
  · refine wpOp_value hk gk (rk a w) ⟨s1, ?_⟩
    refine wpAnyH_all bk (by simp) ?_
    simp only [List.mem_cons, List.not_mem_nil, or_false]
    rintro t (rfl | rfl)
    · refine wpOp_value hi gi (ri _ _) ⟨s2, ?_⟩
      rw [cik]
      refine wpAnyH_all bik (by simp) ?_
      simp only [List.mem_cons, List.not_mem_nil, or_false]
      rintro t rfl
      refine wpOp_value hj gj (rj _ _) ⟨s3, ?_⟩
      rw [ei, ej, ek, z1, z2, d1, put_comm a (Ne.symm dik), put_comm _ (Ne.symm djk)]
      exact h _ _ _ ⟨by omega, by omega, by omega, by omega, by omega, by omega, by omega, by omega, by omega⟩ s3
    · refine wpOp_value hj gj (rj _ _) ⟨s2, ?_⟩
      rw [cjk]
      refine wpAnyH_all bjk (by simp) ?_
      simp only [List.mem_cons, List.not_mem_nil, or_false]
      rintro t rfl
      refine wpOp_value hi gi (ri _ _) ⟨s3, ?_⟩
      rw [ei, ej, ek, z1, z2, d2, put_comm a (Ne.symm djk), put_comm _ (Ne.symm dik), put_comm a (Ne.symm dij)]
      exact h _ _ _ ⟨by omega, by omega, by omega, by omega, by omega, by omega, by omega, by omega, by omega⟩ s3
/-- A call that alone may come up. -/
theorem wpAnyH_call {i : Nat} {o : Oper} {fuel : Nat} {l : Array Bool} {a : Act} {w : World} (hi : ops[i]? = some o) (hg : o.guard = none) (hr : Region.ready md ops l = [i]) (f : FuncId) (args : Array Value) (hrun : (execOp a.eval o).run P w = .ok (.enter f args) w)
    (h : Calls P f args w fun e w' => ∃ v, e = .returned v ∧ S w' ∧ wpAnyH P md ops Q S fuel (l.setIfInBounds i true) (a.put o.dst v) w') : wpAnyH P md ops Q S (fuel + 1) l a w := by
  refine wpAnyH_all hr (by simp) ?_
  simp only [List.mem_cons, List.not_mem_nil, or_false]
  rintro t rfl
  unfold wpOp
  simp only [hi, Region.wanted, hg, if_true]
  refine .inl ?_
  unfold Oper.wp
  rw [hrun]
  refine h.mono fun e w' ⟨v, he, hh⟩ => ?_
  subst he
  exact hh
/-- A store among operations that stand in one order. -/
theorem wpLS_skip {o : Oper} {rest : List Oper} {a : Act} {w w' : World} (hg : o.guard = none) (hr : (execOp a.eval o).run P w = .ok .skip w') (hd : o.dst = none) (hS : S w') (h : wpLS P ops Q S rest a w') : wpLS P ops Q S (o :: rest) a w := by
  unfold wpLS
  rw [if_pos (by simp [Region.wanted, hg])]
  unfold Oper.wp
  rw [hr]
  refine ⟨hS, ?_⟩
  rw [hd]
  exact h
end
end Go.Proofs.Ytomclhbekmcaeaa
namespace Go.Proofs.Ytomclhbekmcaeaa
open Go.RowKit

section
variable {P : Program} {ops : Array Oper} {C : World → Prop} {Q : Act → Prop} {op : Oper} {rest : List Oper} {act : Act}
theorem wpQuiet_valG (hw : Region.wanted op (yielded ops act.tmps) = true) (v : Value) (hv : ∀ w, C w → (execOp act.eval op).run P w = .ok (.value v) w)
    (hk : wpQuiet P ops C Q rest (act.put op.dst v)) : wpQuiet P ops C Q (op :: rest) act :=
  wpQuiet_step fun K hK => by
    rw [if_pos hw]
    exact ⟨v, fun w hw => by unfold Oper.quietAt; rw [hv w hw]; exact ⟨rfl, rfl⟩, hK _ hk⟩
end
/-- What is left of a region that draws its order, where all that is left answers one value each in every world in which nothing has turned. -/
theorem wpAnyH_calm {P : Program} {md : Region.Mode} {ops : Array Oper} {C S : World → Prop} {Q : Act → Prop} {Q' : Exit → Act → World → Prop} (hQ : ∀ a w, C w → Q a → Q' .normal a w) (hS : ∀ w, C w → S w) :
    ∀ (fuel : Nat) (listed : Array Bool) (a : Act) (w : World), C w → wpAnyQ P md ops C Q fuel listed a → wpAnyH P md ops Q' S fuel listed a w
  | 0, _, _, _, hw, h => ⟨h.1, hQ _ _ hw h.2⟩
  | fuel + 1, _, _, _, hw, h => ⟨fun h0 => hQ _ _ hw (h.1 h0), fun i hi => wpOp_of_qOp hw (fun a' w' hw' hh => ⟨hS _ hw', wpAnyH_calm hQ hS fuel _ a' w' hw' hh⟩) (h.2 i hi)⟩
theorem wpAnyH_rest {P : Program} {l : List Oper} {wc w : World} {Q : Exit → Act → World → Prop} {fuel : Nat} {listed : Array Bool} {a : Act} (k : Nat) (hf : fuel = (l.drop k).length) (hs : Region.noSelect l.toArray = true)
    (hB : Region.lexFrom .any l.toArray (l.drop k).length k listed = true) (hC : New wc w) (h : wpQuiet P l.toArray (fun w' => ∃ y : NewW wc, w' = y.val) (fun a' => ∀ w', New wc w' → Q .normal a' w') (l.drop k) a) :
    wpAnyH P .any l.toArray Q (fun w' => New wc w') fuel listed a w := by
  subst hf
  refine wpAnyH_calm (C := fun w' => ∃ y : NewW wc, w' = y.val) (Q := fun a' => ∀ w', New wc w' → Q .normal a' w') (fun a' w' hw' hq => ?_) (fun w' hw' => ?_) _ _ _ _ ⟨⟨w, hC⟩, rfl⟩ ?_
  · obtain ⟨y, rfl⟩ := hw'; exact hq _ y.property
  · obtain ⟨y, rfl⟩ := hw'; exact y.property
  · exact wpAnyQ_lex hs (l.drop k) k listed a (fun j => by simp [List.getElem?_drop]) hB h
end Go.Proofs.Ytomclhbekmcaeaa
