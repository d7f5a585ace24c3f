/-
  A region that draws its order, whose first operations only make new memory and answer a fixed value, whose next one makes a new variable at whatever time, and whose last ones wait for all of those and stand in one order. No program stands in this text.
-/
import Derived.Test.YtdghhedenjgjiaaGreatDoorOrder
import Derived.Test.YtdghhedenjgjiaaGreatDoorBlocks
namespace Go.Proofs.YtdghhedenjgjiaaGreatDoor
open Go.RowKit

section
variable {P : Program} {ops : Array Oper} {md : Region.Mode}
theorem quietUpon_mono {C D : World → Prop} {w : World} {v : Value} {r : Result Next} (h : ∀ w, C w → D w) (hh : Oper.quietUpon P C w v r) : Oper.quietUpon P D w v r := by
  cases r with
  | ok n w' =>
    cases n <;> simp only [Oper.quietUpon] at hh ⊢
    all_goals first | exact hh | exact ⟨hh.1, hh.2.mono fun e w'' ⟨h1, h2⟩ => ⟨h1, h _ h2⟩⟩
  | halt x w' => exact hh
/-- In every world that has grown out of W0: the value, and nothing that was there turned. -/
def QN (P : Program) (W0 : World) (o : Oper) (a : Act) (v : Value) : Prop := ∀ w, New W0 w → o.quietAt P a (fun w'' => New w w'') w v
def wpQN (P : Program) (ops : Array Oper) (W0 : World) (Q : Act → Prop) : List Oper → Act → Prop
  | [], a => Q a
  | o :: rest, a => if Region.wanted o (yielded ops a.tmps) then ∃ v, QN P W0 o a v ∧ wpQN P ops W0 Q rest (a.put o.dst v) else wpQN P ops W0 Q rest (a.put o.dst undef)
theorem wpQN_mono {W0 : World} {Q Q' : Act → Prop} (h : ∀ a, Q a → Q' a) : ∀ (l : List Oper) (a : Act), wpQN P ops W0 Q l a → wpQN P ops W0 Q' l a
  | [], a, hh => h a hh
  | o :: l, a, hh => by
    unfold wpQN at hh ⊢
    split
    · next hw =>
      rw [if_pos hw] at hh
      obtain ⟨v, h1, h2⟩ := hh
      exact ⟨v, h1, wpQN_mono h l _ h2⟩
    · next hw =>
      rw [if_neg hw] at hh
      exact wpQN_mono h l _ hh
abbrev cls (w : World) : World → Prop := fun w' => New w w'
theorem QN.cls {W0 w1 : World} {o : Oper} {a : Act} {v : Value} (h : QN P W0 o a v) (hn : New W0 w1) : ∀ w, cls w1 w → o.quietAt P a (cls w1) w v := fun w hw => quietUpon_mono (fun _ hw' => New.trans hw hw') (h w (hn.trans hw))
/-- What an operation yields in a class, at every class of grown worlds. -/
def YieldsAll (P : Program) (ops : Array Oper) (W0 : World) (o : Oper) (v : Value) (a : Act) : Prop :=
  (Region.wanted o (yielded ops a.tmps) = true ∧ QN P W0 o a v) ∨ (Region.wanted o (yielded ops a.tmps) = false ∧ v = undef)
theorem YieldsAll.at {W0 w1 : World} {o : Oper} {v : Value} {a : Act} (h : YieldsAll P ops W0 o v a) (hn : New W0 w1) : YieldsIn P ops (cls w1) o v a :=
  h.imp (fun ⟨h1, h2⟩ => ⟨h1, h2.cls hn⟩) id
theorem YieldsAll.of_same {W0 : World} {o : Oper} {v : Value} {a a' : Act} (hy : YieldsAll P ops W0 o v a) (he : execOp a'.eval o = execOp a.eval o)
    (hw : Region.wanted o (yielded ops a'.tmps) = Region.wanted o (yielded ops a.tmps)) : YieldsAll P ops W0 o v a' := by
  unfold YieldsAll QN Oper.quietAt at *
  rw [he, hw]
  exact hy
/-- The new variable's place among the operations is k. -/
def gB (md : Region.Mode) (ops : Array Oper) (k : Nat) : Nat → Array Bool → Bool
  | 0, listed => (Region.ready md ops listed == [k]) && prefB md ops (k + 1) 0 (listed.setIfInBounds k true)
  | n + 1, listed => (Region.ready md ops listed).contains k && prefB md ops (k + 1) (n + 1) (listed.setIfInBounds k true) && (Region.ready md ops listed).all fun j => (j == k) || (decide (j < k) && gB md ops k n (listed.setIfInBounds j true))
theorem gB_succ {k n : Nat} {listed : Array Bool} (h : gB md ops k (n + 1) listed = true) : k ∈ Region.ready md ops listed ∧ prefB md ops (k + 1) (n + 1) (listed.setIfInBounds k true) = true ∧ ∀ j ∈ Region.ready md ops listed, j ≠ k → gB md ops k n (listed.setIfInBounds j true) = true := by
  rw [gB, Bool.and_eq_true, Bool.and_eq_true] at h
  refine ⟨by simpa using h.1.1, h.1.2, fun j hj hjk => ?_⟩
  have := List.all_eq_true.mp h.2 j hj
  rw [Bool.or_eq_true, Bool.and_eq_true] at this
  rcases this with e | e
  · exact absurd (by simpa using e) hjk
  · exact e.2
theorem gB_zero {k : Nat} {listed : Array Bool} (h : gB md ops k 0 listed = true) : Region.ready md ops listed = [k] := by
  rw [gB, Bool.and_eq_true] at h
  simpa using h.1
variable {W0 : World} {o : Obj} {Q : Exit → Act → World → Prop} {m k : Nat}
/-- The new variable is made now; then the n quiet ones that are left; then the rest. -/
def nowG (P : Program) (md : Region.Mode) (ops : Array Oper) (Q : Exit → Act → World → Prop) (W0 : World) (o : Obj) (m k : Nat) (dst : Option Tmp) (n : Nat) (listed : Array Bool) (a : Act) : Prop :=
  ∀ w1, New W0 w1 → wpAnyP P md ops (cls (w1.alloc o)) (fun listed a => ∀ w', New (w1.alloc o) w' → wpAny P md ops Q m listed a w') n (listed.setIfInBounds k true) (a.put dst (.pointer (some ⟨w1.heap.size, 0, none⟩)))
def wpAnyG (P : Program) (md : Region.Mode) (ops : Array Oper) (Q : Exit → Act → World → Prop) (W0 : World) (o : Obj) (m k : Nat) (dst : Option Tmp) : Nat → Array Bool → Act → Prop
  | 0, listed, a => nowG P md ops Q W0 o m k dst 0 listed a
  | n + 1, listed, a => nowG P md ops Q W0 o m k dst (n + 1) listed a ∧ ∀ i ∈ Region.ready md ops listed, i ≠ k → qOp P ops (cls W0) i (wpAnyG P md ops Q W0 o m k dst n (listed.setIfInBounds i true)) a
theorem wpAnyG_now {dst : Option Tmp} {n : Nat} {listed : Array Bool} {a : Act} (h : wpAnyG P md ops Q W0 o m k dst n listed a) : nowG P md ops Q W0 o m k dst n listed a := by
  cases n with
  | zero => exact h
  | succ n => exact h.1
theorem wpAny_of_G {ok : Oper} (hk : ops[k]? = some ok) (hg : ok.guard = none) (hrun : ∀ (a : Act) (w : World), (execOp a.eval ok).run P w = .ok (.value (.pointer (some ⟨w.heap.size, 0, none⟩))) (w.alloc o)) :
    ∀ (n : Nat) (listed : Array Bool) (a : Act) (w : World), gB md ops k n listed = true → New W0 w → wpAnyG P md ops Q W0 o m k ok.dst n listed a → wpAny P md ops Q (n + 1 + m) listed a w := by
  have now : ∀ (n : Nat) (listed : Array Bool) (a : Act) (w : World), New W0 w → nowG P md ops Q W0 o m k ok.dst n listed a → wpOp P ops Q k (wpAny P md ops Q (n + m) (listed.setIfInBounds k true)) a w := by
    intro n listed a w hw h
    unfold wpOp
    simp only [hk, Region.wanted, hg, if_true]
    refine .inl ?_
    unfold Oper.wp
    rw [hrun a w]
    simp only [Oper.upon]
    exact wpAny_of_prefix (C := cls (w.alloc o)) (R := fun listed a => ∀ w', New (w.alloc o) w' → wpAny P md ops Q m listed a w') (fun l a' w' hw' hh => hh w' hw') n _ _ _ (New.refl _) (h w hw)
  intro n
  induction n with
  | zero =>
    intro listed a w hb hw h
    have hz := gB_zero hb
    rw [show 0 + 1 + m = (0 + m) + 1 by omega]
    refine ⟨fun he => (by rw [hz] at he; cases he), fun i hi => ?_⟩
    rw [hz] at hi
    obtain rfl := List.mem_singleton.mp hi
    exact now 0 listed a w hw h
  | succ n ih =>
    intro listed a w hb hw h
    obtain ⟨hck, _, hbj⟩ := gB_succ hb
    rw [show n + 1 + 1 + m = (n + 1 + m) + 1 by omega]
    refine ⟨fun he => (by rw [he] at hck; cases hck), fun i hi => ?_⟩
    by_cases e : i = k
    · subst e
      exact now (n + 1) listed a w hw h.1
    · exact wpOp_of_qOp (C := cls W0) hw (fun a' w' hw' hh => ih _ a' w' (hbj i hi e) hw' hh) (h.2 i hi e)
theorem wpAnyG_first {i : Nat} {oi ok : Oper} {v : Value} (hi : ops[i]? = some oi) (hik : i ≠ k) (hsel : ∀ (j : Nat) (o : Oper) cs b, ops[j]? = some o → o.op ≠ .select cs b) (hap : ok.apart ops oi = true) :
    ∀ (n : Nat) (listed : Array Bool) (a : Act), gB md ops k (n + 1) listed = true →
      (∀ j oj, ops[j]? = some oj → j ≠ i → listed.getD j true = false → (∀ e ∈ oj.after, Region.binds md e = true → e.on ≠ i) → oi.apart ops oj = true) →
      i ∈ Region.ready md ops listed → YieldsAll P ops W0 oi v a →
      wpAnyG P md ops Q W0 o m k ok.dst n (listed.setIfInBounds i true) (a.put oi.dst v) → wpAnyG P md ops Q W0 o m k ok.dst (n + 1) listed a := by
  obtain ⟨p1, p2, p3⟩ := Oper.apart_spec hap
  have nowF : ∀ (n : Nat) (listed : Array Bool) (a : Act), prefB md ops (k + 1) (n + 1) (listed.setIfInBounds k true) = true →
      (∀ j oj, ops[j]? = some oj → j ≠ i → listed.getD j true = false → (∀ e ∈ oj.after, Region.binds md e = true → e.on ≠ i) → oi.apart ops oj = true) →
      i ∈ Region.ready md ops listed → YieldsAll P ops W0 oi v a → nowG P md ops Q W0 o m k ok.dst n (listed.setIfInBounds i true) (a.put oi.dst v) → nowG P md ops Q W0 o m k ok.dst (n + 1) listed a := by
    intro n listed a hp hfree hr hy H w1 hw1
    refine wpAnyP_first (k + 1) hi hsel n _ _ hp ?_ (ready_mono hr hik) ((hy.of_same (execOp_put oi (fun cs b => hsel i oi cs b hi) a ok.dst _ p1) (wanted_put oi a ok.dst _ p1)).at (hw1.alloc o)) ?_
    · intro j oj hj hji hun hno
      refine hfree j oj hj hji ?_ hno
      by_cases hjk : k = j
      · subst hjk
        have : (listed.setIfInBounds k true).getD k true = true := by simp [Array.getD]
        rw [this] at hun
        cases hun
      · rw [getD_set_ne true hjk] at hun; exact hun
    · have := H w1 hw1
      rw [Array.setIfInBounds_comm _ _ hik] at this
      rw [Act.put_comm a (x := ok.dst) (y := oi.dst) _ _ p2]
      exact this
  intro n
  induction n with
  | zero =>
    intro listed a hb hfree hr hy H
    obtain ⟨_, hb1, hbj⟩ := gB_succ hb
    refine ⟨nowF 0 listed a hb1 hfree hr hy H, fun j hj hjk => ?_⟩
    by_cases hji : j = i
    · subst hji
      exact (hy.at (New.refl _)).qOp hi H
    · exfalso
      have h1 := ready_mono hj hji
      rw [gB_zero (hbj i hr hik)] at h1
      exact hjk (List.mem_singleton.mp h1)
  | succ n ih =>
    intro listed a hb hfree hr hy H
    obtain ⟨_, hb1, hbj⟩ := gB_succ hb
    refine ⟨nowF (n + 1) listed a hb1 hfree hr hy H.1, fun j hj hjk => ?_⟩
    by_cases hji : j = i
    · subst hji
      exact (hy.at (New.refl _)).qOp hi H
    · have h1 := H.2 j (ready_mono hj hji) hjk
      obtain ⟨hjun, oj, hoj, hall⟩ := mem_ready.1 hj
      have hnot : ∀ e ∈ oj.after, Region.binds md e = true → e.on ≠ i := fun e he hb heq => by
        have h1 := hall e he hb
        have h0 := (mem_ready.1 hr).1
        rw [heq] at h1
        rcases Nat.lt_or_ge i listed.size with h' | h'
        · simp [h'] at h0 h1; rw [h0] at h1; cases h1
        · simp [Array.getElem?_eq_none h'] at h1
      have hapj := hfree j oj hoj hji hjun hnot
      have h2 := qOp_put hoj hapj (fun cs b => hsel i oi cs b hi) (fun cs b => hsel j oj cs b hoj) (hy.at (New.refl _)) h1
      obtain ⟨b1, b2, b3⟩ := Oper.apart_spec hapj
      have hfree' : ∀ k ok, ops[k]? = some ok → k ≠ i → (listed.setIfInBounds j true).getD k true = false →
          (∀ e ∈ ok.after, Region.binds md e = true → e.on ≠ i) → oi.apart ops ok = true := fun k ok hk hki hun hno => by
        refine hfree k ok hk hki ?_ hno
        by_cases hjk : j = k
        · subst hjk; exact hjun
        · rw [getD_set_ne true hjk] at hun; exact hun
      obtain ⟨u, hyu, hK⟩ := yieldsIn_of_qOp hoj (qOp_mono (fun a' h3 => h3.2) h2)
      refine hyu.qOp hoj ?_
      refine ih (listed.setIfInBounds j true) _ (hbj j hj hjk) hfree' (ready_mono hr (Ne.symm hji)) (hy.of_same (execOp_put oi (fun cs b => hsel i oi cs b hi) a oj.dst _ b3) (wanted_put oi a oj.dst _ b3)) ?_
      rw [Array.setIfInBounds_comm _ _ hji]
      exact hK
theorem wpAnyG_lex {ok : Oper} (hk : ops[k]? = some ok) (hs : Region.noSelect ops = true) : ∀ (l : List Oper) (i : Nat) (listed : Array Bool) (a : Act), (∀ j, j < l.length → l[j]? = ops[i + j]?) → i + l.length ≤ k → (∀ j, j < l.length → ∀ oj, l[j]? = some oj → ok.apart ops oj = true) →
    lexP md ops l.length i listed = true → gB md ops k l.length listed = true → wpQN P ops W0 (nowG P md ops Q W0 o m k ok.dst 0 (listedFrom l.length i listed)) l a → wpAnyG P md ops Q W0 o m k ok.dst l.length listed a
  | [], _, _, _, _, _, _, _, _, h => h
  | oi :: l, i, listed, a, hl, hlt, hap, hB, hp, h => by
    have h0 : ops[i]? = some oi := by simpa using (hl 0 (by simp)).symm
    simp only [List.length_cons, lexP, Bool.and_eq_true] at hB
    obtain ⟨⟨hr, hf⟩, hB'⟩ := hB
    have hr' : i ∈ Region.ready md ops listed := by simpa using hr
    have hik : i ≠ k := by simp at hlt; omega
    have hrec : ∀ v, wpQN P ops W0 (nowG P md ops Q W0 o m k ok.dst 0 (listedFrom l.length (i + 1) (listed.setIfInBounds i true))) l (a.put oi.dst v) → wpAnyG P md ops Q W0 o m k ok.dst l.length (listed.setIfInBounds i true) (a.put oi.dst v) := fun v hh =>
      wpAnyG_lex hk hs l (i + 1) _ _ (fun j hj => by have := hl (j + 1) (by simpa using hj); simpa [Nat.add_assoc, Nat.add_comm 1 j] using this) (by simp at hlt; omega) (fun j hj oj hoj => hap (j + 1) (by simpa using hj) oj (by simpa using hoj)) hB' ((gB_succ hp).2.2 i hr' hik) hh
    have fst : ∀ v, YieldsAll P ops W0 oi v a → wpQN P ops W0 (nowG P md ops Q W0 o m k ok.dst 0 (listedFrom l.length (i + 1) (listed.setIfInBounds i true))) l (a.put oi.dst v) → wpAnyG P md ops Q W0 o m k ok.dst (l.length + 1) listed a := fun v hy hh =>
      wpAnyG_first h0 hik (Region.noSelect_spec hs) (hap 0 (by simp) oi (by simp)) l.length listed a hp (Region.free_spec h0 hf) hr' hy (hrec v hh)
    unfold wpQN at h
    by_cases hw : Region.wanted oi (yielded ops a.tmps) = true
    · rw [if_pos hw] at h
      obtain ⟨v, h1, h2⟩ := h
      exact fst v (.inl ⟨hw, h1⟩) h2
    · rw [if_neg hw] at h
      exact fst undef (.inr ⟨by simpa using hw, rfl⟩) h
def apartB (ops : Array Oper) (ok : Oper) (l : List Oper) : Bool := l.all fun oj => ok.apart ops oj
/-- THE LAW: the first k quiet, a new variable at whatever time, the rest in the order of the text. -/
theorem wp_region_new1 {id : Nat} {a : Act} {w : World} {l : List Oper} {ok : Oper} (k : Nat) (o : Obj) (hk : l[k]? = some ok) (hg : ok.guard = none) (hrun : ∀ (a : Act) (w : World), (execOp a.eval ok).run P w = .ok (.value (.pointer (some ⟨w.heap.size, 0, none⟩))) (w.alloc o))
    (hC : New W0 w) (hm : P.follows .mixedOrders = true) (hs : Region.noSelect l.toArray = true) (hap : apartB l.toArray ok (l.take k) = true)
    (h1 : lexP .any l.toArray (l.take k).length 0 (Array.replicate l.toArray.size false) = true) (h2 : gB .any l.toArray k (l.take k).length (Array.replicate l.toArray.size false) = true)
    (h3 : forcedB .any l.toArray (l.drop (k + 1)).length (k + 1) ((listedFrom (l.take k).length 0 (Array.replicate l.toArray.size false)).setIfInBounds k true) = true)
    (h : wpQN P l.toArray W0 (fun a' => ∀ g w', W0.heap.size ≤ g → w'.heap[g]? = some o → New W0 w' → wpList P l.toArray Q (l.drop (k + 1)) (a'.put ok.dst (.pointer (some ⟨g, 0, none⟩))) w') (l.take k) a) : (Code.region id l.toArray true).wp P Q a w := by
  refine wp_region_any hm ?_
  have hkl : k < l.length := (List.getElem?_eq_some_iff.mp hk).1
  have hz : l.toArray.size = (l.take k).length + 1 + (l.drop (k + 1)).length := by simp [List.length_take, List.length_drop]; omega
  rw [hz] at h1 h2 h3 ⊢
  have hk' : l.toArray[k]? = some ok := by simpa using hk
  refine wpAny_of_G (W0 := W0) (o := o) (k := k) hk' hg hrun _ _ _ _ h2 hC.drew ?_
  refine wpAnyG_lex hk' hs _ 0 _ _ (fun j hj => ?_) (by simp [List.length_take]; omega) (fun j hj oj hoj => List.all_eq_true.mp hap oj (List.mem_of_getElem? hoj)) h1 h2 ?_
  · rw [Nat.zero_add, List.getElem?_take, if_pos (by simp [List.length_take] at hj; omega)]
    simp
  · refine wpQN_mono (fun a' hh => ?_) _ _ h
    intro w1 hw1 w' hw'
    refine wpAny_forced (l.drop (k + 1)) (k + 1) _ _ w' (fun j _ => by simp [List.getElem?_drop]) h3 ?_
    exact hh w1.heap.size w' hw1.size (hw'.heap (heap_alloc_new _ _)) ((hw1.alloc o).trans hw')
end
end Go.Proofs.YtdghhedenjgjiaaGreatDoor
