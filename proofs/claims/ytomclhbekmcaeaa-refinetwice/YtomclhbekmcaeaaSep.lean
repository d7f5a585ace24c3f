/-
  What a call owns: assertions on blocks of its own, each apart from the others and from all that was there; what new variables, stores, appends, callees make of them. Rows whose elements own rows of their own. No program stands in this text.
-/
import Derived.Test.YtomclhbekmcaeaaCells
import Derived.OwnWalk
import Derived.Great.BuildSlice
namespace Go.Proofs.Ytomclhbekmcaeaa
open Go.RowKit

theorem New.cell' {w w' : World} (h : New w w') {a : Addr} {v : Value} (hc : w.cell? a = some v) : w'.cell? a = some v := by
  have hlt : a.block < w.heap.size := by
    unfold World.cell? at hc
    cases hb : w.heap[a.block]? with
    | none => rw [hb] at hc; simp at hc
    | some o => exact heap_lt hb
  have := h.block a.block hlt
  unfold World.cell? at hc ⊢
  rw [this]
  exact hc
/-- What is said of some blocks, and hangs on no other. -/
structure Asn where
  on : World → (Nat → Prop) → Prop
  dep : ∀ {w w' : World} {F : Nat → Prop}, on w F → (∀ g, F g → w'.heap[g]? = w.heap[g]?) → on w' F
/-- Said side by side, of blocks of their own. -/
def SepF (w : World) : List Asn → (Nat → Prop) → Prop
  | [], _ => True
  | A :: l, F => ∃ F1 F2 : Nat → Prop, A.on w F1 ∧ SepF w l F2 ∧ (∀ g, F1 g → ¬ F2 g) ∧ (∀ g, F1 g → F g) ∧ (∀ g, F2 g → F g)
theorem SepF.more {w : World} : ∀ {l : List Asn} {F G : Nat → Prop}, SepF w l F → (∀ g, F g → G g) → SepF w l G
  | [], _, _, _, _ => trivial
  | _ :: _, _, _, ⟨F1, F2, a, b, c, d, e⟩, h => ⟨F1, F2, a, b, c, fun g x => h g (d g x), fun g x => h g (e g x)⟩
theorem SepF.dep {w w' : World} : ∀ {l : List Asn} {F : Nat → Prop}, SepF w l F → (∀ g, F g → w'.heap[g]? = w.heap[g]?) → SepF w' l F
  | [], _, _, _ => trivial
  | A :: _, _, ⟨F1, F2, a, b, c, d, e⟩, h => ⟨F1, F2, A.dep a fun g x => h g (d g x), b.dep fun g x => h g (e g x), c, d, e⟩
theorem SepF.pull {w : World} : ∀ {l : List Asn} {F : Nat → Prop} (i : Nat) {A : Asn}, SepF w l F → l[i]? = some A → SepF w (A :: l.eraseIdx i) F
  | [], _, i, _, _, h => by simp at h
  | B :: l, F, 0, A, h, hA => by
    simp at hA
    subst hA
    exact h
  | B :: l, F, i + 1, A, ⟨F1, F2, a, b, c, d, e⟩, hA => by
    simp at hA
    obtain ⟨G1, G2, a', b', c', d', e'⟩ := SepF.pull i b hA
    refine ⟨G1, fun g => F1 g ∨ G2 g, a', ⟨F1, G2, a, b', fun g x y => c g x (e' g y), fun g x => .inl x, fun g x => .inr x⟩, ?_, fun g x => e g (d' g x), ?_⟩
    · rintro g x (y | y)
      · exact c g y (d' g x)
      · exact c' g x y
    · rintro g (y | y)
      · exact d g y
      · exact e g (e' g y)
theorem SepF.app {w : World} : ∀ {l m : List Asn} {F G : Nat → Prop}, SepF w l F → SepF w m G → (∀ g, F g → ¬ G g) → SepF w (l ++ m) (fun g => F g ∨ G g)
  | [], _, _, _, _, h, _ => h.more fun _ x => .inr x
  | A :: l, m, F, G, ⟨F1, F2, a, b, c, d, e⟩, h, k => by
    refine ⟨F1, fun g => F2 g ∨ G g, a, SepF.app b h (fun g x y => k g (e g x) y), ?_, fun g x => .inl (d g x), ?_⟩
    · rintro g x (y | y)
      · exact c g x y
      · exact k g (d g x) y
    · rintro g (y | y)
      · exact .inl (e g y)
      · exact .inr y
/-- Nothing has turned but these blocks. -/
structure Mod (F : Nat → Prop) (w w' : World) : Prop where
  size : w.heap.size ≤ w'.heap.size
  block : ∀ g, g < w.heap.size → ¬ F g → w'.heap[g]? = w.heap[g]?
  below : ∀ w0 : World, (∀ g, F g → g < w.heap.size → w0.heap.size ≤ g) → New w0 w → New w0 w'
theorem Mod.of_new {F : Nat → Prop} {w w' : World} (h : New w w') : Mod F w w' := ⟨h.size, fun g hg _ => h.block g hg, fun _ _ n => n.trans h⟩
theorem Mod.of_kept {F : Nat → Prop} {g : Nat} {w w' : World} (h : Kept g w w') (hF : F g) (hg : g < w.heap.size) : Mod F w w' :=
  ⟨Nat.le_of_eq h.size.symm, fun k _ hn => h.other k fun e => hn (e ▸ hF), fun w0 h0 n => h.below w0 (h0 g hF hg) n⟩
theorem Mod.of_grown {F : Nat → Prop} {r : Option Nat} {w w' : World} (h : w.grownBy w' r) (hF : ∀ g, r = some g → F g ∧ g < w.heap.size) : Mod F w w' :=
  ⟨h.size, fun k hk hn => h.block k hk fun e => hn (hF k e.symm).1, fun _ h0 n => Below.grown n h n.size fun k hk => h0 k (hF k hk).1 (hF k hk).2⟩
/-- Nothing of w0 has turned, and these are the call's own. -/
def Sep (w0 w : World) (l : List Asn) : Prop := New w0 w ∧ ∃ F : Nat → Prop, SepF w l F ∧ ∀ g, F g → w0.heap.size ≤ g ∧ g < w.heap.size
/-- It can be read. -/
def Asn.rd (A : Asn) (w : World) : Prop := ∃ F : Nat → Prop, A.on w F ∧ ∀ g, F g → g < w.heap.size
section
variable {w0 w w' : World} {l m : List Asn} {A B C : Asn}
theorem Asn.rd.new (h : A.rd w) (n : New w w') : A.rd w' :=
  let ⟨F, a, b⟩ := h
  ⟨F, A.dep a fun g x => n.block g (b g x), fun g x => Nat.lt_of_lt_of_le (b g x) n.size⟩
theorem Sep.nw (h : Sep w0 w l) : New w0 w := h.1
theorem Sep.start (w : World) : Sep w w [] := ⟨New.refl w, fun _ => False, trivial, fun _ h => h.elim⟩
theorem Sep.of_new (h : New w0 w) : Sep w0 w [] := ⟨h, fun _ => False, trivial, fun _ h => h.elim⟩
theorem Sep.go (h : Sep w0 w l) (n : New w w') : Sep w0 w' l :=
  let ⟨a, F, b, c⟩ := h
  ⟨a.trans n, F, b.dep fun g x => n.block g (c g x).2, fun g x => ⟨(c g x).1, Nat.lt_of_lt_of_le (c g x).2 n.size⟩⟩
theorem Sep.pull (i : Nat) (h : Sep w0 w l) (hA : l[i]? = some A) : Sep w0 w (A :: l.eraseIdx i) :=
  let ⟨a, F, b, c⟩ := h
  ⟨a, F, b.pull i hA, c⟩
theorem Sep.drop (h : Sep w0 w (A :: l)) : Sep w0 w l :=
  let ⟨a, _, ⟨_, F2, _, b, _, _, e⟩, c⟩ := h
  ⟨a, F2, b, fun g x => c g (e g x)⟩
theorem Sep.call (h : Sep w0 w l) (k : Sep w w' m) : Sep w0 w' (m ++ l) := by
  obtain ⟨a, F, b, c⟩ := h
  obtain ⟨n, G, d, e⟩ := k
  refine ⟨a.trans n, fun g => G g ∨ F g, d.app (b.dep fun g x => n.block g (c g x).2) (fun g x y => ?_), ?_⟩
  · have := (e g x).1
    have := (c g y).2
    omega
  · rintro g (x | x)
    · exact ⟨Nat.le_trans a.size (e g x).1, (e g x).2⟩
    · exact ⟨(c g x).1, Nat.lt_of_lt_of_le (c g x).2 n.size⟩
theorem Sep.rd (i : Nat) (h : Sep w0 w l) (hA : l[i]? = some A) : A.rd w :=
  let ⟨_, _, ⟨F1, _, x, _, _, d, _⟩, c⟩ := h.pull i hA
  ⟨F1, x, fun g y => (c g (d g y)).2⟩
theorem Sep.hd (h : Sep w0 w (A :: l)) : A.rd w := h.rd 0 rfl
/-- The first one has turned, no other. -/
theorem Sep.upd (h : Sep w0 w (A :: l)) (hu : ∀ F : Nat → Prop, A.on w F → (∀ g, F g → g < w.heap.size) → ∃ F' : Nat → Prop, B.on w' F' ∧ (∀ g, F' g → F g ∨ (w.heap.size ≤ g ∧ g < w'.heap.size)) ∧ Mod F w w') : Sep w0 w' (B :: l) := by
  obtain ⟨a, F, ⟨F1, F2, x, y, z, d, e⟩, c⟩ := h
  obtain ⟨F', u, v, m⟩ := hu F1 x fun g hg => (c g (d g hg)).2
  refine ⟨m.below w0 (fun g hg _ => (c g (d g hg)).1) a, fun g => F' g ∨ F2 g, ⟨F', F2, u, y.dep fun g hg => m.block g (c g (e g hg)).2 fun h1 => z g h1 hg, fun g h1 h2 => ?_, fun g h1 => .inl h1, fun g h1 => .inr h1⟩, ?_⟩
  · rcases v g h1 with h3 | h3
    · exact z g h3 h2
    · have := (c g (e g h2)).2
      omega
  · rintro g (h1 | h1)
    · rcases v g h1 with h3 | h3
      · exact ⟨(c g (d g h3)).1, Nat.lt_of_lt_of_le (c g (d g h3)).2 m.size⟩
      · exact ⟨Nat.le_trans a.size h3.1, h3.2⟩
    · exact ⟨(c g (e g h1)).1, Nat.lt_of_lt_of_le (c g (e g h1)).2 m.size⟩
/-- It comes to the same. -/
theorem Sep.as (h : Sep w0 w (A :: l)) (hu : ∀ F : Nat → Prop, A.on w F → B.on w F) : Sep w0 w (B :: l) :=
  h.upd fun F x _ => ⟨F, hu F x, fun _ y => .inl y, Mod.of_new (New.refl w)⟩
/-- Something new. -/
theorem Sep.add (h : Sep w0 w l) (n : New w w') {F : Nat → Prop} (hA : A.on w' F) (hF : ∀ g, F g → w.heap.size ≤ g ∧ g < w'.heap.size) : Sep w0 w' (A :: l) :=
  h.call (m := [A]) ⟨n, F, ⟨F, fun _ => False, hA, trivial, fun _ _ h => h, fun _ h => h, fun _ h => h.elim⟩, hF⟩
/-- Two as one. -/
def Asn.star (A B : Asn) : Asn := ⟨fun w F => ∃ F1 F2 : Nat → Prop, A.on w F1 ∧ B.on w F2 ∧ (∀ g, F1 g → ¬ F2 g) ∧ (∀ g, F1 g → F g) ∧ (∀ g, F2 g → F g), fun ⟨F1, F2, a, b, c, d, e⟩ h => ⟨F1, F2, A.dep a fun g x => h g (d g x), B.dep b fun g x => h g (e g x), c, d, e⟩⟩
theorem Sep.join (h : Sep w0 w (A :: B :: l)) : Sep w0 w (A.star B :: l) := by
  obtain ⟨a, F, ⟨F1, F2, x, ⟨G1, G2, x', y', z', d', e'⟩, z, d, e⟩, c⟩ := h
  refine ⟨a, F, ⟨fun g => F1 g ∨ G1 g, G2, ⟨F1, G1, x, x', fun g h1 h2 => z g h1 (d' g h2), fun g h => .inl h, fun g h => .inr h⟩, y', ?_, ?_, fun g h => e g (e' g h)⟩, c⟩
  · rintro g (h | h) h2
    · exact z g h (e' g h2)
    · exact z' g h h2
  · rintro g (h | h)
    · exact d g h
    · exact e g (d' g h)
theorem Sep.split (h : Sep w0 w (A.star B :: l)) : Sep w0 w (A :: B :: l) := by
  obtain ⟨a, F, ⟨F1, F2, ⟨G1, G2, x', y', z', d', e'⟩, y, z, d, e⟩, c⟩ := h
  refine ⟨a, F, ⟨G1, fun g => G2 g ∨ F2 g, x', ⟨G2, F2, y', y, fun g h => z g (e' g h), fun g h => .inl h, fun g h => .inr h⟩, ?_, fun g h => d g (d' g h), ?_⟩, c⟩
  · rintro g h (h2 | h2)
    · exact z' g h h2
    · exact z g (d' g h) h2
  · rintro g (h | h)
    · exact d g (e' g h)
    · exact e g h
/-- What hangs on no block. -/
def Asn.say (p : Prop) : Asn := ⟨fun _ _ => p, fun h _ => h⟩
theorem Sep.say {p : Prop} (h : Sep w0 w l) (hp : p) : Sep w0 w (Asn.say p :: l) := h.add (F := fun _ => False) (New.refl w) hp (fun _ h => h.elim)
theorem Sep.said {p : Prop} (h : Sep w0 w (Asn.say p :: l)) : p ∧ Sep w0 w l :=
  let ⟨_, a, _⟩ := h.hd
  ⟨a, h.drop⟩
def Asn.ex {ι : Type} (P : ι → Asn) : Asn := ⟨fun w F => ∃ i, (P i).on w F, fun ⟨i, h⟩ k => ⟨i, (P i).dep h k⟩⟩
theorem Sep.un {ι : Type} {P : ι → Asn} (h : Sep w0 w (Asn.ex P :: l)) : ∃ i, Sep w0 w (P i :: l) :=
  let ⟨a, F, ⟨F1, F2, ⟨i, x⟩, y⟩, c⟩ := h
  ⟨i, a, F, ⟨F1, F2, x, y⟩, c⟩
/-- A block. -/
def blk (g : Nat) (ty : TypeId) (cs : List Value) : Asn := ⟨fun w F => HasC w g ty cs ∧ F g, fun ⟨a, b⟩ h => ⟨(h g b).trans a, b⟩⟩
def objA (g : Nat) (o : Obj) : Asn := ⟨fun w F => w.heap[g]? = some o ∧ F g, fun ⟨a, b⟩ h => ⟨(h g b).trans a, b⟩⟩
variable {g : Nat} {ty : TypeId} {cs cs' : List Value} {o o' : Obj}
theorem Sep.has (i : Nat) (h : Sep w0 w l) (hA : l[i]? = some (blk g ty cs)) : HasC w g ty cs :=
  let ⟨_, a, _⟩ := h.rd i hA
  a.1
theorem Sep.obj (i : Nat) (h : Sep w0 w l) (hA : l[i]? = some (objA g o)) : w.heap[g]? = some o :=
  let ⟨_, a, _⟩ := h.rd i hA
  a.1
theorem Sep.far (i : Nat) (h : Sep w0 w l) (hA : l[i]? = some (blk g ty cs)) : w0.heap.size ≤ g :=
  let ⟨_, _, ⟨_, _, x, _, _, d, _⟩, c⟩ := h.pull i hA
  (c g (d g x.2)).1
theorem Sep.cell (i : Nat) (h : Sep w0 w l) (hA : l[i]? = some (blk g ty cs)) {k : Nat} {v : Value} (hk : cs[k]? = some v) : w.cell? ⟨g, k, none⟩ = some v := (h.has i hA).cell hk
theorem Sep.new (h : Sep w0 w l) (n : New w w') (hg : w.heap.size ≤ g) (H : HasC w' g ty cs) : Sep w0 w' (blk g ty cs :: l) :=
  h.add (F := fun k => k = g) n ⟨H, rfl⟩ fun k e => by
    subst e
    exact ⟨hg, H.lt⟩
theorem Sep.newO (h : Sep w0 w l) (n : New w w') (hg : w.heap.size ≤ g) (H : w'.heap[g]? = some o) : Sep w0 w' (objA g o :: l) :=
  h.add (F := fun k => k = g) n ⟨H, rfl⟩ fun k e => by
    subst e
    exact ⟨hg, heap_lt H⟩
theorem Sep.set (h : Sep w0 w (blk g ty cs :: l)) (k : Kept g w w') (H : HasC w' g ty cs') : Sep w0 w' (blk g ty cs' :: l) :=
  h.upd fun F x hF => ⟨F, ⟨H, x.2⟩, fun _ y => .inl y, Mod.of_kept k x.2 (hF g x.2)⟩
theorem Sep.setO (h : Sep w0 w (objA g o :: l)) (k : Kept g w w') (H : w'.heap[g]? = some o') : Sep w0 w' (objA g o' :: l) :=
  h.upd fun F x hF => ⟨F, ⟨H, x.2⟩, fun _ y => .inl y, Mod.of_kept k x.2 (hF g x.2)⟩
end
/-! Rows. -/
theorem owned_dep {w w' : World} {B k n : Nat} {e : TypeId} {v : Value} {xs : List Value} (h : w.ownsRow B e k v n xs) (hb : ∀ b, v.ownBlock = some b → w'.heap[b]? = w.heap[b]?) : w'.ownsRow B e k v n xs :=
  ⟨h.1, h.2.imp id fun ⟨b, cap, cur, h1, h2, h3, h4⟩ => ⟨b, cap, cur, h1, h2, (hb b (by rw [h1]; rfl)).trans h3, h4⟩⟩
/-- A row, each of whose elements, of k cells, stands for something, and may own more. -/
def rowA (e : TypeId) (k : Nat) {α : Type} (E : α → List Value → Asn) (v : Value) (xs : List α) : Asn :=
  ⟨fun w F => ∃ gs : List (List Value), gs.length = xs.length ∧ (∀ c ∈ gs, c.length = k) ∧ w.ownsRow 0 e k v xs.length gs.flatten ∧
    ∃ F1 F2 : Nat → Prop, (∀ b, v.ownBlock = some b → F1 b) ∧ SepF w (List.zipWith E xs gs) F2 ∧ (∀ g, F1 g → ¬ F2 g) ∧ (∀ g, F1 g → F g) ∧ (∀ g, F2 g → F g),
   fun ⟨gs, a, b, c, F1, F2, d, s, x, y, z⟩ h => ⟨gs, a, b, owned_dep c fun b hb => h b (y b (d b hb)), F1, F2, d, s.dep fun g hg => h g (z g hg), x, y, z⟩⟩
/-- A row whose element i, of the cells c, has been taken out. -/
def holeA (e : TypeId) (k : Nat) {α : Type} (E : α → List Value → Asn) (v : Value) (xs : List α) (i : Nat) (c : List Value) : Asn :=
  ⟨fun w F => ∃ gs : List (List Value), gs.length = xs.length ∧ (∀ c ∈ gs, c.length = k) ∧ w.ownsRow 0 e k v xs.length gs.flatten ∧ gs[i]? = some c ∧
    ∃ F1 F2 : Nat → Prop, (∀ b, v.ownBlock = some b → F1 b) ∧ SepF w ((List.zipWith E xs gs).eraseIdx i) F2 ∧ (∀ g, F1 g → ¬ F2 g) ∧ (∀ g, F1 g → F g) ∧ (∀ g, F2 g → F g),
   fun ⟨gs, a, b, c, q, F1, F2, d, s, x, y, z⟩ h => ⟨gs, a, b, owned_dep c fun b hb => h b (y b (d b hb)), q, F1, F2, d, s.dep fun g hg => h g (z g hg), x, y, z⟩⟩
theorem flatten_len {k : Nat} : ∀ {gs : List (List Value)}, (∀ c ∈ gs, c.length = k) → gs.flatten.length = gs.length * k
  | [], _ => by simp
  | c :: gs, h => by
    rw [List.flatten_cons, List.length_append, flatten_len (gs := gs) fun d hd => h d (by simp [hd]), h c (by simp), List.length_cons, Nat.succ_mul, Nat.add_comm]
theorem flatten_at {k : Nat} : ∀ {gs : List (List Value)} {i j : Nat} {c : List Value}, (∀ c ∈ gs, c.length = k) → gs[i]? = some c → j < k → gs.flatten[i * k + j]? = c[j]?
  | [], _, _, _, _, h, _ => by simp at h
  | d :: gs, 0, j, c, hl, h, hj => by
    simp at h
    subst h
    rw [List.flatten_cons, Nat.zero_mul, Nat.zero_add, List.getElem?_append_left (by rw [hl d (by simp)]; exact hj)]
  | d :: gs, i + 1, j, c, hl, h, hj => by
    simp at h
    have hd := hl d (by simp)
    rw [List.flatten_cons, List.getElem?_append_right (by rw [hd, Nat.succ_mul]; omega), hd, show (i + 1) * k + j - k = i * k + j by rw [Nat.succ_mul]; omega]
    exact flatten_at (fun c hc => hl c (by simp [hc])) h hj
theorem flatten_set {k : Nat} : ∀ {gs : List (List Value)} {i : Nat} {c : List Value} (c' : List Value), (∀ c ∈ gs, c.length = k) → gs[i]? = some c → c'.length = k → gs.flatten.take (i * k) ++ c' ++ gs.flatten.drop (i * k + k) = (gs.set i c').flatten
  | [], _, _, _, _, h, _ => by simp at h
  | d :: gs, 0, c, c', hl, h, hc => by
    have hd := hl d (by simp)
    rw [List.flatten_cons, Nat.zero_mul, Nat.zero_add, List.take_zero, List.nil_append, List.drop_append, hd, Nat.sub_self, List.drop_zero, List.drop_of_length_le (by omega), List.nil_append]
    rfl
  | d :: gs, i + 1, c, c', hl, h, hc => by
    simp at h
    have hd := hl d (by simp)
    have ih := flatten_set (gs := gs) c' (fun c hc => hl c (by simp [hc])) h hc
    rw [List.set_cons_succ, List.flatten_cons, List.flatten_cons, ← ih, List.take_append, List.drop_append, hd, List.take_of_length_le (by rw [hd, Nat.succ_mul]; omega), List.drop_of_length_le (by rw [hd, Nat.succ_mul]; omega), show (i + 1) * k - k = i * k by rw [Nat.succ_mul]; omega, show (i + 1) * k + k - k = i * k + k by rw [Nat.succ_mul]; omega]
    simp [List.append_assoc]
section
variable {w0 w w' : World} {l : List Asn} {α : Type} {E : α → List Value → Asn} {e : TypeId} {k : Nat} {v : Value} {xs : List α}
theorem Sep.row0 (h : Sep w0 w l) (e : TypeId) (k : Nat) (E : α → List Value → Asn) : Sep w0 w (rowA e k E (.slice none 0 0) [] :: l) :=
  h.add (F := fun _ => False) (New.refl w) ⟨[], rfl, by simp, World.ownsRow_nil w 0 e k, fun _ => False, fun _ => False, by simp [Value.ownBlock], trivial, fun _ h => h.elim, fun _ h => h, fun _ h => h⟩ (fun _ h => h.elim)
theorem rowA_form (h : (rowA e k E v xs).rd w) : ∃ ao cap, v = .slice ao xs.length cap := by
  obtain ⟨F, ⟨gs, a, b, c, _⟩, _⟩ := h
  rcases c.2 with ⟨h1, h2⟩ | ⟨g, cap, cur, h1, _⟩
  · exact ⟨none, 0, by rw [h1, h2]⟩
  · exact ⟨_, _, h1⟩
/-- An element, read. -/
theorem rowA_at (h : (rowA e k E v xs).rd w) {i : Nat} {x : α} (hi : xs[i]? = some x) : ∃ b cap c, v = .slice (some ⟨b, 0, none⟩) xs.length cap ∧ c.length = k ∧ w.rangeAt b (i * k) c ∧ (E x c).rd w := by
  obtain ⟨F, ⟨gs, a, b, c, F1, F2, d, s, z1, z2, z3⟩, hF⟩ := h
  have hlt := (List.getElem?_eq_some_iff.mp hi).1
  rcases c.2 with ⟨h1, h2⟩ | ⟨g, cap, cur, h1, h2, h3, h4, h5, h6, h7⟩
  · omega
  · have hg : gs[i]? = some gs[i] := List.getElem?_eq_getElem (by omega)
    refine ⟨g, cap, gs[i], h1, b _ (List.getElem_mem _), fun j u hu => ?_, ?_⟩
    · have hj : j < k := by rw [← b _ (List.getElem_mem (by omega : i < gs.length))]; exact (List.getElem?_eq_some_iff.mp hu).1
      have := c.cells (g := g) (by rw [h1]; rfl) (i * k + j) u (by rw [flatten_at b hg hj]; exact hu)
      rw [Addr.add_mid, Nat.zero_add] at this
      exact this
    · have hz : (List.zipWith E xs gs)[i]? = some (E x gs[i]) := by rw [List.getElem?_zipWith, hi, hg]
      obtain ⟨G1, G2, y1, _, _, y2, _⟩ := s.pull i hz
      exact ⟨G1, y1, fun g hg => hF g (z3 g (y2 g hg))⟩
theorem zip_snoc {gs : List (List Value)} (hl : gs.length = xs.length) (y : α) (c : List Value) : List.zipWith E (xs ++ [y]) (gs ++ [c]) = List.zipWith E xs gs ++ [E y c] := by
  rw [List.zipWith_append hl.symm]
  rfl
/-- One element more, its cells and what they own: the row as the run of an append leaves it. -/
theorem rowA_more {F G : Nat → Prop} {y : α} {cs : List Value} {v' : Value} (h : (rowA e k E v xs).on w F) (hy : (E y cs).on w G) (hd : ∀ g, G g → ¬ F g) (hF : ∀ g, F g → g < w.heap.size) (hG : ∀ g, G g → g < w.heap.size) (hl : cs.length = k)
    (ho : ∀ gs : List (List Value), w.ownsRow 0 e k v xs.length gs.flatten → w'.ownsRow 0 e k v' (xs.length + 1) (gs.flatten ++ cs)) (hg : w.grownBy w' v.ownBlock) (hw : v'.ownBlock = v.ownBlock ∨ v'.ownBlock = some w.heap.size) :
    ∃ F' : Nat → Prop, (rowA e k E v' (xs ++ [y])).on w' F' ∧ (∀ g, F' g → (G g ∨ F g) ∨ (w.heap.size ≤ g ∧ g < w'.heap.size)) ∧ Mod (fun g => G g ∨ F g) w w' := by
  obtain ⟨gs, a, b, c, F1, F2, d, s, z1, z2, z3⟩ := h
  have hown := ho gs c
  have hlt : ∀ b, v'.ownBlock = some b → b < w'.heap.size := by
    intro b hb
    rcases hown.2 with ⟨h1, _⟩ | ⟨g, cap, cur, h1, _, h3, _⟩
    · rw [h1] at hb
      cases hb
    · rw [h1] at hb
      simp only [Value.ownBlock, Option.some.injEq] at hb
      rw [← hb]
      exact heap_lt h3
  have hm : Mod (fun g => G g ∨ F g) w w' := Mod.of_grown hg fun g e => ⟨.inr (z2 g (d g e)), hF g (z2 g (d g e))⟩
  have hne : ∀ g, g < w.heap.size → ¬ F1 g → w'.heap[g]? = w.heap[g]? := fun g h1 h2 => hg.block g h1 fun e => h2 (d g e.symm)
  refine ⟨fun g => (G g ∨ F g) ∨ v'.ownBlock = some g, ⟨gs ++ [cs], by simp [a], ?_, ?_, fun g => F1 g ∨ v'.ownBlock = some g, fun g => F2 g ∨ G g, fun b hb => .inr hb, ?_, ?_, ?_, ?_⟩, ?_, hm⟩
  · intro c hc
    rw [List.mem_append] at hc
    rcases hc with hc | hc
    · exact b c hc
    · simp at hc
      rw [hc, hl]
  · rw [List.length_append, List.flatten_append]
    simpa using hown
  · rw [zip_snoc a]
    refine (s.dep fun g hg => hne g (hF g (z3 g hg)) fun h1 => z1 g h1 hg).app (G := G) ⟨G, fun _ => False, (E y cs).dep hy fun g hg => hne g (hG g hg) fun h1 => hd g hg (z2 g h1), trivial, fun _ _ h => h, fun _ h => h, fun _ h => h.elim⟩ fun g h1 h2 => hd g h2 (z3 g h1)
  · rintro g (h1 | h1) (h2 | h2)
    · exact z1 g h1 h2
    · exact hd g h2 (z2 g h1)
    · rcases hw with e | e
      · exact z1 g (d g (e ▸ h1)) h2
      · rw [e] at h1
        have := hF g (z3 g h2)
        simp at h1
        omega
    · rcases hw with e | e
      · exact hd g h2 (z2 g (d g (e ▸ h1)))
      · rw [e] at h1
        have := hG g h2
        simp at h1
        omega
  · rintro g (h1 | h1)
    · exact .inl (.inr (z2 g h1))
    · exact .inr h1
  · rintro g (h1 | h1)
    · exact .inl (.inr (z3 g h1))
    · exact .inl (.inl h1)
  · rintro g (h1 | h1)
    · exact .inl h1
    · rcases hw with e | e
      · exact .inl (.inr (z2 g (d g (e ▸ h1))))
      · right
        rw [e] at h1
        simp at h1
        subst h1
        exact ⟨Nat.le_refl _, hlt _ e⟩
theorem eraseIdx_set {β : Type} : ∀ (l : List β) (i : Nat) (y : β), (l.set i y).eraseIdx i = l.eraseIdx i
  | [], _, _ => rfl
  | _ :: _, 0, _ => rfl
  | a :: l, i + 1, y => by simp [eraseIdx_set l i y]
/-- An element taken out. -/
theorem Sep.open (h : Sep w0 w (rowA e k E v xs :: l)) {i : Nat} {x : α} (hi : xs[i]? = some x) : ∃ b cap c, v = .slice (some ⟨b, 0, none⟩) xs.length cap ∧ c.length = k ∧ w.rangeAt b (i * k) c ∧ Sep w0 w (E x c :: holeA e k E v xs i c :: l) := by
  obtain ⟨a, F, ⟨F1, F2, ⟨gs, a1, a2, a3, G1, G2, d, s, z1, z2, z3⟩, y, z, d', e'⟩, c⟩ := h
  have hlt := (List.getElem?_eq_some_iff.mp hi).1
  rcases a3.2 with ⟨h1, h2⟩ | ⟨g, cap, cur, h1, h2, h3, h4, h5, h6, h7⟩
  · omega
  · have hg : gs[i]? = some gs[i] := List.getElem?_eq_getElem (by omega)
    have hz : (List.zipWith E xs gs)[i]? = some (E x gs[i]) := by rw [List.getElem?_zipWith, hi, hg]
    obtain ⟨H1, H2, y1, y2, y3, y4, y5⟩ := s.pull i hz
    refine ⟨g, cap, gs[i], h1, a2 _ (List.getElem_mem _), fun j u hu => ?_, a, F, ⟨H1, fun g => (G1 g ∨ H2 g) ∨ F2 g, y1, ⟨fun g => G1 g ∨ H2 g, F2, ⟨gs, a1, a2, a3, hg, G1, H2, d, y2, fun g h h' => z1 g h (y5 g h'), fun g h => .inl h, fun g h => .inr h⟩, y, ?_, fun g h => .inl h, fun g h => .inr h⟩, ?_, fun g h => d' g (z3 g (y4 g h)), ?_⟩, c⟩
    · have hj : j < k := by rw [← a2 _ (List.getElem_mem (by omega : i < gs.length))]; exact (List.getElem?_eq_some_iff.mp hu).1
      have := a3.cells (g := g) (by rw [h1]; rfl) (i * k + j) u (by rw [flatten_at a2 hg hj]; exact hu)
      rw [Addr.add_mid, Nat.zero_add] at this
      exact this
    · rintro g (h | h) h'
      · exact z g (z2 g h) h'
      · exact z g (z3 g (y5 g h)) h'
    · rintro g h ((h' | h') | h')
      · exact z1 g h' (y4 g h)
      · exact y3 g h h'
      · exact z g (z3 g (y4 g h)) h'
    · rintro g ((h | h) | h)
      · exact d' g (z2 g h)
      · exact d' g (z3 g (y5 g h))
      · exact e' g h
theorem zip_set {gs : List (List Value)} {i : Nat} {y : α} {c : List Value} : List.zipWith E (xs.set i y) (gs.set i c) = (List.zipWith E xs gs).set i (E y c) := by
  apply List.ext_getElem?
  intro j
  rw [List.getElem?_zipWith, List.getElem?_set, List.getElem?_set, List.getElem?_set]
  by_cases hij : i = j
  · subst hij
    rw [if_pos rfl, if_pos rfl, if_pos rfl]
    by_cases h1 : i < xs.length <;> by_cases h2 : i < gs.length <;> simp [h1, h2] <;> omega
  · rw [if_neg hij, if_neg hij, if_neg hij, List.getElem?_zipWith]
theorem SepF.put {w : World} : ∀ {l : List Asn} {i : Nat} {A : Asn} {F G : Nat → Prop}, i < l.length → SepF w (l.eraseIdx i) F → A.on w G → (∀ g, G g → ¬ F g) → SepF w (l.set i A) (fun g => G g ∨ F g)
  | [], _, _, _, _, h, _, _, _ => absurd h (Nat.not_lt_zero _)
  | _ :: l, 0, A, F, G, _, h, hA, hd => ⟨G, F, hA, h, hd, fun _ x => .inl x, fun _ x => .inr x⟩
  | B :: l, i + 1, A, F, G, hi, ⟨F1, F2, a, b, c, d, e⟩, hA, hd => by
    have := SepF.put (l := l) (i := i) (by simpa using hi) b hA fun g x y => hd g x (e g y)
    refine ⟨F1, fun g => G g ∨ F2 g, a, this, ?_, fun g x => .inr (d g x), ?_⟩
    · rintro g x (y | y)
      · exact hd g y (d g x)
      · exact c g x y
    · rintro g (y | y)
      · exact .inl y
      · exact .inr (e g y)
/-- Put back, with the cells that it now has. -/
theorem Sep.close {i : Nat} {y : α} {c c' : List Value} (h : Sep w0 w (E y c' :: holeA e k E v xs i c :: l)) (hl : c'.length = k)
    (hw : ∀ gs : List (List Value), gs.length = xs.length → (∀ c ∈ gs, c.length = k) → gs[i]? = some c → w.ownsRow 0 e k v xs.length gs.flatten → w'.ownsRow 0 e k v xs.length (gs.set i c').flatten)
    (hk : ∀ b, v.ownBlock = some b → b < w.heap.size → Kept b w w') : Sep w0 w' (rowA e k E v (xs.set i y) :: l) := by
  refine h.join.upd fun F hF hlt => ?_
  obtain ⟨F1, F2, a1, ⟨gs, b1, b2, b3, b4, G1, G2, d, s, z1, z2, z3⟩, c1, c2, c3⟩ := hF
  have hi := (List.getElem?_eq_some_iff.mp b4).1
  rcases b3.2 with ⟨h1, h2⟩ | ⟨g, cap, cur, h1, h2, h3, h4⟩
  · omega
  · have hvg : v.ownBlock = some g := by rw [h1]; rfl
    have hkg := hk g hvg (heap_lt h3)
    refine ⟨F, ⟨gs.set i c', by simp [b1], ?_, by simpa using hw gs b1 b2 b4 b3, G1, fun g => F1 g ∨ G2 g, d, ?_, ?_, fun g h => c3 g (z2 g h), ?_⟩, fun _ h => .inl h, Mod.of_kept hkg (c3 g (z2 g (d g hvg))) (heap_lt h3)⟩
    · intro x hx
      rcases List.mem_or_eq_of_mem_set hx with h | h
      · exact b2 x h
      · rw [h, hl]
    · rw [zip_set]
      have hg1 := d g hvg
      refine SepF.put (by rw [List.length_zipWith]; omega) (s.dep fun j hj => hkg.other j fun e => z1 j (e ▸ hg1) hj) ((E y c').dep a1 fun j hj => hkg.other j fun e => c1 j hj (z2 j (e ▸ hg1))) fun j h h' => c1 j h (z3 j h')
    · rintro j h (h' | h')
      · exact c1 j h' (z2 j h)
      · exact z1 j h h'
    · rintro j (h | h)
      · exact c2 j h
      · exact c3 j (z3 j h)
end
theorem owned_where {P : Program} {w : World} {base : Nat} {t ty e : TypeId} {i : TypeInfo} {z : Value} (ht : P.underlying t = some (.slice e)) (hi : P.info? e = some i) (hz : i.zero = some z)
    {v : Value} {n : Nat} {xs : List Value} (hown : w.ownsRow base e i.size v n xs) {a : Addr} {m c : Nat} {news : List Value} (hl : news.length = m * i.size) (hnews : ∀ j u, news[j]? = some u → w.cell? (a.add j) = some u) (h1 : ∀ u ∈ news, u.oneCell' = true)
    (h63 : n + m ≤ maxLen) (hbytes : (n + m) * i.bytes ≤ 140737488355328) {v' : Value} {w' : World} (hr : (Builtin.append_ #[t, t] ty #[v, .slice (some a) m c]).run P w = .ok v' w') (h4 : v' = .slice none 0 0 ↔ v = .slice none 0 0 ∧ m = 0) :
    v'.ownBlock = v.ownBlock ∨ v'.ownBlock = some w.heap.size := by
  have hsmall : n + m ≤ 9223372036854775807 := by simp only [maxLen] at h63; omega
  rcases hown.2 with ⟨rfl, rfl⟩ | ⟨g, cap, cur, rfl, hbg, hg, hnc, hcm, hcs, htake⟩
  · by_cases hm : m = 0
    · left; rw [h4.mpr ⟨rfl, hm⟩]
    · right
      rw [run_append_nil (P := P) w t ty e i z ht hi hz a m c news hl hnews (by omega) (by omega) (by simp only [Nat.zero_add] at hbytes; omega)] at hr
      simp only [Result.ok.injEq] at hr
      rw [← hr.1]
      rfl
  · by_cases hroom : n + m ≤ cap
    · left
      rw [run_append_room (P := P) w t ty e i ht hi g n cap cur hg a m c news hl hnews h1 hroom (by rw [hl, hcs, ← Nat.add_mul]; exact Nat.mul_le_mul_right _ hroom)] at hr
      simp only [Result.ok.injEq] at hr
      rw [← hr.1]
      rfl
    · right
      rw [run_append_grow (P := P) w t ty e i z ht hi hz ⟨g, 0, none⟩ n cap xs hown.1 (hown.cells (g := g) rfl) a m c news hl hnews (by omega) (by omega) (growslice_fits (by omega) hbytes)] at hr
      simp only [Result.ok.injEq] at hr
      rw [← hr.1]
      rfl
section
variable {P : Program} {w0 w : World} {l : List Asn} {α : Type} {E : α → List Value → Asn} {v : Value} {xs : List α}
/-- The run of an append of one element, whose cells lie in a block. -/
theorem run_appA {T ty e : TypeId} {z : Value} {k bytes : Nat} (ht : P.underlying T = some (.slice e)) (hi : (P.info? e).map (fun i => (i.zero, i.size, i.bytes)) = some (some z, k, bytes)) (hz : z.cells.size = k) (hk0 : 0 < k) (hb : bytes ≤ 10000)
    {y : α} {cs : List Value} (h : Sep w0 w (E y cs :: rowA e k E v xs :: l)) (hn : xs.length ≤ 100000) {b : Nat} (hc : HasC w b e cs) (hl : cs.length = k) (h1 : ∀ c ∈ cs, c.oneCell' = true) :
    ∃ v' w', (Builtin.append_ #[T, T] ty #[v, .slice (some ⟨b, 0, none⟩) 1 1]).run P w = .ok v' w' ∧ Sep w0 w' (rowA e k E v' (xs ++ [y]) :: l) := by
  obtain ⟨i0, k1, k2, k3, k4⟩ := info_parts hi
  have hsrc : ∀ j u, cs[j]? = some u → w.cell? ((⟨b, 0, none⟩ : Addr).add j) = some u := fun j u hu => by
    rw [Addr.add_mid, Nat.zero_add]
    exact hc.cell hu
  have h' := h
  obtain ⟨_, F, ⟨_, _, _, ⟨F1, _, ⟨gs0, a1, a2, a3, _⟩, _⟩, _⟩, _⟩ := h'
  have hby : (xs.length + 1) * bytes ≤ 140737488355328 := by
    have : (xs.length + 1) * bytes ≤ 100001 * 10000 := Nat.mul_le_mul (by omega) hb
    omega
  obtain ⟨v', w', hr, h2, h3, h4⟩ := run_append_own (P := P) (ty := ty) w 0 T e i0 z k bytes ht k1 k2 k3 k4 hz hk0 v xs.length _ a3 ⟨b, 0, none⟩ 1 1 cs (by rw [hl, Nat.one_mul]) hsrc h1 (by unfold maxLen; omega) hby (Nat.zero_le _)
  have hw := owned_where ht k1 k2 (by rw [k3]; exact a3) (by rw [k3, hl, Nat.one_mul]) hsrc h1 (by unfold maxLen; omega) (by rw [k4]; exact hby) hr h4
  refine ⟨v', w', hr, h.join.upd fun F hF hlt => ?_⟩
  obtain ⟨G1, G2, b1, b2, b3, b4, b5⟩ := hF
  have := rowA_more (w' := w') (v' := v') b2 b1 b3 (fun g hg => hlt g (b5 g hg)) (fun g hg => hlt g (b4 g hg)) hl (fun gs hgs => ?_) h3 hw
  · obtain ⟨F', x1, x2, x3⟩ := this
    refine ⟨F', x1, fun g hg => ?_, ⟨x3.size, fun g h1 h2 => x3.block g h1 fun h => h2 (h.elim (b4 g) (b5 g)), fun w1 h1 n => x3.below w1 (fun g hg => h1 g (hg.elim (b4 g) (b5 g))) n⟩⟩
    rcases x2 g hg with (h | h) | h
    · exact .inl (b4 g h)
    · exact .inl (b5 g h)
    · exact .inr h
  · obtain ⟨v2, w2, hr2, h5, _⟩ := run_append_own (P := P) (ty := ty) w 0 T e i0 z k bytes ht k1 k2 k3 k4 hz hk0 v xs.length _ hgs ⟨b, 0, none⟩ 1 1 cs (by rw [hl, Nat.one_mul]) hsrc h1 (by unfold maxLen; omega) hby (Nat.zero_le _)
    rw [hr] at hr2
    simp only [Result.ok.injEq] at hr2
    obtain ⟨rfl, rfl⟩ := hr2
    exact h5
variable {ops : Array Oper} {rest : List Oper} {op : Oper} {act : Act} {Q : Exit → Act → World → Prop}
/-- One element more. -/
theorem wpList_appA (hgd : op.guard = none) (s x : Operand) (T e : TypeId) (ho : op.op = .call { callee := .builtin .append, args := #[s, x], argTypes := #[T, T] })
    {z : Value} {k bytes : Nat} (ht : P.underlying T = some (.slice e)) (hi : (P.info? e).map (fun i => (i.zero, i.size, i.bytes)) = some (some z, k, bytes)) (hz : z.cells.size = k) (hk0 : 0 < k) (hb : bytes ≤ 10000)
    {y : α} {cs : List Value} (h : Sep w0 w (E y cs :: rowA e k E v xs :: l)) (hn : xs.length ≤ 100000) (hs : act.eval s = v) {b : Nat} (hx : act.eval x = .slice (some ⟨b, 0, none⟩) 1 1) (hc : HasC w b e cs) (hl : cs.length = k) (h1 : ∀ c ∈ cs, c.oneCell' = true)
    (hk : ∀ v' w', Sep w0 w' (rowA e k E v' (xs ++ [y]) :: l) → wpList P ops Q rest (act.put op.dst v') w') : wpList P ops Q (op :: rest) act w := by
  obtain ⟨v', w', hr, hS⟩ := run_appA (ty := op.type) ht hi hz hk0 hb h hn hc hl h1
  refine wpList_plain hgd fun _ hK => ?_
  unfold Oper.wp execOp
  simp only [ho, resolve, invoke, builtin, Sem.run_bind, Sem.run_pure, Result.andThen_ok, List.map_toArray, List.map_cons, List.map_nil, hs, hx, hr]
  exact hK _ _ (hk v' w' hS)
end
/-! Rows whose elements own nothing. -/
def leafE {α : Type} (mk : α → List Value) (x : α) (c : List Value) : Asn := Asn.say (c = mk x)
section
variable {P : Program} {w0 w w' : World} {l : List Asn} {α : Type} {E : α → List Value → Asn} {mk : α → List Value} {e : TypeId} {k : Nat} {v : Value} {xs : List α}
theorem leaf_all (mk : α → List Value) (w : World) : ∀ (xs : List α) (F : Nat → Prop), SepF w (List.zipWith (leafE mk) xs (xs.map mk)) F
  | [], _ => trivial
  | _ :: xs, F => ⟨fun _ => False, F, rfl, leaf_all mk w xs F, fun _ h => h.elim, fun _ h => h.elim, fun _ h => h⟩
/-- A row of a new block that is full. -/
theorem Sep.lit (h : Sep w0 w l) (n : New w w') {b : Nat} (hb : w.heap.size ≤ b) {cs : List Value} (H : HasC w' b e cs) (hk : ∀ x, (mk x).length = k) (hcs : cs = (xs.map mk).flatten) (hm : xs.length ≤ maxLen) :
    Sep w0 w' (rowA e k (leafE mk) (.slice (some ⟨b, 0, none⟩) xs.length xs.length) xs :: l) := by
  have h1 : ∀ c ∈ xs.map mk, c.length = k := fun c hc => by
    obtain ⟨x, _, rfl⟩ := List.mem_map.mp hc
    exact hk x
  have h2 : cs.length = xs.length * k := by rw [hcs, flatten_len h1, List.length_map]
  refine h.add (F := fun g => g = b) n ⟨xs.map mk, by simp, h1, ⟨by rw [← hcs, h2], .inr ⟨b, xs.length, cs.toArray, rfl, Nat.zero_le _, H, Nat.le_refl _, hm, by simpa using h2, ?_⟩⟩, fun g => g = b, fun _ => False, ?_, leaf_all mk w' xs _, fun _ _ h => h, fun _ h => h, fun _ h => h.elim⟩ fun g e => ?_
  · rw [← hcs, List.take_of_length_le (by rw [h2]; exact Nat.le_refl _)]
  · intro g hg
    simp only [Value.ownBlock, Option.some.injEq] at hg
    exact hg.symm
  · subst e
    exact ⟨hb, H.lt⟩
/-- An element's address. -/
theorem rowA_ix {ao : Option Addr} {n cap : Nat} (h : (rowA e k E (.slice ao n cap) xs).rd w) (T : TypeId) (hu : P.underlying T = some (.slice e)) (he : ∀ w, (sizeOf e).run P w = .ok k w) {i : Nat} {x : α} (hi : xs[i]? = some x) :
    ∃ (b o : Nat) (c : List Value), c.length = k ∧ (∀ w', (Instr.indexAt T (.slice ao n cap) (.int .i64 (i : Int))).run P w' = .ok (.pointer (some ⟨b, o, none⟩)) w') ∧ (∀ w', New w w' → w'.rangeAt b o c) ∧ (E x c).rd w := by
  have hlt := (List.getElem?_eq_some_iff.mp hi).1
  obtain ⟨b, cap', c, e1, h1, h2, h3⟩ := rowA_at h hi
  simp only [Value.slice.injEq] at e1
  obtain ⟨rfl, rfl, rfl⟩ := e1
  refine ⟨b, i * k, c, h1, fun w' => ?_, fun w' hn j v hv => hn.cell' (h2 j v hv), h3⟩
  have ea : (⟨b, 0, none⟩ : Addr).add (i * k) = ⟨b, i * k, none⟩ := by rw [Addr.add_mid, Nat.zero_add]
  simp [Instr.indexAt, run_underlying hu, asIntOf, he, ea]
  intro
  omega
theorem leaf_ix {ao : Option Addr} {n cap : Nat} (h : (rowA e k (leafE mk) (.slice ao n cap) xs).rd w) (T : TypeId) (hu : P.underlying T = some (.slice e)) (he : ∀ w, (sizeOf e).run P w = .ok k w) {i : Nat} {x : α} (hi : xs[i]? = some x) :
    ∃ (b o : Nat), (∀ w', (Instr.indexAt T (.slice ao n cap) (.int .i64 (i : Int))).run P w' = .ok (.pointer (some ⟨b, o, none⟩)) w') ∧ (∀ w', New w w' → w'.rangeAt b o (mk x)) := by
  obtain ⟨b, o, c, _, h1, h2, _, h3, _⟩ := rowA_ix h T hu he hi
  obtain rfl : c = mk x := h3
  exact ⟨b, o, h1, h2⟩
end
/-! Positions stay: what stands at place i is turned where it stands. -/
section
variable {P : Program} {w0 w w' : World} {l : List Asn} {A B : Asn} {α : Type} {E : α → List Value → Asn} {mk : α → List Value} {e : TypeId} {k : Nat} {v : Value} {xs : List α}
theorem SepF.push {w : World} {F : Nat → Prop} {i : Nat} (hi : i < l.length) (h : SepF w (B :: l.eraseIdx i) F) : SepF w (l.set i B) F := by
  obtain ⟨F1, F2, a, b, c, d, e⟩ := h
  exact (SepF.put hi b a c).more fun g x => x.elim (d g) (e g)
theorem Sep.push (i : Nat) (h : Sep w0 w (B :: l.eraseIdx i)) (hi : i < l.length) : Sep w0 w (l.set i B) :=
  let ⟨a, F, b, c⟩ := h
  ⟨a, F, b.push hi, c⟩
theorem some_lt {β : Type} {l : List β} {i : Nat} {a : β} (h : l[i]? = some a) : i < l.length := (List.getElem?_eq_some_iff.mp h).1
theorem Sep.setAt {g : Nat} {ty : TypeId} {cs cs' : List Value} (i : Nat) (h : Sep w0 w l) (hA : l[i]? = some (blk g ty cs)) (k : Kept g w w') (H : HasC w' g ty cs') : Sep w0 w' (l.set i (blk g ty cs')) :=
  Sep.push i ((h.pull i hA).set k H) (some_lt hA)
theorem Sep.setOAt {g : Nat} {o o' : Obj} (i : Nat) (h : Sep w0 w l) (hA : l[i]? = some (objA g o)) (k : Kept g w w') (H : w'.heap[g]? = some o') : Sep w0 w' (l.set i (objA g o')) :=
  Sep.push i ((h.pull i hA).setO k H) (some_lt hA)
theorem Sep.asAt (i : Nat) (h : Sep w0 w l) (hA : l[i]? = some A) (hu : ∀ F : Nat → Prop, A.on w F → B.on w F) : Sep w0 w (l.set i B) :=
  Sep.push i ((h.pull i hA).as hu) (some_lt hA)
theorem Sep.openAt (j : Nat) (h : Sep w0 w l) (hA : l[j]? = some (rowA e k E v xs)) {i : Nat} {x : α} (hi : xs[i]? = some x) : ∃ b cap c, v = .slice (some ⟨b, 0, none⟩) xs.length cap ∧ c.length = k ∧ w.rangeAt b (i * k) c ∧ Sep w0 w (E x c :: l.set j (holeA e k E v xs i c)) := by
  obtain ⟨b, cap, c, h1, h2, h3, h4⟩ := (h.pull j hA).open hi
  refine ⟨b, cap, c, h1, h2, h3, ?_⟩
  have h5 := h4.pull 1 (A := holeA e k E v xs i c) rfl
  have h6 : Sep w0 w (holeA e k E v xs i c :: (E x c :: l).eraseIdx (j + 1)) := h5
  exact Sep.push (l := E x c :: l) (j + 1) h6 (by simpa using some_lt hA)
theorem Sep.dropAt (i : Nat) (h : Sep w0 w l) (hi : i < l.length) : Sep w0 w (l.eraseIdx i) := (h.pull i (List.getElem?_eq_getElem hi)).drop
end
section
variable {ops : Array Oper} {rest : List Oper} {op : Oper} {act : Act} {w0 w : World} {Q : Exit → Act → World → Prop} {l : List Asn}
theorem wpList_alB (hgd : op.guard = none) (t : TypeId) (ho : op.op = .alloc t) (z : Value) (hz : ∀ w, (zeroValue t).run Try.prog w = .ok z w) (cs : List Value) (hc : z.cells = cs.toArray) (h : Sep w0 w l)
    (hk : ∀ w' g, Sep w0 w' (blk g t cs :: l) → wpList Try.prog ops Q rest (act.put op.dst (.pointer (some ⟨g, 0, none⟩))) w') : wpList Try.prog ops Q (op :: rest) act w :=
  wpList_alX hgd t ho z hz cs hc fun w' g h1 _ h3 h4 => hk w' g (h.new h4 h1 h3)
theorem wpList_boxB (hgd : op.guard = none) (t : TypeId) (p : Operand) (ho : op.op = .box t p) (cs : List Value) (hx : (act.eval p).cells = cs.toArray) (h : Sep w0 w l)
    (hk : ∀ w' g, Sep w0 w' (blk g t cs :: l) → wpList Try.prog ops Q rest (act.put op.dst (.pointer (some ⟨g, 0, none⟩))) w') : wpList Try.prog ops Q (op :: rest) act w :=
  wpList_boxX hgd t p ho cs hx fun w' g h1 _ h3 h4 => hk w' g (h.new h4 h1 h3)
theorem wpList_stSp (i : Nat) (hgd : op.guard = none) (hdst : op.dst = none) (t : TypeId) (p q : Operand) (ho : op.op = .store t p q) (g k : Nat) (hx : act.eval p = .pointer (some ⟨g, k, none⟩)) (u : Value) (hy : act.eval q = u)
    {ty : TypeId} {cs : List Value} (h : Sep w0 w l) (hA : l[i]? = some (blk g ty cs)) (xs : List Value) (hu : u.cells = xs.toArray) (hl : k + xs.length ≤ cs.length) (h1 : ∀ v ∈ xs, v.oneCell' = true) (hi : (Try.prog.info? t).map (·.size) = some xs.length)
    {cs' : List Value} (hc : cs.take k ++ xs ++ cs.drop (k + xs.length) = cs')
    (hk : ∀ w', Sep w0 w' (l.set i (blk g ty cs')) → wpList Try.prog ops Q rest act w') : wpList Try.prog ops Q (op :: rest) act w :=
  wpList_stX hgd hdst t p q ho g k hx u hy (h.has i hA) xs hu hl h1 hi hc fun w' h2 h3 => hk w' (h.setAt i hA h3 h2)
/-- A block is stored as a whole. -/
theorem wpList_stSW (i : Nat) (hgd : op.guard = none) (hdst : op.dst = none) (t : TypeId) (p q : Operand) (ho : op.op = .store t p q) (g : Nat) (hx : act.eval p = .pointer (some ⟨g, 0, none⟩)) (u : Value) (hy : act.eval q = u)
    {ty : TypeId} {cs : List Value} (h : Sep w0 w l) (hA : l[i]? = some (blk g ty cs)) (xs : List Value) (hu : u.cells = xs.toArray) (hl : xs.length = cs.length) (h1 : ∀ v ∈ xs, v.oneCell' = true) (hi : (Try.prog.info? t).map (·.size) = some xs.length)
    (hk : ∀ w', Sep w0 w' (l.set i (blk g ty xs)) → wpList Try.prog ops Q rest act w') : wpList Try.prog ops Q (op :: rest) act w :=
  wpList_stSp i hgd hdst t p q ho g 0 hx u hy h hA xs hu (by omega) h1 hi (by rw [List.take_zero, List.nil_append, List.drop_of_length_le (by omega), List.append_nil]) hk
/-- One cell is stored. -/
theorem wpList_stC1 (i : Nat) (hgd : op.guard = none) (hdst : op.dst = none) (t : TypeId) (p q : Operand) (ho : op.op = .store t p q) (g k : Nat) (hx : act.eval p = .pointer (some ⟨g, k, none⟩)) (u : Value) (hy : act.eval q = u)
    {ty : TypeId} {cs : List Value} (h : Sep w0 w l) (hA : l[i]? = some (blk g ty cs)) (hu : u.cells = #[u]) (hl : k < cs.length) (h1 : u.oneCell' = true) (hi : (Try.prog.info? t).map (·.size) = some 1)
    (hk : ∀ w', Sep w0 w' (l.set i (blk g ty (cs.set k u))) → wpList Try.prog ops Q rest act w') : wpList Try.prog ops Q (op :: rest) act w :=
  wpList_stSp i hgd hdst t p q ho g k hx u hy h hA [u] hu (by simp; omega) (by simpa using h1) hi (by rw [List.set_eq_take_append_cons_drop, if_pos hl]; simp) hk
theorem wpList_ldC1 (hgd : op.guard = none) (t : TypeId) (hagg : ∀ w, (isAgg t).run Try.prog w = .ok false w) (p : Operand) (ho : op.op = .load t p) (a : Addr) (hx : act.eval p = .pointer (some a)) {v : Value} (h : w.cell? a = some v)
    (hk : wpList Try.prog ops Q rest (act.put op.dst v) w) : wpList Try.prog ops Q (op :: rest) act w :=
  wpList_plain hgd fun _ hK => by
    unfold Oper.wp execOp
    simp only [ho, hx, Instr.loadAt, Instr.sureAddr, loadVar, Sem.run_bind, Sem.run_pure, Result.andThen_ok, hagg w]
    simp only [Bool.false_eq_true, if_false]
    simp [h, Result.andThen]
    exact hK _ _ hk
theorem wpList_val (hgd : op.guard = none) {v : Value} {w' : World} (hr : (execOp act.eval op).run Try.prog w = .ok (.value v) w') (hk : wpList Try.prog ops Q rest (act.put op.dst v) w') : wpList Try.prog ops Q (op :: rest) act w :=
  wpList_plain hgd fun _ hK => by
    unfold Oper.wp
    rw [hr]
    exact hK _ _ hk
theorem wpList_run (hgd : op.guard = none) (hdst : op.dst = none) {w' : World} (hr : (execOp act.eval op).run Try.prog w = .ok .skip w') (hk : wpList Try.prog ops Q rest act w') : wpList Try.prog ops Q (op :: rest) act w :=
  wpList_plain hgd fun _ hK => by
    unfold Oper.wp
    rw [hr]
    refine hK _ _ ?_
    rw [hdst]
    exact hk
variable {α : Type} {E : α → List Value → Asn} {v : Value} {xs : List α}
theorem wpList_appI (i : Nat) (hgd : op.guard = none) (s x : Operand) (T e : TypeId) (ho : op.op = .call { callee := .builtin .append, args := #[s, x], argTypes := #[T, T] })
    {z : Value} {k bytes : Nat} (ht : Try.prog.underlying T = some (.slice e)) (hi : (Try.prog.info? e).map (fun i => (i.zero, i.size, i.bytes)) = some (some z, k, bytes)) (hz : z.cells.size = k) (hk0 : 0 < k) (hb : bytes ≤ 10000)
    {y : α} {cs : List Value} (h : Sep w0 w (E y cs :: l)) (hA : l[i]? = some (rowA e k E v xs)) (hn : xs.length ≤ 100000) (hs : act.eval s = v) {b : Nat} (hx : act.eval x = .slice (some ⟨b, 0, none⟩) 1 1) (hc : HasC w b e cs) (hl : cs.length = k) (h1 : ∀ c ∈ cs, c.oneCell' = true)
    (hk : ∀ v' w', Sep w0 w' (l.set i (rowA e k E v' (xs ++ [y]))) → wpList Try.prog ops Q rest (act.put op.dst v') w') : wpList Try.prog ops Q (op :: rest) act w := by
  have h2 : Sep w0 w (rowA e k E v xs :: E y cs :: l.eraseIdx i) := h.pull (i + 1) (by simpa using hA)
  exact wpList_appA hgd s x T e ho ht hi hz hk0 hb (h2.pull 1 rfl) hn hs hx hc hl h1 fun v' w' h3 => hk v' w' (Sep.push i h3 (some_lt hA))
theorem wpList_appL (i : Nat) (hgd : op.guard = none) (s x : Operand) (T e : TypeId) (ho : op.op = .call { callee := .builtin .append, args := #[s, x], argTypes := #[T, T] })
    {z : Value} {k bytes : Nat} (ht : Try.prog.underlying T = some (.slice e)) (hi : (Try.prog.info? e).map (fun i => (i.zero, i.size, i.bytes)) = some (some z, k, bytes)) (hz : z.cells.size = k) (hk0 : 0 < k) (hb : bytes ≤ 10000)
    {mk : α → List Value} {y : α} (h : Sep w0 w l) (hA : l[i]? = some (rowA e k (leafE mk) v xs)) (hn : xs.length ≤ 100000) (hs : act.eval s = v) {b : Nat} (hx : act.eval x = .slice (some ⟨b, 0, none⟩) 1 1) (hc : HasC w b e (mk y)) (hl : (mk y).length = k) (h1 : ∀ c ∈ mk y, c.oneCell' = true)
    (hk : ∀ v' w', Sep w0 w' (l.set i (rowA e k (leafE mk) v' (xs ++ [y]))) → wpList Try.prog ops Q rest (act.put op.dst v') w') : wpList Try.prog ops Q (op :: rest) act w :=
  wpList_appI i hgd s x T e ho ht hi hz hk0 hb (E := leafE mk) (y := y) (cs := mk y) (h.say rfl) hA hn hs hx hc hl h1 hk
end
/-- A slice literal of one element. -/
theorem fill_one (z cs : Array Value) (u : Value) (hu : u.cells = cs) (hz : z.size = cs.size) : Instr.fill (fun i => some (i * cs.size, cs.size)) z [(0, u)] = some cs := by
  unfold Instr.fill
  simp only [hu, Nat.zero_mul, Nat.zero_add, hz]
  simp only [ne_eq, not_true_eq_false, decide_false, Bool.false_or, gt_iff_lt, Nat.lt_irrefl, Bool.false_eq_true, if_false, Instr.fill]
  congr 1
  have go : ∀ (l : List Value) (k : Nat) (a : Array Value), a.size = k + l.length → (∀ i < k, a[i]? = cs[i]?) → (∀ j, l[j]? = cs[k + j]?) → (l.zipIdx k).foldl (fun cs x => cs.setIfInBounds x.2 x.1) a = cs := by
    intro l
    induction l with
    | nil =>
      intro k a h1 h2 h3
      apply Array.ext_getElem?
      intro i
      by_cases hi : i < k
      · exact h2 i hi
      · have := h3 (i - k)
        rw [show k + (i - k) = i by omega] at this
        rw [← this]
        simp at h1
        simp
        omega
    | cons x l ih =>
      intro k a h1 h2 h3
      simp only [List.zipIdx_cons, List.foldl_cons]
      refine ih (k + 1) _ (by simp at h1 ⊢; omega) (fun i hi => ?_) (fun j => ?_)
      · by_cases e : i = k
        · subst e
          have := h3 0
          simp at this h1
          rw [Array.getElem?_setIfInBounds_self_of_lt (by omega)]
          exact this
        · rw [Array.getElem?_setIfInBounds_ne (Ne.symm e)]
          exact h2 i (by omega)
      · have := h3 (j + 1)
        rw [List.getElem?_cons_succ] at this
        rw [this]
        congr 1
        omega
  have hgo := go cs.toList 0 z (by rw [Nat.zero_add, Array.length_toList]; exact hz) (fun i hi => absurd hi (Nat.not_lt_zero _)) (fun j => by rw [Nat.zero_add, Array.getElem?_toList])
  refine Eq.trans ?_ hgo
  rw [← Array.foldl_toList]
  simp
section
variable {ops : Array Oper} {rest : List Oper} {op : Oper} {act : Act} {w0 w : World} {Q : Exit → Act → World → Prop} {l : List Asn}
theorem wpList_bsN (T e : TypeId) (ht : Try.prog.underlying T = some (.slice e)) {z : Value} {bytes k : Nat} (hi : (Try.prog.info? e).map (fun i => (i.zero, i.size, i.bytes)) = some (some z, k, bytes)) (hk0 : 0 < k) (hk1 : k ≤ 1000) (hgd : op.guard = none) (x : Operand) (ho : op.op = .buildSlice T 1 #[(0, x)]) (cs : List Value) (u : Value) (hx : act.eval x = u) (hu : u.cells = cs.toArray) (hl : cs.length = k)
    (hk : ∀ w' b, w.heap.size ≤ b → HasC w' b e cs → New w w' → wpList Try.prog ops Q rest (act.put op.dst (.slice (some ⟨b, 0, none⟩) 1 1)) w') : wpList Try.prog ops Q (op :: rest) act w := by
  obtain ⟨i0, k1, k2, k3, k4⟩ := info_parts hi
  refine wpList_buildSlice hgd T e 1 _ ho cs.toArray i0 z ht k1 k2 (by rw [k3]; omega) (by rw [k3]; omega) ?_ (hk _ _ (Nat.le_refl _) (HasC.box w e cs) (alloc_new _ _))
  have := fill_one ((Array.range (1 * i0.size)).map (z.cells[· % z.cells.size]!)) cs.toArray u hu (by simp [k3, hl])
  simp only [List.size_toArray, hl] at this
  simpa [hx, k3] using this
/-- A slice literal of one element: its block. -/
theorem wpList_bsB (hgd : op.guard = none) (T e : TypeId) (x : Operand) (ho : op.op = .buildSlice T 1 #[(0, x)]) (ht : Try.prog.underlying T = some (.slice e)) {z : Value} {bytes k : Nat} (hi : (Try.prog.info? e).map (fun i => (i.zero, i.size, i.bytes)) = some (some z, k, bytes)) (hk0 : 0 < k) (hk1 : k ≤ 1000) (cs : List Value) (u : Value) (hx : act.eval x = u) (hu : u.cells = cs.toArray) (hl : cs.length = k) (h : Sep w0 w l)
    (hk : ∀ w' b, Sep w0 w' (blk b e cs :: l) → wpList Try.prog ops Q rest (act.put op.dst (.slice (some ⟨b, 0, none⟩) 1 1)) w') : wpList Try.prog ops Q (op :: rest) act w :=
  wpList_bsN T e ht hi hk0 hk1 hgd x ho cs u hx hu hl fun w' b h1 h2 h3 => hk w' b (h.new h3 h1 h2)
end
section
variable {ops : Array Oper} {rest : List Oper} {op : Oper} {act : Act} {w : World} {Q : Exit → Act → World → Prop}
theorem wpList_bd1 (hgd : op.guard = none) (T : TypeId) (i : Nat) (x : Operand) (ho : op.op = .build T #[(i, x)]) {a v : Value} (hx : act.eval x = a) (hb : ∀ w, (Instr.build T #[(i, a)]).run Try.prog w = .ok v w)
    (hk : wpList Try.prog ops Q rest (act.put op.dst v) w) : wpList Try.prog ops Q (op :: rest) act w :=
  wpList_val hgd (by unfold execOp; simp only [ho, List.map_toArray, List.map_cons, List.map_nil, hx, hb, Sem.run_bind, Sem.run_pure, Result.andThen_ok]) hk
theorem wpList_bd2 (hgd : op.guard = none) (T : TypeId) (i j : Nat) (x y : Operand) (ho : op.op = .build T #[(i, x), (j, y)]) {a b v : Value} (hx : act.eval x = a) (hy : act.eval y = b) (hb : ∀ w, (Instr.build T #[(i, a), (j, b)]).run Try.prog w = .ok v w)
    (hk : wpList Try.prog ops Q rest (act.put op.dst v) w) : wpList Try.prog ops Q (op :: rest) act w :=
  wpList_val hgd (by unfold execOp; simp only [ho, List.map_toArray, List.map_cons, List.map_nil, hx, hy, hb, Sem.run_bind, Sem.run_pure, Result.andThen_ok]) hk
end
/-! An element's cell is stored. -/
theorem flatten_set1 {k : Nat} : ∀ {gs : List (List Value)} {i j : Nat} {c : List Value} (u : Value), (∀ c ∈ gs, c.length = k) → gs[i]? = some c → j < k → gs.flatten.set (i * k + j) u = (gs.set i (c.set j u)).flatten
  | [], _, _, _, _, _, h, _ => by simp at h
  | d :: gs, 0, j, c, u, hl, h, hj => by
    simp at h
    subst h
    have hd := hl d (by simp)
    rw [List.flatten_cons, Nat.zero_mul, Nat.zero_add, List.set_append_left _ _ (by rw [hd]; exact hj)]
    rfl
  | d :: gs, i + 1, j, c, u, hl, h, hj => by
    simp at h
    have hd := hl d (by simp)
    rw [List.flatten_cons, List.set_append_right _ _ (by rw [hd, Nat.succ_mul]; omega), hd, show (i + 1) * k + j - k = i * k + j by rw [Nat.succ_mul]; omega, flatten_set1 u (fun c hc => hl c (by simp [hc])) h hj]
    rfl
theorem run_stEl {w0 w : World} {l : List Asn} {α : Type} {E : α → List Value → Asn} {e : TypeId} {k : Nat} {v : Value} {xs : List α} (m : Nat) (t : TypeId) (b i j : Nat) (u : Value)
    {y : α} {c : List Value} (h : Sep w0 w (E y (c.set j u) :: l)) (hA : l[m]? = some (holeA e k E v xs i c)) (hv : v.ownBlock = some b) (hj : j < k) (hc : c.length = k) (hu : u.cells = #[u]) (h1 : u.oneCell' = true) (hi : (Try.prog.info? t).map (·.size) = some 1) :
    ∃ w', (Instr.storeAt t (.pointer (some ⟨b, i * k + j, none⟩)) u).run Try.prog w = .ok () w' ∧ Sep w0 w' (l.set m (rowA e k E v (xs.set i y))) := by
  have h2 : Sep w0 w (holeA e k E v xs i c :: E y (c.set j u) :: l.eraseIdx m) := h.pull (m + 1) (by simpa using hA)
  obtain ⟨F, ⟨gs, a1, a2, a3, a4, _⟩, _⟩ := h2.hd
  rcases a3.2 with ⟨e1, e2⟩ | ⟨g, cap, cur, e1, _, e3, e4, e5, e6, e7⟩
  · rw [e1] at hv
    cases hv
  · have hg : g = b := by
      rw [e1] at hv
      simpa [Value.ownBlock] using hv
    subst hg
    have hil := some_lt a4
    have hm : i * k + k ≤ xs.length * k := by rw [← Nat.succ_mul]; exact Nat.mul_le_mul_right k (by omega)
    have hcl : xs.length * k ≤ cap * k := Nat.mul_le_mul_right k e4
    have hlt : i * k + j < cur.toList.length := by rw [Array.length_toList, e6]; omega
    have hH : HasC w g e cur.toList := e3
    have hrun := hH.store (i * k + j) [u] t u hu (by simp; rw [e6]; omega) (by simpa using h1) hi
    have h4 := Kept.put w g (.cells (cur.toList.take (i * k + j) ++ [u] ++ cur.toList.drop (i * k + j + [u].length)).toArray e (0, 0))
    have h3 : HasC (putO w g (.cells (cur.toList.take (i * k + j) ++ [u] ++ cur.toList.drop (i * k + j + [u].length)).toArray e (0, 0))) g e (cur.toList.set (i * k + j) u) := by
      rw [show cur.toList.set (i * k + j) u = cur.toList.take (i * k + j) ++ [u] ++ cur.toList.drop (i * k + j + [u].length) by rw [List.set_eq_take_append_cons_drop, if_pos hlt]; simp]
      exact putO_same hH
    refine ⟨_, hrun, Sep.push m (Sep.close (h2.pull 1 rfl) (by simpa using hc) (fun gs' b1 b2 b3 b4 => ?_) fun b' hb' _ => ?_) (some_lt hA)⟩
    · rcases b4.2 with ⟨f1, f2⟩ | ⟨g', cap', cur', f1, _, f3, f4, f5, f6, f7⟩
      · omega
      · rw [e1] at f1
        simp only [Value.slice.injEq, Option.some.injEq, Addr.mk.injEq] at f1
        obtain ⟨⟨rfl, _⟩, _, rfl⟩ := f1
        have e8 : cur' = cur := by
          rw [e3] at f3
          simp only [Option.some.injEq, Obj.cells.injEq] at f3
          exact f3.1.symm
        subst e8
        have e9 := flatten_set1 u b2 b3 hj
        refine ⟨by rw [← e9, List.length_set]; exact b4.1, .inr ⟨g, cap, (cur'.toList.set (i * k + j) u).toArray, e1, Nat.zero_le _, h3, e4, e5, by simpa using e6, ?_⟩⟩
        rw [← e9, ← f7]
        show (cur'.toList.set (i * k + j) u).take (xs.length * k) = _
        rw [List.take_set]
    · have : b' = g := by
        rw [e1] at hb'
        simpa [Value.ownBlock] using hb'.symm
      rw [this]
      exact h4
theorem wpList_stEl {ops : Array Oper} {rest : List Oper} {op : Oper} {act : Act} {w0 w : World} {Q : Exit → Act → World → Prop} {l : List Asn} {α : Type} {E : α → List Value → Asn} {e : TypeId} {k : Nat} {v : Value} {xs : List α} (m : Nat) (hgd : op.guard = none) (hdst : op.dst = none) (t : TypeId) (p q : Operand) (ho : op.op = .store t p q) (b i j : Nat) (hx : act.eval p = .pointer (some ⟨b, i * k + j, none⟩)) (u : Value) (hy : act.eval q = u)
    {y : α} {c : List Value} (h : Sep w0 w (E y (c.set j u) :: l)) (hA : l[m]? = some (holeA e k E v xs i c)) (hv : v.ownBlock = some b) (hj : j < k) (hc : c.length = k) (hu : u.cells = #[u]) (h1 : u.oneCell' = true) (hi : (Try.prog.info? t).map (·.size) = some 1)
    (hk : ∀ w', Sep w0 w' (l.set m (rowA e k E v (xs.set i y))) → wpList Try.prog ops Q rest act w') : wpList Try.prog ops Q (op :: rest) act w := by
  obtain ⟨w', hr, hs⟩ := run_stEl m t b i j u h hA hv hj hc hu h1 hi
  exact wpList_run hgd hdst (w' := w') (by unfold execOp; simp only [ho, hx, hy, hr, Sem.run_bind, Sem.run_pure, Result.andThen_ok]) (hk w' hs)
theorem holeA_at {w : World} {α : Type} {E : α → List Value → Asn} {e : TypeId} {k : Nat} {v : Value} {xs : List α} {i b : Nat} {c : List Value} (h : (holeA e k E v xs i c).rd w) (hv : v.ownBlock = some b) : w.rangeAt b (i * k) c := by
  obtain ⟨F, ⟨gs, a1, a2, a3, a4, _⟩, _⟩ := h
  intro j u hu
  have hcl := a2 c (List.mem_of_getElem? a4)
  have hj : j < k := by rw [← hcl]; exact some_lt hu
  have := a3.cells hv (i * k + j) u (by rw [flatten_at a2 a4 hj]; exact hu)
  rw [Addr.add_mid, Nat.zero_add] at this
  exact this
/-! The runs of single operations. -/
theorem run_bsB {op : Oper} {act : Act} {w : World} (T e : TypeId) (x : Operand) (ho : op.op = .buildSlice T 1 #[(0, x)]) (ht : Try.prog.underlying T = some (.slice e)) {z : Value} {bytes k : Nat} (hi : (Try.prog.info? e).map (fun i => (i.zero, i.size, i.bytes)) = some (some z, k, bytes)) (hk0 : 0 < k) (hk1 : k ≤ 1000) (cs : List Value) (u : Value) (hx : act.eval x = u) (hu : u.cells = cs.toArray) (hl : cs.length = k) :
    (execOp act.eval op).run Try.prog w = .ok (.value (.slice (some ⟨w.heap.size, 0, none⟩) 1 1)) (w.alloc (.cells cs.toArray e)) := by
  obtain ⟨i0, k1, k2, k3, k4⟩ := info_parts hi
  have hf := fill_one ((Array.range (1 * i0.size)).map (z.cells[· % z.cells.size]!)) cs.toArray u hu (by simp [k3, hl])
  simp only [List.size_toArray, hl] at hf
  have hf' : Instr.fill (fun i => some (i * i0.size, i0.size)) ((Array.range (1 * i0.size)).map (z.cells[· % z.cells.size]!)) (#[(0, x)].map fun (i, x) => (i, act.eval x)).toList = some cs.toArray := by simpa [hx, k3] using hf
  have hr := run_buildSlice w T e 1 (#[(0, x)].map fun (i, x) => (i, act.eval x)) cs.toArray i0 z ht k1 k2 (by rw [k3]; omega) (by rw [k3]; omega) hf'
  unfold execOp
  simp only [ho, Sem.run_bind, hr, Sem.run_pure, Result.andThen_ok]
theorem run_appO {op : Oper} {act : Act} {w w' : World} {v v' : Value} {b : Nat} (s x : Operand) (T : TypeId) (ho : op.op = .call { callee := .builtin .append, args := #[s, x], argTypes := #[T, T] }) (hs : act.eval s = v) (hx : act.eval x = .slice (some ⟨b, 0, none⟩) 1 1) (hr : (Builtin.append_ #[T, T] op.type #[v, .slice (some ⟨b, 0, none⟩) 1 1]).run Try.prog w = .ok v' w') :
    (execOp act.eval op).run Try.prog w = .ok (.value v') w' := by
  unfold execOp
  simp only [ho, resolve, invoke, builtin, Sem.run_bind, Sem.run_pure, Result.andThen_ok, List.map_toArray, List.map_cons, List.map_nil, hs, hx, hr]
theorem run_stO {op : Oper} {act : Act} {w w' : World} {a u : Value} (t : TypeId) (p q : Operand) (ho : op.op = .store t p q) (hx : act.eval p = a) (hy : act.eval q = u) (hr : (Instr.storeAt t a u).run Try.prog w = .ok () w') : (execOp act.eval op).run Try.prog w = .ok .skip w' := by
  unfold execOp
  simp only [ho, hx, hy, hr, Sem.run_bind, Sem.run_pure, Result.andThen_ok]
/-! make: a row of zeros of one cell each. -/
theorem zip_rep {α : Type} {E : α → List Value → Asn} (x0 : α) (c : List Value) (w : World) (hE : (E x0 c).on w (fun _ => False)) : ∀ n, SepF w (List.zipWith E (List.replicate n x0) (List.replicate n c)) (fun _ => False)
  | 0 => trivial
  | n + 1 => by
    rw [List.replicate_succ, List.replicate_succ, List.zipWith_cons_cons]
    exact ⟨fun _ => False, fun _ => False, hE, zip_rep x0 c w hE n, fun _ h => h.elim, fun _ h => h, fun _ h => h⟩
theorem wpList_mk1 {ops : Array Oper} {rest : List Oper} {op : Oper} {act : Act} {w0 w : World} {Q : Exit → Act → World → Prop} {l : List Asn} (hgd : op.guard = none) (lo co : Operand) (T e : TypeId) (ho : op.op = .makeSlice T lo co) (ht : Try.prog.underlying T = some (.slice e)) {z : Value} {bytes : Nat} (hi : (Try.prog.info? e).map (fun i => (i.zero, i.size, i.bytes)) = some (some z, 1, bytes)) (hz : z.cells = #[z]) (hb : bytes ≤ 1000) (n : Nat) (hl : act.eval lo = .int .i64 (n : Int)) (hc : act.eval co = .int .i64 (n : Int)) (hn : n ≤ 100000)
    (h : Sep w0 w l) {α : Type} {E : α → List Value → Asn} {x0 : α} (hE : ∀ w, (E x0 [z]).on w (fun _ => False))
    (hk : ∀ w' b, Sep w0 w' (rowA e 1 E (.slice (some ⟨b, 0, none⟩) n n) (List.replicate n x0) :: l) → wpList Try.prog ops Q rest (act.put op.dst (.slice (some ⟨b, 0, none⟩) n n)) w') : wpList Try.prog ops Q (op :: rest) act w := by
  obtain ⟨i0, k1, k2, k3, k4⟩ := info_parts hi
  have hby : i0.bytes * n ≤ 1000 * 100000 := by rw [k4]; exact Nat.mul_le_mul hb hn
  refine wpList_make_full (P := Try.prog) w hgd lo co T ho 0 e i0 z 1 ht k1 k2 k3 .i64 .i64 _ _ n hl hc rfl rfl (by omega) (by unfold maxLen; omega) (Nat.zero_le _) fun w' h1 h2 => ?_
  rw [Nat.mul_one, hz, toList_madeCells_one] at h1
  have hnew : New w w' := ⟨h2.os, h2.tape, h2.output, h2.size, fun k hk => h2.block k hk (by simp)⟩
  have hlt : w.heap.size < w'.heap.size := by
    rcases h1.2 with ⟨e1, _⟩ | ⟨g, cap, cur, e1, _, e3, _⟩
    · cases e1
    · simp only [Value.slice.injEq, Option.some.injEq, Addr.mk.injEq] at e1
      rw [e1.1.1]
      exact heap_lt e3
  refine hk w' _ (h.add (F := fun g => g = w.heap.size) hnew ⟨List.replicate n [z], by simp, ?_, ?_, fun g => g = w.heap.size, fun _ => False, ?_, zip_rep x0 [z] w' (hE w') n, fun _ _ h => h, fun _ h => h, fun _ h => h.elim⟩ fun g e => ?_)
  · intro c hc
    rw [List.eq_of_mem_replicate hc]
    rfl
  · have e2 : (List.replicate n [z]).flatten = List.replicate n z := by
      rw [List.flatten_replicate_singleton]
    rw [List.length_replicate, e2]
    exact h1
  · intro b hb'
    simpa [Value.ownBlock] using hb'.symm
  · subst e
    exact ⟨Nat.le_refl _, hlt⟩
end Go.Proofs.Ytomclhbekmcaeaa
