/-
  Rows that stay as they are while other blocks turn; a row of events that grows by append.
-/
import Derived.Test.YtdghhedenjgjiaaGreatDoorStepM
import Derived.Laws.AppendOwnNone
namespace Go.Proofs.YtdghhedenjgjiaaGreatDoor
open Go.RowKit

section
variable {α : Type} {w w' : World} {v : Value} {zs : List α} {G H : Nat → Prop}
/-- A row's block is none of these. -/
def Ap (G : Nat → Prop) (v : Value) (zs : List α) : Prop := zs = [] ∨ ∃ b off n cap, v = .slice (some ⟨b, off, none⟩) n cap ∧ ¬ G b
theorem Ap.mono (h : Ap G v zs) (hs : ∀ k, H k → G k) : Ap H v zs := h.imp id fun ⟨b, o, n, c, e, hb⟩ => ⟨b, o, n, c, e, fun x => hb (hs _ x)⟩
theorem Ap.nil (G : Nat → Prop) (v : Value) : Ap G v ([] : List α) := .inl rfl
theorem Fresh.ap {B : Nat} (h : Fresh B v zs) (hs : ∀ k, G k → k < B) : Ap G v zs := h.imp id fun ⟨b, o, n, c, e, hb⟩ => ⟨b, o, n, c, e, fun x => by have := hs _ x; omega⟩
theorem cell_keep {b o : Nat} {u : Value} (h : w.cell? ⟨b, o, none⟩ = some u) (hk : ∀ ob, w.heap[b]? = some ob → w'.heap[b]? = some ob) : w'.cell? ⟨b, o, none⟩ = some u := by
  unfold World.cell? at h ⊢
  cases hb : w.heap[b]? with
  | none => simp only [hb] at h; simp at h
  | some ob => simp only [hb] at h; simp only [hk ob hb]; exact h
theorem cell_block {b o : Nat} {u : Value} (h : w.cell? ⟨b, o, none⟩ = some u) : b < w.heap.size := by
  unfold World.cell? at h
  cases hb : w.heap[b]? with
  | none => simp only [hb] at h; simp at h
  | some ob => exact heap_lt hb
end
section
variable {w w' : World} {v : Value} {G H : Nat → Prop}
theorem Hp.keep {zs : List Int} (h : Hp w v zs) (a : Ap G v zs) (hk : ∀ k ob, ¬ G k → w.heap[k]? = some ob → w'.heap[k]? = some ob) : Hp w' v zs := by
  obtain ⟨ao, cap, e, hh⟩ := h
  refine ⟨ao, cap, e, fun i hi => ?_⟩
  obtain ⟨b, off, e1, h1⟩ := hh i hi
  refine ⟨b, off, e1, cell_keep h1 (fun ob hb => hk b ob ?_ hb)⟩
  rcases a with rfl | ⟨b', o', n', c', e', hb'⟩
  · simp at hi
  · rw [e'] at e
    simp only [Value.slice.injEq] at e
    rw [← e.1] at e1
    simp only [Option.some.injEq, Addr.mk.injEq] at e1
    rw [← e1.1]
    exact hb'
theorem Hp.ap {zs : List Int} (h : Hp w v zs) (hs : ∀ k, H k → w.heap.size ≤ k) : Ap H v zs := by
  obtain ⟨ao, cap, e, hh⟩ := h
  cases zs with
  | nil => exact .inl rfl
  | cons z zs =>
    obtain ⟨b, off, e1, h1⟩ := hh 0 (by simp)
    refine .inr ⟨b, off, _, cap, by rw [e, e1], fun x => ?_⟩
    have := hs _ x
    have := cell_block h1
    omega
theorem Hp.ap2 {zs : List Int} (h : Hp w v zs) (a : Ap G v zs) (hs : ∀ k, H k → G k ∨ w.heap.size ≤ k) : Ap H v zs := by
  obtain ⟨ao, cap, e, hh⟩ := h
  cases zs with
  | nil => exact .inl rfl
  | cons z zs =>
    obtain ⟨b, off, e1, h1⟩ := hh 0 (by simp)
    refine .inr ⟨b, off, _, cap, by rw [e, e1], fun x => ?_⟩
    rcases hs _ x with g | g
    · rcases a with e0 | ⟨b', o', n', c', e', hb'⟩
      · cases e0
      · rw [e'] at e
        simp only [Value.slice.injEq] at e
        rw [← e.1] at e1
        simp only [Option.some.injEq, Addr.mk.injEq] at e1
        exact hb' (e1.1 ▸ g)
    · have := cell_block h1
      omega
theorem EvAt.keep {es : List Ev} (h : EvAt w v es) (a : Ap G v es) (hk : ∀ k ob, ¬ G k → w.heap[k]? = some ob → w'.heap[k]? = some ob) : EvAt w' v es := by
  obtain ⟨ao, cap, e, ht, hh⟩ := h
  refine ⟨ao, cap, e, ht, fun i hi => ?_⟩
  obtain ⟨b, off, e1, h1⟩ := hh i hi
  refine ⟨b, off, e1, fun j u hu => cell_keep (h1 j u hu) (fun ob hb => hk b ob ?_ hb)⟩
  rcases a with rfl | ⟨b', o', n', c', e', hb'⟩
  · simp at hi
  · rw [e'] at e
    simp only [Value.slice.injEq] at e
    rw [← e.1] at e1
    simp only [Option.some.injEq, Addr.mk.injEq] at e1
    rw [← e1.1]
    exact hb'
end
theorem Kept.keeps {g : Nat} {w w' : World} (k : Kept g w w') : ∀ j ob, ¬ j = g → w.heap[j]? = some ob → w'.heap[j]? = some ob := fun j _ hj h => (k.other j hj).trans h
/-! Rows of events. -/
theorem ev3 (x : Ev) : (evCells x).length = 3 := rfl
theorem flat_len3 : ∀ es : List Ev, (es.flatMap evCells).length = es.length * 3
  | [] => rfl
  | x :: es => by rw [List.flatMap_cons, List.length_append, flat_len3 es, ev3, List.length_cons]; omega
theorem flat_at3 : ∀ (es : List Ev) (i j : Nat) (h : i < es.length), j < 3 → (es.flatMap evCells)[i * 3 + j]? = (evCells es[i])[j]?
  | [], _, _, h, _ => absurd h (Nat.not_lt_zero _)
  | x :: es, 0, j, _, hj => by
    rw [List.flatMap_cons, List.getElem?_append_left (by rw [ev3]; omega), Nat.zero_mul, Nat.zero_add]
    rfl
  | x :: es, i + 1, j, h, hj => by
    rw [List.flatMap_cons, List.getElem?_append_right (by rw [ev3]; omega), ev3]
    rw [show (i + 1) * 3 + j - 3 = i * 3 + j by omega, flat_at3 es i j (by simpa using h) hj]
    rfl
/-- A row of the call's own. -/
def Evs (w : World) (B : Nat) (v : Value) (es : List Ev) : Prop := w.ownsRow B 67 3 v es.length (es.flatMap evCells)
theorem Evs.nil (w : World) (B : Nat) : Evs w B (.slice none 0 0) [] := World.ownsRow_nil _ _ _ _
section
variable {w w' : World} {B : Nat} {v : Value} {es : List Ev}
theorem Evs.at (h : Evs w B v es) : EvAt w v es := by
  rcases h.2 with ⟨hv, h0⟩ | ⟨k, cap, cur, hv, _⟩
  · obtain rfl : es = [] := List.eq_nil_of_length_eq_zero h0
    exact ⟨none, 0, hv, fun _ => rfl, fun i hi => absurd hi (Nat.not_lt_zero _)⟩
  · refine ⟨some ⟨k, 0, none⟩, cap, hv, nofun, fun i hi => ⟨k, 0, rfl, fun j u hu => ?_⟩⟩
    have hj : j < 3 := by rw [← ev3 es[i]]; exact (List.getElem?_eq_some_iff.mp hu).1
    have := World.ownsRow.cells h (g := k) (by rw [hv]; rfl) (i * 3 + j) u (by rw [flat_at3 es i j hi hj]; exact hu)
    rw [Addr.add_mid] at this
    rw [show 0 + i * 3 + j = 0 + (i * 3 + j) by omega]
    exact this
theorem Evs.fresh (h : Evs w B v es) : Fresh B v es := by
  rcases h.2 with ⟨_, h0⟩ | ⟨k, cap, cur, hv, hb, _⟩
  · exact .inl (List.eq_nil_of_length_eq_zero h0)
  · exact .inr ⟨k, 0, _, cap, hv, hb⟩
theorem Evs.new (h : Evs w B v es) (n : New w w') : Evs w' B v es :=
  ⟨h.1, h.2.elim .inl fun ⟨b, cap, cur, h1, h2, h3, h4⟩ => .inr ⟨b, cap, cur, h1, h2, n.heap h3, h4⟩⟩
theorem Evs.kept {g : Nat} (h : Evs w B v es) (k : Kept g w w') (hg : g < B) : Evs w' B v es :=
  ⟨h.1, h.2.elim .inl fun ⟨b, cap, cur, h1, h2, h3, h4⟩ => .inr ⟨b, cap, cur, h1, h2, (k.other b (by omega)).trans h3, h4⟩⟩
theorem Evs.form (h : Evs w B v es) : ∃ ao cap, v = .slice ao es.length cap := h.at.form
theorem Evs.lt (h : Evs w B v es) : ∀ k, v.ownBlock = some k → B ≤ k ∧ k < w.heap.size := World.ownsRow.lt h
theorem Evs.bound (h : Evs w B v es) : es = [] ∨ B < w.heap.size := by
  rcases h.2 with ⟨_, h0⟩ | ⟨k, cap, cur, hv, hb, hg, _⟩
  · exact .inl (List.eq_nil_of_length_eq_zero h0)
  · exact .inr (Nat.lt_of_le_of_lt hb (heap_lt hg))
end
theorem own_where {P : Program} {w : World} {base : Nat} {t ty e : TypeId} {i : TypeInfo} {z : Value} (ht : P.underlying t = some (.slice e)) (hi : P.info? e = some i) (hz : i.zero = some z)
    {v : Value} {n : Nat} {xs : List Value} (hown : w.ownsRow base e i.size v n xs) {a : Addr} {m c : Nat} {news : List Value} (hl : news.length = m * i.size) (hnews : ∀ j u, news[j]? = some u → w.cell? (a.add j) = some u) (h1 : ∀ u ∈ news, u.oneCell' = true)
    (h63 : n + m ≤ maxLen) (hbytes : (n + m) * i.bytes ≤ 140737488355328) {v' : Value} {w' : World} (hr : (Builtin.append_ #[t, t] ty #[v, .slice (some a) m c]).run P w = .ok v' w') (h4 : v' = .slice none 0 0 ↔ v = .slice none 0 0 ∧ m = 0) :
    v'.ownBlock = v.ownBlock ∨ v'.ownBlock = some w.heap.size := by
  have hsmall : n + m ≤ 9223372036854775807 := by simp only [maxLen] at h63; omega
  rcases hown.2 with ⟨rfl, rfl⟩ | ⟨g, cap, cur, rfl, hbg, hg, hnc, hcm, hcs, htake⟩
  · by_cases hm : m = 0
    · left; rw [h4.mpr ⟨rfl, hm⟩]
    · right
      rw [run_append_nil (P := P) w t ty e i z ht hi hz a m c news hl hnews (by omega) (by omega) (by simp only [Nat.zero_add] at hbytes; omega)] at hr
      simp only [Result.ok.injEq] at hr
      rw [← hr.1]
      rfl
  · by_cases hroom : n + m ≤ cap
    · left
      rw [run_append_room (P := P) w t ty e i ht hi g n cap cur hg a m c news hl hnews h1 hroom (by rw [hl, hcs, ← Nat.add_mul]; exact Nat.mul_le_mul_right _ hroom)] at hr
      simp only [Result.ok.injEq] at hr
      rw [← hr.1]
      rfl
    · right
      rw [run_append_grow (P := P) w t ty e i z ht hi hz ⟨g, 0, none⟩ n cap xs hown.1 (hown.cells (g := g) rfl) a m c news hl hnews (by omega) (by omega) (growslice_fits (by omega) hbytes)] at hr
      simp only [Result.ok.injEq] at hr
      rw [← hr.1]
      rfl
theorem infoEv3 : (Tryz.prog.info? 67).map (fun i => (i.zero, i.size, i.bytes)) = some (some (.agg #[.int .i64 0, .int .i64 0, .int .i64 0]), 3, 24) := by kernel_rfl
theorem ev_one (es : List Ev) : ∀ u ∈ es.flatMap evCells, u.oneCell' = true := by
  intro u hu
  rw [List.mem_flatMap] at hu
  obtain ⟨x, _, hx⟩ := hu
  simp only [evCells, List.mem_cons, List.not_mem_nil, or_false] at hx
  rcases hx with rfl | rfl | rfl <;> rfl
theorem ev_src {w : World} {a : Addr} {cap : Nat} {es : List Ev} (h : EvAt w (.slice (some a) es.length cap) es) : ∀ j u, (es.flatMap evCells)[j]? = some u → w.cell? (a.add j) = some u := by
  intro j u hu
  obtain ⟨ao, cap', e, _, hh⟩ := h
  simp only [Value.slice.injEq, true_and] at e
  have hj : j < es.length * 3 := by rw [← flat_len3]; exact (List.getElem?_eq_some_iff.mp hu).1
  obtain ⟨i, k, hk, rfl⟩ : ∃ i k, k < 3 ∧ j = i * 3 + k := ⟨j / 3, j % 3, by omega, by omega⟩
  obtain ⟨b, off, e1, h1⟩ := hh i (by omega)
  rw [← e.1] at e1
  simp only [Option.some.injEq] at e1
  subst e1
  rw [flat_at3 es i k (by omega) hk] at hu
  have := h1 k u hu
  rw [Addr.add_mid, show off + (i * 3 + k) = off + i * 3 + k by omega]
  exact this
/-- A row of events more. -/
theorem wp_appEv {op : Oper} {act : Act} {w : World} {K : Act → World → Prop} {Q : Exit → Act → World → Prop} (s x : Operand) (ho : op.op = .call { callee := .builtin .append, args := #[s, x], argTypes := #[31, 31] })
    (B : Nat) (v : Value) (xs : List Ev) (hs : act.eval s = v) (hown : Evs w B v xs) (u : Value) (hx : act.eval x = u) (ys : List Ev) (hu : EvAt w u ys) (hl : xs.length + ys.length ≤ 100000) (hB : B ≤ w.heap.size)
    (hk : ∀ v' w', Evs w' B v' (xs ++ ys) → w.grownBy w' v.ownBlock → (v'.ownBlock = v.ownBlock ∨ v'.ownBlock = some w.heap.size) → K (act.put op.dst v') w') : op.wp Tryz.prog act w K Q := by
  obtain ⟨i0, hi0, hz0, hz1, hz2⟩ := info_parts infoEv3
  obtain ⟨ao, cap, rfl⟩ := hu.form
  cases ao with
  | none =>
    obtain ⟨ao', cap', e, ht, hh⟩ := hu
    simp only [Value.slice.injEq, true_and] at e
    obtain ⟨rfl, rfl⟩ := e
    have h0 : ys = [] := by
      cases ys with
      | nil => rfl
      | cons y ys => obtain ⟨b, off, e1, _⟩ := hh 0 (by simp); cases e1
    subst h0
    have hc := ht rfl
    subst hc
    have hrun := run_append_owned_none (P := Tryz.prog) (w := w) B 31 op.type 67 i0 3 Tryz.underlying31 hi0 v _ _ hown
    have hx' : act.eval x = .slice none 0 0 := hx
    unfold Oper.wp
    simp [execOp, ho, resolve, invoke, builtin, hs, hx', hrun, Result.andThen]
    exact hk v w (by simpa using hown) ⟨rfl, rfl, rfl, Nat.le_refl _, fun _ _ _ => rfl⟩ (.inl rfl)
  | some a =>
    have hown' : w.ownsRow B 67 i0.size v xs.length (xs.flatMap evCells) := by rw [hz1]; exact hown
    have hl3 : (ys.flatMap evCells).length = ys.length * i0.size := by rw [hz1]; exact flat_len3 ys
    have hb3 : (xs.length + ys.length) * i0.bytes ≤ 140737488355328 := by rw [hz2]; omega
    obtain ⟨v', w', hr, h2, h3, h4⟩ := run_append_own (P := Tryz.prog) w B 31 op.type 67 i0 _ 3 24 Tryz.underlying31 hi0 hz0 hz1 hz2 rfl (by decide) v xs.length _ hown a ys.length cap _ (flat_len3 ys) (ev_src hu) (ev_one ys) (by unfold maxLen; omega) (by omega) hB
    have hw := own_where Tryz.underlying31 hi0 hz0 hown' hl3 (ev_src hu) (ev_one ys) (by unfold maxLen; omega) hb3 hr h4
    unfold Oper.wp execOp
    simp only [ho, resolve, invoke, builtin, Sem.run_bind, Sem.run_pure, Result.andThen_ok, List.map_toArray, List.map_cons, List.map_nil, hs, hx, hr]
    refine hk v' w' ?_ h3 hw
    unfold Evs
    rw [List.length_append, List.flatMap_append]
    exact h2
theorem wpList_appEv {ops : Array Oper} {rest : List Oper} {op : Oper} {act : Act} {w : World} {Q : Exit → Act → World → Prop} (hgd : op.guard = none) (s x : Operand) (ho : op.op = .call { callee := .builtin .append, args := #[s, x], argTypes := #[31, 31] })
    (B : Nat) (v : Value) (xs : List Ev) (hs : act.eval s = v) (hown : Evs w B v xs) (u : Value) (hx : act.eval x = u) (ys : List Ev) (hu : EvAt w u ys) (hl : xs.length + ys.length ≤ 100000) (hB : B ≤ w.heap.size)
    (hk : ∀ v' w', Evs w' B v' (xs ++ ys) → w.grownBy w' v.ownBlock → (v'.ownBlock = v.ownBlock ∨ v'.ownBlock = some w.heap.size) → wpList Tryz.prog ops Q rest (act.put op.dst v') w') : wpList Tryz.prog ops Q (op :: rest) act w :=
  wpList_plain hgd fun _ hK => wp_appEv s x ho B v xs hs hown u hx ys hu hl hB fun v' w' h1 h2 h3 => hK _ _ (hk v' w' h1 h2 h3)
end Go.Proofs.YtdghhedenjgjiaaGreatDoor
