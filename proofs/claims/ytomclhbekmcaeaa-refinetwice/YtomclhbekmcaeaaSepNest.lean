/-
  Rows whose elements are rows of their own, to any depth; rows that are being filled; a whole element is stored.
-/
import Derived.Test.YtomclhbekmcaeaaSepMore
namespace Go.Proofs.Ytomclhbekmcaeaa
open Go.RowKit

/-- An element that is a slice, with a row of its own. -/
def nest {α : Type} (P : Value → α → Asn) (x : α) (c : List Value) : Asn := Asn.ex fun v => (Asn.say (c = [v])).star (P v x)
section
variable {α : Type} {P : Value → α → Asn} {x : α} {c : List Value} {w w0 : World} {v : Value} {l : List Asn}
theorem nest_rd (h : (nest P x c).rd w) : ∃ v, c = [v] ∧ (P v x).rd w := by
  obtain ⟨F, ⟨v, F1, F2, h1, h2, _, _, h3⟩, h4⟩ := h
  exact ⟨v, h1, F2, h2, fun g hg => h4 g (h3 g hg)⟩
theorem Sep.nest (h : Sep w0 w (P v x :: l)) : Sep w0 w (nest P x [v] :: l) :=
  h.as fun F hF => ⟨v, fun _ => False, F, rfl, hF, fun _ h _ => h, fun _ h => h.elim, fun _ h => h⟩
theorem Sep.unnest (h : Sep w0 w (Go.Proofs.Ytomclhbekmcaeaa.nest P x c :: l)) : ∃ v, c = [v] ∧ Sep w0 w (P v x :: l) := by
  obtain ⟨v, h⟩ := Sep.un (P := fun v => (Asn.say (c = [v])).star (P v x)) h
  obtain ⟨h1, h⟩ := h.split.said
  exact ⟨v, h1, h⟩
theorem nest_nil (h : (P (.slice none 0 0) x).on w (fun _ => False)) : (nest P x [.slice none 0 0]).on w (fun _ => False) :=
  ⟨.slice none 0 0, fun _ => False, fun _ => False, rfl, h, fun _ h _ => h, fun _ h => h, fun _ h => h⟩
theorem row_nil (e : TypeId) (k : Nat) (E : α → List Value → Asn) (w : World) : (rowA e k E (.slice none 0 0) []).on w (fun _ => False) :=
  ⟨[], rfl, by simp, World.ownsRow_nil w 0 _ _, fun _ => False, fun _ => False, by simp [Value.ownBlock], trivial, fun _ h => h.elim, fun _ h => h, fun _ h => h⟩
end
/-! Rows that are being filled. -/
def fillT {α : Type} (L : List α) (d : α) (n : Nat) : List α := L.take n ++ List.replicate (L.length - n) d
section
variable {α : Type} {L : List α} {d : α} {n : Nat}
theorem fill_len : (fillT L d n).length = L.length := by
  unfold fillT
  rw [List.length_append, List.length_take, List.length_replicate]
  omega
theorem fill_zero : fillT L d 0 = List.replicate L.length d := by simp [fillT]
theorem fill_done (h : L.length ≤ n) : fillT L d n = L := by
  unfold fillT
  rw [List.take_of_length_le h, show L.length - n = 0 by omega]
  simp
theorem fill_set {y : α} (h : L[n]? = some y) : (fillT L d n).set n y = fillT L d (n + 1) := by
  have hn := (List.getElem?_eq_some_iff.mp h).1
  unfold fillT
  rw [List.take_add_one, h, Option.toList_some, List.append_assoc, List.set_append_right _ _ (by rw [List.length_take]; omega), List.length_take, show n - min n L.length = 0 by omega, show L.length - n = (L.length - (n + 1)) + 1 by omega, List.replicate_succ]
  rfl
theorem fill_at {i : Nat} (h : i < L.length) (hn : n ≤ i) : (fillT L d n)[i]? = some d := by
  unfold fillT
  rw [List.getElem?_append_right (by rw [List.length_take]; omega), List.length_take, List.getElem?_replicate, if_pos (by omega)]
end
section
variable {w0 w : World} {l : List Asn} {α : Type} {E : α → List Value → Asn} {e : TypeId} {k : Nat} {v : Value} {xs : List α}
/-- A whole element is stored where one was taken out. -/
theorem run_stEw (m : Nat) (t : TypeId) (b i : Nat) (u : Value) (us : List Value) {y : α} {c : List Value} (h : Sep w0 w (E y us :: l)) (hA : l[m]? = some (holeA e k E v xs i c)) (hv : v.ownBlock = some b) (hus : us.length = k) (hk0 : 0 < k) (hu : u.cells = us.toArray) (h1 : ∀ x ∈ us, x.oneCell' = true) (hi : (Try.prog.info? t).map (·.size) = some k) :
    ∃ w', (Instr.storeAt t (.pointer (some ⟨b, i * k, none⟩)) u).run Try.prog w = .ok () w' ∧ Sep w0 w' (l.set m (rowA e k E v (xs.set i y))) := by
  have h2 : Sep w0 w (holeA e k E v xs i c :: E y us :: l.eraseIdx m) := h.pull (m + 1) (by simpa using hA)
  obtain ⟨F, ⟨gs, a1, a2, a3, a4, _⟩, _⟩ := h2.hd
  rcases a3.2 with ⟨e1, e2⟩ | ⟨g, cap, cur, e1, _, e3, e4, e5, e6, e7⟩
  · rw [e1] at hv
    cases hv
  · have hg : g = b := by
      rw [e1] at hv
      simpa [Value.ownBlock] using hv
    subst hg
    have hil := some_lt a4
    have hm : i * k + k ≤ xs.length * k := by rw [← Nat.succ_mul]; exact Nat.mul_le_mul_right k (by omega)
    have hcl : xs.length * k ≤ cap * k := Nat.mul_le_mul_right k e4
    have hlen : cur.toList.length = cap * k := by rw [Array.length_toList, e6]
    have hH : HasC w g e cur.toList := e3
    have hrun := hH.store (i * k) us t u hu (by rw [hlen]; omega) h1 (by rw [hus]; exact hi)
    have h4 := Kept.put w g (.cells (cur.toList.take (i * k) ++ us ++ cur.toList.drop (i * k + us.length)).toArray e (0, 0))
    have h3 : HasC (putO w g (.cells (cur.toList.take (i * k) ++ us ++ cur.toList.drop (i * k + us.length)).toArray e (0, 0))) g e (cur.toList.take (i * k) ++ us ++ cur.toList.drop (i * k + us.length)) := putO_same hH
    refine ⟨_, hrun, Sep.push m (Sep.close (h2.pull 1 rfl) hus (fun gs' b1 b2 b3 b4 => ?_) fun b' hb' _ => ?_) (some_lt hA)⟩
    · rcases b4.2 with ⟨f1, f2⟩ | ⟨g', cap', cur', f1, _, f3, f4, f5, f6, f7⟩
      · omega
      · rw [e1] at f1
        simp only [Value.slice.injEq, Option.some.injEq, Addr.mk.injEq] at f1
        obtain ⟨⟨rfl, _⟩, _, rfl⟩ := f1
        have e8 : cur' = cur := by
          rw [e3] at f3
          simp only [Option.some.injEq, Obj.cells.injEq] at f3
          exact f3.1.symm
        subst e8
        have e9 := flatten_set us b2 b3 hus
        have e10 : cur'.toList.take (i * k) ++ us ++ (cur'.toList.drop (i * k + k)).take (xs.length * k - (i * k + k)) = (gs'.set i us).flatten := by
          rw [← e9, ← f7, List.take_take, Nat.min_eq_left (by omega), List.drop_take]
        have e11 : (cur'.toList.take (i * k) ++ us ++ cur'.toList.drop (i * k + us.length)).take (xs.length * k) = (gs'.set i us).flatten := by
          rw [← e10, hus, List.take_append, List.take_of_length_le (by rw [List.length_append, List.length_take, hus, hlen]; omega), List.length_append, List.length_take, hus, hlen, show min (i * k) (cap * k) = i * k by omega]
        refine ⟨by rw [flatten_len fun c hc => (List.mem_or_eq_of_mem_set hc).elim (b2 c) fun e => by rw [e, hus], List.length_set, b1], .inr ⟨g, cap, (cur'.toList.take (i * k) ++ us ++ cur'.toList.drop (i * k + us.length)).toArray, e1, Nat.zero_le _, h3, e4, e5, ?_, e11⟩⟩
        have : (cur'.toList.take (i * k) ++ us ++ cur'.toList.drop (i * k + us.length)).length = cap * k := by
          rw [List.length_append, List.length_append, List.length_take, List.length_drop, hus, hlen]
          omega
        simpa using this
    · have : b' = g := by
        rw [e1] at hb'
        simpa [Value.ownBlock] using hb'.symm
      rw [this]
      exact h4
variable {ops : Array Oper} {rest : List Oper} {op : Oper} {act : Act} {Q : Exit → Act → World → Prop}
/-- An element of a row that owns nothing. -/
theorem wpList_stLw {mk : α → List Value} (m : Nat) (hgd : op.guard = none) (hdst : op.dst = none) (t : TypeId) (p q : Operand) (ho : op.op = .store t p q) (b n cap j : Nat) (hj : j < xs.length) (hx : act.eval p = .pointer (some ⟨b, j * k, none⟩)) {y : α} (u : Value) (hy : act.eval q = u) (h : Sep w0 w l) (hA : l[m]? = some (rowA e k (leafE mk) (.slice (some ⟨b, 0, none⟩) n cap) xs)) (hk0 : 0 < k) (hkl : (mk y).length = k) (hu : u.cells = (mk y).toArray) (h1 : ∀ x ∈ mk y, x.oneCell' = true) (hi : (Try.prog.info? t).map (·.size) = some k)
    (hk : ∀ w', Sep w0 w' (l.set m (rowA e k (leafE mk) (.slice (some ⟨b, 0, none⟩) n cap) (xs.set j y))) → wpList Try.prog ops Q rest act w') : wpList Try.prog ops Q (op :: rest) act w := by
  obtain ⟨b', cap', c, e1, e2, _, hs⟩ := h.openAt m hA (List.getElem?_eq_getElem hj)
  obtain ⟨e3, hs⟩ := hs.said
  have hlm : m < l.length := some_lt hA
  have hm : (l.set m (holeA e k (leafE mk) (.slice (some ⟨b, 0, none⟩) n cap) xs j c))[m]? = some (holeA e k (leafE mk) (.slice (some ⟨b, 0, none⟩) n cap) xs j c) := by
    rw [List.getElem?_set, if_pos rfl, if_pos hlm]
  obtain ⟨w', hr, h2⟩ := run_stEw m t b j u (mk y) (E := leafE mk) (y := y) (hs.say rfl) hm rfl hkl hk0 hu h1 hi
  rw [List.set_set] at h2
  exact wpList_run hgd hdst (w' := w') (by unfold execOp; simp only [ho, hx, hy, hr, Sem.run_bind, Sem.run_pure, Result.andThen_ok]) (hk w' h2)
end
end Go.Proofs.Ytomclhbekmcaeaa
