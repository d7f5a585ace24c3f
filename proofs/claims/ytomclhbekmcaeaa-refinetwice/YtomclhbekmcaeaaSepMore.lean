/-
  Rows of one-cell elements that own nothing: appends of many elements that can be read, and of zeros; a store into an element.
-/
import Derived.Test.YtomclhbekmcaeaaSep
import Derived.Test.YtomclhbekmcaeaaRowAt
namespace Go.Proofs.Ytomclhbekmcaeaa
open Go.RowKit

section
variable {w0 w w' : World} {l : List Asn} {α : Type} {mk : α → List Value} {e : TypeId} {k : Nat} {v v' : Value} {xs ys : List α}
theorem leaf_gs : ∀ {xs : List α} {gs : List (List Value)} {F : Nat → Prop}, gs.length = xs.length → SepF w (List.zipWith (leafE mk) xs gs) F → gs = xs.map mk
  | [], [], _, _, _ => rfl
  | x :: xs, c :: gs, _, hl, ⟨_, _, h1, h2, _⟩ => by
    rw [List.map_cons, show c = mk x from h1, leaf_gs (by simpa using hl) h2]
theorem leaf_own {F : Nat → Prop} (h : (rowA e k (leafE mk) v xs).on w F) : w.ownsRow 0 e k v xs.length (xs.map mk).flatten ∧ ∀ b, v.ownBlock = some b → F b := by
  obtain ⟨gs, a, b, c, F1, F2, d, s, z1, z2, z3⟩ := h
  rw [← leaf_gs a s]
  exact ⟨c, fun b hb => z2 b (d b hb)⟩
theorem leaf_mk {F : Nat → Prop} (hk : ∀ x, (mk x).length = k) (h : w.ownsRow 0 e k v xs.length (xs.map mk).flatten) (hF : ∀ b, v.ownBlock = some b → F b) : (rowA e k (leafE mk) v xs).on w F :=
  ⟨xs.map mk, by simp, fun c hc => by
    obtain ⟨x, _, rfl⟩ := List.mem_map.mp hc
    exact hk x, h, F, fun _ => False, hF, leaf_all mk w xs _, fun _ _ h => h, fun _ h => h, fun _ h => h.elim⟩
/-- A row becomes another one, where it was or in a new block. -/
theorem Sep.rowTo (i : Nat) (hk : ∀ x, (mk x).length = k) (h : Sep w0 w l) (hA : l[i]? = some (rowA e k (leafE mk) v xs)) (hg : w.grownBy w' v.ownBlock) (hw : v'.ownBlock = v.ownBlock ∨ v'.ownBlock = some w.heap.size)
    (ho : w.ownsRow 0 e k v xs.length (xs.map mk).flatten → w'.ownsRow 0 e k v' ys.length (ys.map mk).flatten) : Sep w0 w' (l.set i (rowA e k (leafE mk) v' ys)) := by
  refine Sep.push i ((h.pull i hA).upd fun F hF hlt => ?_) (some_lt hA)
  obtain ⟨h1, h2⟩ := leaf_own hF
  have hown := ho h1
  refine ⟨fun g => F g ∨ v'.ownBlock = some g, leaf_mk hk hown fun b hb => .inr hb, ?_, Mod.of_grown hg fun g e => ⟨h2 g e, hlt g (h2 g e)⟩⟩
  rintro g (hx | hx)
  · exact .inl hx
  · rcases hw with e1 | e1
    · exact .inl (h2 g (e1 ▸ hx))
    · right
      rw [e1] at hx
      simp only [Option.some.injEq] at hx
      subst hx
      refine ⟨Nat.le_refl _, ?_⟩
      rcases hown.2 with ⟨e2, _⟩ | ⟨b, cap, cur, e2, _, e3, _⟩
      · rw [e2] at e1
        cases e1
      · rw [e2] at e1
        simp only [Value.ownBlock, Option.some.injEq] at e1
        rw [← e1]
        exact heap_lt e3
end
section
variable {P : Program} {w : World}
/-- The run of an append of m zeros. -/
theorem run_appZ {T it ty e : TypeId} {i : TypeInfo} {z : Value} {k' : IntKind} {bytes : Nat} (ht : P.underlying T = some (.slice e)) (hit : P.underlying it = some (.int k')) (hi : P.info? e = some i) (hz : i.zero = some z) (hs : i.size = 1) (hby : i.bytes = bytes) (hzc : z.cells = #[z]) (h1 : z.oneCell' = true)
    {v : Value} {n : Nat} {xs : List Value} (hown : w.ownsRow 0 e 1 v n xs) (hv : v ≠ .slice none 0 0) {m : Nat} (hm : 0 < m) (hm2 : m ≤ 100000) (hn : n ≤ 100000) (hb : bytes ≤ 1000) :
    ∃ v' w', (Builtin.append_ #[T, it] ty #[v, .int .i64 (m : Int)]).run P w = .ok v' w' ∧ w'.ownsRow 0 e 1 v' (n + m) (xs ++ List.replicate m z) ∧ w.grownBy w' v.ownBlock ∧ (v'.ownBlock = v.ownBlock ∨ v'.ownBlock = some w.heap.size) := by
  rcases hown.2 with ⟨e1, _⟩ | ⟨g, cap, cur, rfl, _, hg, hnc, hcm, hcs, htake⟩
  · exact absurd e1 hv
  · have hwr : IntKind.i64.wrap (m : Int) = (m : Int) := IntWalk.i64_in _ (by omega)
    have hneg : ¬ ((m : Int) < 0) := by omega
    have hmb : m * bytes ≤ 100000 * 1000 := Nat.mul_le_mul hm2 hb
    have hbig : ¬ (281474976710656 < (m : Int) * (bytes : Int)) := by
      have : ((m * bytes : Nat) : Int) = (m : Int) * (bytes : Int) := Int.natCast_mul m bytes
      omega
    have hm0 : m ≠ 0 := by omega
    have hzl : Builtin.zeroCells z.cells m = (List.replicate m z).toArray := by
      have := toList_madeCells_one z m
      unfold madeCells at this
      unfold Builtin.zeroCells
      rw [hzc]
      apply Array.ext'
      simpa using this
    have hall : ∀ u ∈ List.replicate m z, u.oneCell' = true := fun u hu => by rw [List.eq_of_mem_replicate hu]; exact h1
    have hlen : (xs ++ List.replicate m z).length = n + m := by rw [List.length_append, hown.1, List.length_replicate, Nat.mul_one]
    by_cases hroom : n + m ≤ cap
    · have hst := run_storeCells_at P g (n * 1) e (List.replicate m z) 0 cur w hg (by simp [hcs]; omega) hall
      refine ⟨.slice (some ⟨g, 0, none⟩) (n + m) cap, w.setRow g (cur.toList.take (n * 1) ++ List.replicate m z ++ cur.toList.drop (n * 1 + (List.replicate m z).length)).toArray, ?_, ⟨by rw [hlen, Nat.mul_one], .inr ⟨g, cap, _, rfl, Nat.zero_le _, setRow_heap w g cur _ e _ hg, hroom, hcm, ?_, ?_⟩⟩, ⟨rfl, rfl, rfl, by simp, fun k _ hk => setRow_other w g k _ (fun e => hk (by simp [Value.ownBlock, e]))⟩, .inl rfl⟩
      · simp only [Nat.add_zero] at hst
        simp [Builtin.append_, run_underlying ht, run_underlying hit, sizeOf, typeInfo, zeroValue, hi, hz, hs, hby, asInt, asIntOf, hwr, hneg, hbig, hm0, hroom, hzl, Addr.add_lit]
        have h9 := hst
        simp at h9
        rw [h9]
        rfl
      · simp [hcs]
        omega
      · rw [htake, show (n + m) * 1 = (xs ++ List.replicate m z).length by rw [hlen, Nat.mul_one]]
        exact List.take_left
    · have hge := grownCap_ge w (n + m) cap e
      have hcm2 : grownCap w (n + m) cap e ≤ maxLen := grownCap_le_maxLen w (n + m) cap e (by unfold maxLen; omega)
      have hnb : (n + m) * bytes ≤ 200000 * 1000 := Nat.mul_le_mul (by omega) hb
      have hfit := growslice_fits (need := n + m) (old := cap) (bytes := bytes) (by omega) (by omega)
      have h48 : ¬ (281474976710656 < Builtin.nextslicecap (n + m) cap * bytes) := by omega
      have h63 : ¬ (9223372036854775807 < ((n : Int) + (m : Int))) := by omega
      have hfo := run_firstCells_some (P := P) w.drew 1 n ⟨g, 0, none⟩ n cap xs hown.1 (by simpa using hown.cells (g := g) rfl)
      refine ⟨.slice (some ⟨w.heap.size, 0, none⟩) (n + m) (grownCap w (n + m) cap e), w.drew.alloc (.cells (xs.toArray ++ (List.replicate m z).toArray ++ Builtin.zeroCells z.cells (grownCap w (n + m) cap e - (n + m))) e), ?_, ⟨by rw [hlen, Nat.mul_one], .inr ⟨w.heap.size, _, _, rfl, Nat.zero_le _, heap_alloc_new w.drew _, hge, hcm2, ?_, ?_⟩⟩, ⟨rfl, rfl, rfl, by simp, fun k hk _ => (alloc_new w.drew _).block k hk⟩, .inr rfl⟩
      · simp [Builtin.append_, run_underlying ht, run_underlying hit, sizeOf, typeInfo, zeroValue, hi, hz, hs, hby, asInt, asIntOf, hwr, hneg, hbig, hm0, hroom, hzl, h63, h48, Question.forced, hfo, newRow, grownCap]
      · have hx := hown.1
        simp [size_zeroCells, hzc]
        omega
      · rw [show (n + m) * 1 = (xs ++ List.replicate m z).length by rw [hlen, Nat.mul_one]]
        simp only [Array.toList_append, List.append_assoc]
        rw [← List.append_assoc]
        exact List.take_left
/-- The run of an append of nothing. -/
theorem run_app0 {T ty e : TypeId} {i : TypeInfo} (ht : P.underlying T = some (.slice e)) (hi : P.info? e = some i) {B k n : Nat} {v : Value} {xs : List Value} (hown : w.ownsRow B e k v n xs) (ao : Option Addr) (c : Nat) :
    (Builtin.append_ #[T, T] ty #[v, .slice ao 0 c]).run P w = .ok v w := by
  rcases hown.2 with ⟨rfl, _⟩ | ⟨g, cap, cur, rfl, _, hg, hnc, _⟩
  · cases ao <;> simp [Builtin.append_, run_underlying ht, sizeOf, typeInfo, hi, Builtin.lenOf, Builtin.firstCells, loadCells, loadCellsFrom]
  · cases ao <;> simp [Builtin.append_, run_underlying ht, sizeOf, typeInfo, hi, Builtin.lenOf, Builtin.firstCells, loadCells, loadCellsFrom, hnc, storeCells]
end
theorem flat_ones {α : Type} (mk : α → Value) : ∀ xs : List α, (xs.map fun a => [mk a]).flatten = xs.map mk
  | [] => rfl
  | a :: xs => by rw [List.map_cons, List.flatten_cons, flat_ones mk xs]; rfl
section
variable {ops : Array Oper} {rest : List Oper} {op : Oper} {act : Act} {w0 w : World} {Q : Exit → Act → World → Prop} {l : List Asn} {α : Type} {e : TypeId} {v : Value} {xs ys : List α} {mk : α → Value}
theorem leaf_row (h : (rowA e 1 (leafE fun a => [mk a]) v xs).rd w) : RowAt w v (xs.map mk) := by
  obtain ⟨ao, cap, hv⟩ := rowA_form h
  refine ⟨ao, cap, by rw [List.length_map]; exact hv, fun i hi => ?_⟩
  rw [List.length_map] at hi
  obtain ⟨b, cap', c, e1, _, h2, _, h3, _⟩ := rowA_at h (List.getElem?_eq_getElem hi)
  have h4 : c = [mk xs[i]] := h3
  subst h4
  rw [hv] at e1
  simp only [Value.slice.injEq] at e1
  refine ⟨b, 0, e1.1, ?_⟩
  have := h2 0 _ rfl
  rw [Nat.mul_one, Nat.add_zero] at this
  rw [Nat.zero_add, List.getElem_map]
  exact this
/-- Elements that can be read, behind a row. -/
theorem wpList_appR (i : Nat) (hgd : op.guard = none) (s x : Operand) (T e : TypeId) (ho : op.op = .call { callee := .builtin .append, args := #[s, x], argTypes := #[T, T] }) (ht : Try.prog.underlying T = some (.slice e)) {z : Value} {bytes : Nat} (hi : (Try.prog.info? e).map (fun i => (i.zero, i.size, i.bytes)) = some (some z, 1, bytes)) (hz : z.cells.size = 1) (hb : bytes ≤ 1000)
    (h : Sep w0 w l) (hA : l[i]? = some (rowA e 1 (leafE fun a => [mk a]) v xs)) (hs : act.eval s = v) {u : Value} (hx : act.eval x = u) (hu : RowAt w u (ys.map mk)) (hl : xs.length + ys.length ≤ 100000) (h1 : ∀ a, (mk a).oneCell' = true)
    (hk : ∀ v' w', Sep w0 w' (l.set i (rowA e 1 (leafE fun a => [mk a]) v' (xs ++ ys))) → (v ≠ .slice none 0 0 → v' ≠ .slice none 0 0) → wpList Try.prog ops Q rest (act.put op.dst v') w') : wpList Try.prog ops Q (op :: rest) act w := by
  obtain ⟨i0, k1, k2, k3, k4⟩ := info_parts hi
  obtain ⟨ao, cap, hu1, hu2⟩ := hu
  rw [List.length_map] at hu1
  obtain ⟨F, hF, _⟩ := h.rd i hA
  have hown := (leaf_own hF).1
  rw [flat_ones] at hown
  have fin : ∀ v' w', (Builtin.append_ #[T, T] op.type #[v, u]).run Try.prog w = .ok v' w' → Sep w0 w' (l.set i (rowA e 1 (leafE fun a => [mk a]) v' (xs ++ ys))) → (v ≠ .slice none 0 0 → v' ≠ .slice none 0 0) → wpList Try.prog ops Q (op :: rest) act w := fun v' w' hr hS hne => by
    refine wpList_plain hgd fun _ hK => ?_
    unfold Oper.wp execOp
    simp only [ho, resolve, invoke, builtin, Sem.run_bind, Sem.run_pure, Result.andThen_ok, List.map_toArray, List.map_cons, List.map_nil, hs, hx, hr]
    exact hK _ _ (hk v' w' hS hne)
  by_cases hy : ys = []
  · subst hy
    have hr := run_app0 (P := Try.prog) (ty := op.type) ht k1 hown ao cap
    rw [hu1] at fin
    refine fin v w hr ?_ id
    rw [List.append_nil]
    have := h.asAt (B := rowA e 1 (leafE fun a => [mk a]) v xs) i hA (fun _ h => h)
    exact this
  · have hpos : 0 < ys.length := List.length_pos_iff.mpr hy
    obtain ⟨b, off, hao, _⟩ := hu2 0 (by rw [List.length_map]; exact hpos)
    have hsrc : ∀ j u, (ys.map mk)[j]? = some u → w.cell? ((⟨b, off, none⟩ : Addr).add j) = some u := fun j u hj => by
      have hlt := some_lt hj
      obtain ⟨b', off', e1, e2⟩ := hu2 j hlt
      rw [hao] at e1
      simp only [Option.some.injEq, Addr.mk.injEq] at e1
      obtain ⟨rfl, rfl, _⟩ := e1
      rw [Addr.add_mid, e2]
      rw [List.getElem?_eq_getElem hlt] at hj
      exact hj
    have hone : ∀ u ∈ ys.map mk, u.oneCell' = true := fun u hm => by
      obtain ⟨a, _, rfl⟩ := List.mem_map.mp hm
      exact h1 a
    have hlen : (ys.map mk).length = ys.length * 1 := by rw [List.length_map, Nat.mul_one]
    have hby : (xs.length + ys.length) * bytes ≤ 140737488355328 := by
      have : (xs.length + ys.length) * bytes ≤ 100000 * 1000 := Nat.mul_le_mul hl hb
      omega
    obtain ⟨v', w', hr, h2, h3, h4⟩ := run_append_own (P := Try.prog) (ty := op.type) w 0 T e i0 z 1 bytes ht k1 k2 k3 k4 hz (by decide) v xs.length _ hown ⟨b, off, none⟩ ys.length cap _ hlen hsrc hone (by unfold maxLen; omega) hby (Nat.zero_le _)
    have hw := owned_where ht k1 k2 (by rw [k3]; exact hown) (by rw [k3]; exact hlen) hsrc hone (by unfold maxLen; omega) (by rw [k4]; exact hby) hr h4
    refine fin v' w' (by rw [hu1, hao]; exact hr) (h.rowTo i (fun _ => rfl) hA h3 hw fun _ => ?_) (fun _ e1 => by have := (h4.mp e1).2; omega)
    rw [flat_ones, List.length_append, List.map_append]
    exact h2
/-- Zeros behind a row. -/
theorem wpList_appZ (i : Nat) (hgd : op.guard = none) (s x : Operand) (T it e : TypeId) (ho : op.op = .call { callee := .builtin .append, args := #[s, x], argTypes := #[T, it] }) (ht : Try.prog.underlying T = some (.slice e)) {k' : IntKind} (hit : Try.prog.underlying it = some (.int k')) {z : Value} {bytes : Nat} (hi : (Try.prog.info? e).map (fun i => (i.zero, i.size, i.bytes)) = some (some z, 1, bytes)) (hz : z.cells = #[z]) (hb : bytes ≤ 1000)
    (h : Sep w0 w l) (hA : l[i]? = some (rowA e 1 (leafE fun a => [mk a]) v xs)) (hs : act.eval s = v) (hv : v ≠ .slice none 0 0) {m : Nat} (hx : act.eval x = .int .i64 (m : Int)) (hm : 0 < m) (hm2 : m ≤ 100000) (hl : xs.length ≤ 100000) {a0 : α} (hz0 : mk a0 = z) (h1 : z.oneCell' = true)
    (hk : ∀ v' w', Sep w0 w' (l.set i (rowA e 1 (leafE fun a => [mk a]) v' (xs ++ List.replicate m a0))) → wpList Try.prog ops Q rest (act.put op.dst v') w') : wpList Try.prog ops Q (op :: rest) act w := by
  obtain ⟨i0, k1, k2, k3, k4⟩ := info_parts hi
  obtain ⟨F, hF, _⟩ := h.rd i hA
  have hown := (leaf_own hF).1
  rw [flat_ones] at hown
  obtain ⟨v', w', hr, h2, h3, h4⟩ := run_appZ (P := Try.prog) (ty := op.type) ht hit k1 k2 k3 k4 hz h1 hown hv hm hm2 hl hb
  refine wpList_plain hgd fun _ hK => ?_
  unfold Oper.wp execOp
  simp only [ho, resolve, invoke, builtin, Sem.run_bind, Sem.run_pure, Result.andThen_ok, List.map_toArray, List.map_cons, List.map_nil, hs, hx, hr]
  refine hK _ _ (hk v' w' (h.rowTo i (fun _ => rfl) hA h3 h4 fun _ => ?_))
  rw [flat_ones, List.length_append, List.map_append, List.length_replicate, List.map_replicate, hz0]
  exact h2
/-- An element is stored. -/
theorem wpList_stL (m : Nat) (hgd : op.guard = none) (hdst : op.dst = none) (t : TypeId) (p q : Operand) (ho : op.op = .store t p q) (b n cap j : Nat) (hj : j < xs.length) (hx : act.eval p = .pointer (some ⟨b, j, none⟩)) {y : α} (hy : act.eval q = mk y) (h : Sep w0 w l) (hA : l[m]? = some (rowA e 1 (leafE fun a => [mk a]) (.slice (some ⟨b, 0, none⟩) n cap) xs)) (hu : (mk y).cells = #[mk y]) (h1 : (mk y).oneCell' = true) (hi : (Try.prog.info? t).map (·.size) = some 1)
    (hk : ∀ w', Sep w0 w' (l.set m (rowA e 1 (leafE fun a => [mk a]) (.slice (some ⟨b, 0, none⟩) n cap) (xs.set j y))) → wpList Try.prog ops Q rest act w') : wpList Try.prog ops Q (op :: rest) act w := by
  obtain ⟨b', cap', c, e1, e2, _, hs⟩ := h.openAt m hA (List.getElem?_eq_getElem hj)
  obtain ⟨e3, hs⟩ := hs.said
  subst e3
  have hlm : m < l.length := some_lt hA
  have hm : (l.set m (holeA e 1 (leafE fun a => [mk a]) (.slice (some ⟨b, 0, none⟩) n cap) xs j [mk xs[j]]))[m]? = some (holeA e 1 (leafE fun a => [mk a]) (.slice (some ⟨b, 0, none⟩) n cap) xs j [mk xs[j]]) := by
    rw [List.getElem?_set, if_pos rfl, if_pos hlm]
  refine wpList_stEl m hgd hdst t p q ho b j 0 (by rw [hx, Nat.add_zero, Nat.mul_one]) (mk y) hy (E := leafE fun a => [mk a]) (y := y) (c := [mk xs[j]]) (hs.say rfl) hm rfl (by decide) rfl hu h1 hi fun w' h2 => hk w' ?_
  rw [List.set_set] at h2
  exact h2
theorem run_bs0 (T e : TypeId) (ho : op.op = .buildSlice T 0 #[]) (ht : Try.prog.underlying T = some (.slice e)) {z : Value} {bytes k : Nat} (hi : (Try.prog.info? e).map (fun i => (i.zero, i.size, i.bytes)) = some (some z, k, bytes)) :
    (execOp act.eval op).run Try.prog w = .ok (.value (.slice (some ⟨w.heap.size, 0, none⟩) 0 0)) (w.alloc (.cells #[] e)) := by
  obtain ⟨i0, k1, k2, k3, k4⟩ := info_parts hi
  unfold execOp
  simp [ho, Instr.buildSlice, run_underlying ht, sizeOf, typeInfo, k1, Instr.fill, newRow]
  rw [show Array.range 0 = #[] from Array.ext' (by simp), Array.map_empty]
theorem wpList_bs0 (hgd : op.guard = none) (T e : TypeId) (ho : op.op = .buildSlice T 0 #[]) (ht : Try.prog.underlying T = some (.slice e)) {z : Value} {bytes : Nat} (hi : (Try.prog.info? e).map (fun i => (i.zero, i.size, i.bytes)) = some (some z, 1, bytes)) (h : Sep w0 w l) (mk : α → Value)
    (hk : ∀ w' b, Sep w0 w' (rowA e 1 (leafE fun a => [mk a]) (.slice (some ⟨b, 0, none⟩) 0 0) [] :: l) → wpList Try.prog ops Q rest (act.put op.dst (.slice (some ⟨b, 0, none⟩) 0 0)) w') : wpList Try.prog ops Q (op :: rest) act w :=
  wpList_val hgd (run_bs0 T e ho ht hi) (hk _ _ (h.lit (mk := fun a => [mk a]) (alloc_new w (.cells #[] e)) (Nat.le_refl _) (HasC.box w e []) (fun _ => rfl) rfl (Nat.zero_le _)))
end
end Go.Proofs.Ytomclhbekmcaeaa
