/-
  Layer 11: rows that are put back, copied, made of zeros; the contracts of slices.Repeat and value.unknown.
  Layer 11: the contract of value.all.
-/
import Derived.Test.YtphopkjgfkaihaaGreatDoorValueA
import Derived.Laws.CopyRow
import Derived.Test.YtphopkjgfkaihaaGreatDoorValueWay
namespace Go.Proofs.YtphopkjgfkaihaaGreatDoor
open Go.RowKit

abbrev factsO (v : Value) (M : List (List Sc)) : Asn := rowA 58 1 (nest srcsO) v M
abbrev allO (v : Value) (A : List (List (List Sc))) : Asn := rowA 57 1 (nest factsO) v A
theorem infoSs3 : (Tryz.prog.info? 58).map (fun i => (i.zero, i.size, i.bytes)) = some (some (.slice none 0 0), 1, 24) := by kernel_rfl
theorem infoSs : (Tryz.prog.info? 58).map (·.size) = some 1 := by kernel_rfl
theorem sizeSs : ∀ w, (sizeOf 58).run Tryz.prog w = .ok 1 w := Tryz.sizeOf58
theorem srcs_0 (w : World) : (nest srcsO [] [.slice none 0 0]).on w (fun _ => False) := nest_nil (row_nil _ _ _ w)
section
variable {w0 w : World} {l : List Asn} {α : Type} {E : α → List Value → Asn} {P : Value → α → Asn} {e : TypeId} {k : Nat} {v : Value} {xs : List α}
/-- What was taken out is put back, as it is. -/
theorem Sep.back {i : Nat} {y : α} {c : List Value} (h : Sep w0 w (E y c :: holeA e k E v xs i c :: l)) (hl : c.length = k) : Sep w0 w (rowA e k E v (xs.set i y) :: l) := by
  refine Sep.close h hl (fun gs _ _ hg ho => ?_) fun b _ _ => ⟨rfl, fun _ _ => rfl, fun _ _ h => h⟩
  have hi := (List.getElem?_eq_some_iff.mp hg)
  rw [← hi.2, List.set_getElem_self]
  exact ho
/-- A block that is full, as a row. -/
theorem blk_row {b n : Nat} {mk : α → List Value} {cs : List Value} (h : Sep w0 w (blk b e cs :: l)) (hk : ∀ x, (mk x).length = k) (hcs : cs = (xs.map mk).flatten) (hn : xs.length = n) (hm : n ≤ maxLen) : Sep w0 w (rowA e k (leafE mk) (.slice (some ⟨b, 0, none⟩) n n) xs :: l) := by
  subst hn
  refine h.as fun F hF => ?_
  have h1 : ∀ c ∈ xs.map mk, c.length = k := fun c hc => by
    obtain ⟨x, _, rfl⟩ := List.mem_map.mp hc
    exact hk x
  have h2 : cs.length = xs.length * k := by rw [hcs, flatten_len h1, List.length_map]
  refine leaf_mk hk ⟨by rw [← hcs, h2], .inr ⟨b, xs.length, cs.toArray, rfl, Nat.zero_le _, hF.1, Nat.le_refl _, hm, by simpa using h2, ?_⟩⟩ fun g hg => ?_
  · rw [← hcs]
    show cs.take (xs.length * k) = cs
    rw [List.take_of_length_le (by rw [h2]; exact Nat.le_refl _)]
  · simp only [Value.ownBlock, Option.some.injEq] at hg
    rw [← hg]
    exact hF.2
variable {ops : Array Oper} {rest : List Oper} {op : Oper} {act : Act} {Q : Exit → Act → World → Prop}
/-- A row of its own is stored as an element. -/
theorem wpList_stN (m : Nat) (hgd : op.guard = none) (hdst : op.dst = none) (t : TypeId) (p q : Operand) (ho : op.op = .store t p q) (b n cap j : Nat) (hj : j < xs.length) (hx : act.eval p = .pointer (some ⟨b, j, none⟩)) {y : α} (u : Value) (hy : act.eval q = u) (h : Sep w0 w (P u y :: l)) (hA : l[m]? = some (rowA e 1 (nest P) (.slice (some ⟨b, 0, none⟩) n cap) xs)) (hu : u.cells = #[u]) (h1 : u.oneCell' = true) (hi : (Tryz.prog.info? t).map (·.size) = some 1)
    (hk : ∀ w', Sep w0 w' (l.set m (rowA e 1 (nest P) (.slice (some ⟨b, 0, none⟩) n cap) (xs.set j y))) → wpList Tryz.prog ops Q rest act w') : wpList Tryz.prog ops Q (op :: rest) act w := by
  have h0 : Sep w0 w (nest P y [u] :: l) := Sep.nest h
  have hlm : m < l.length := some_lt hA
  obtain ⟨b', cap', c, e1, e2, _, hs⟩ := h0.openAt (m + 1) (by simpa using hA) (List.getElem?_eq_getElem hj)
  have hs2 : Sep w0 w (nest P y [u] :: l.set m (holeA e 1 (nest P) (.slice (some ⟨b, 0, none⟩) n cap) xs j c)) := hs.drop
  have hm : (l.set m (holeA e 1 (nest P) (.slice (some ⟨b, 0, none⟩) n cap) xs j c))[m]? = some (holeA e 1 (nest P) (.slice (some ⟨b, 0, none⟩) n cap) xs j c) := by
    rw [List.getElem?_set, if_pos rfl, if_pos hlm]
  obtain ⟨w', hr, h2⟩ := run_stEw m t b j u [u] hs2 hm rfl rfl (by decide) hu (by simpa using h1) hi
  rw [List.set_set] at h2
  rw [Nat.mul_one] at hr
  exact wpList_run hgd hdst (w' := w') (by unfold execOp; simp only [ho, hx, hy, hr, Sem.run_bind, Sem.run_pure, Result.andThen_ok]) (hk w' h2)
theorem own_full {b n : Nat} {ys : List Value} (h : w.ownsRow 0 e k (.slice (some ⟨b, 0, none⟩) n n) n ys) : HasC w b e ys := by
  rcases h.2 with ⟨h1, _⟩ | ⟨g, cap, cur, h1, _, h3, _, _, h6, h7⟩
  · cases h1
  · simp only [Value.slice.injEq, Option.some.injEq, Addr.mk.injEq] at h1
    obtain ⟨⟨rfl, _⟩, _, rfl⟩ := h1
    rw [List.take_of_length_le (by rw [Array.length_toList, h6]; exact Nat.le_refl _)] at h7
    unfold HasC
    rw [h3, ← h7, Array.toArray_toList]
/-- make: a block of zeros. -/
theorem wpList_mkB (hgd : op.guard = none) (lo co : Operand) (T e : TypeId) (ho : op.op = .makeSlice T lo co) (ht : Tryz.prog.underlying T = some (.slice e)) {z : Value} {k bytes : Nat} (hi : (Tryz.prog.info? e).map (fun i => (i.zero, i.size, i.bytes)) = some (some z, k, bytes)) (hb : bytes ≤ 1000) (n : Nat) (hl : act.eval lo = .int .i64 (n : Int)) (hc : act.eval co = .int .i64 (n : Int)) (hn : n ≤ 100000)
    (h : Sep w0 w l) {cs : List Value} (hcs : (madeCells z.cells (n * k)).toList = cs)
    (hk : ∀ w' b, Sep w0 w' (blk b e cs :: l) → wpList Tryz.prog ops Q rest (act.put op.dst (.slice (some ⟨b, 0, none⟩) n n)) w') : wpList Tryz.prog ops Q (op :: rest) act w := by
  obtain ⟨i0, k1, k2, k3, k4⟩ := info_parts hi
  have hby : i0.bytes * n ≤ 1000 * 100000 := by rw [k4]; exact Nat.mul_le_mul hb hn
  refine wpList_make_full (P := Tryz.prog) w hgd lo co T ho 0 e i0 z k ht k1 k2 k3 .i64 .i64 _ _ n hl hc rfl rfl (by omega) (by unfold maxLen; omega) (Nat.zero_le _) fun w' h1 h2 => ?_
  rw [hcs] at h1
  have hnew : New w w' := ⟨h2.os, h2.tape, h2.output, h2.size, fun k hk => h2.block k hk (by simp)⟩
  exact hk w' _ (h.new hnew (Nat.le_refl _) (own_full h1))
end
/-- The run of a copy of whole elements. -/
theorem run_cpk {P : Program} (w : World) (dT sT ty elem : TypeId) (g o dLen dCap : Nat) (a : Addr) (sLen sCap k m : Nat) (cur : Array Value) (t : TypeId) (cs : List Value)
    (hu : P.underlying dT = some (.slice elem)) (hs : (P.info? elem).map (·.size) = some k)
    (hg : w.heap[g]? = some (.cells cur t (0, 0))) (hm : Nat.min sLen dLen = m) (hn : cs.length = m * k)
    (hsrc : ∀ j v, cs[j]? = some v → w.cell? (a.add j) = some v) (hfit : o + cs.length ≤ cur.size) (h1 : ∀ v ∈ cs, v.oneCell' = true) :
    (Builtin.copy_ #[dT, sT] ty #[.slice (some ⟨g, o, none⟩) dLen dCap, .slice (some a) sLen sCap]).run P w =
      .ok (goInt m) (w.setRow g (cur.toList.take o ++ cs ++ cur.toList.drop (o + cs.length)).toArray) := by
  have hl := run_loadCells_list (P := P) w a cs hsrc
  have hst := run_storeCells_at P g o t cs 0 cur w hg (by simpa using hfit) h1
  rw [hn] at hl
  cases hq : P.info? elem with
  | none => simp [hq] at hs
  | some i =>
    have hi : i.size = k := by simpa [hq] using hs
    have hm' : Nat.min sLen dLen = m := hm
    simp [Builtin.copy_, run_underlying hu, Builtin.lenOf, Builtin.firstCells, sizeOf, typeInfo, hq, hi, hm', hl, hst]
/-- A row of 24 whose first n are c. -/
def repC (n : Nat) (c : Sc) : List Value := ((List.replicate n c ++ List.replicate (24 - n) ((0, 0) : Sc)).map srcK).flatten
theorem repC_len {n : Nat} (c : Sc) (h : n ≤ 24) : (repC n c).length = 48 := by
  unfold repC
  rw [flatten_len (k := 2) (fun x hx => by
    obtain ⟨y, _, rfl⟩ := List.mem_map.mp hx
    rfl), List.length_map, List.length_append, List.length_replicate, List.length_replicate]
  omega
theorem repC_zero (c : Sc) : (madeCells (Value.agg #[.int .i64 0, .int .i64 0]).cells (24 * 2)).toList = repC 0 c := by kernel_rfl
def repS (n : Nat) (c : Sc) : List Value := ((List.replicate n c).map srcK).flatten
theorem repS_one (n : Nat) (c : Sc) : ∀ v ∈ repS n c, v.oneCell' = true := by
  intro v hv
  unfold repS at hv
  obtain ⟨x, hx, hv⟩ := List.mem_flatten.mp hv
  obtain ⟨y, _, rfl⟩ := List.mem_map.mp hx
  exact srcK_one y v hv
theorem repC_0 (c : Sc) : (repC 0 c).take (0 * 2) ++ repS 1 c ++ (repC 0 c).drop (0 * 2 + 1 * 2) = repC (0 + 1) c := by kernel_rfl
theorem repC_1 (c : Sc) : (repC 1 c).take (1 * 2) ++ repS 1 c ++ (repC 1 c).drop (1 * 2 + 1 * 2) = repC (1 + 1) c := by kernel_rfl
theorem repC_2 (c : Sc) : (repC 2 c).take (2 * 2) ++ repS 2 c ++ (repC 2 c).drop (2 * 2 + 2 * 2) = repC (2 + 2) c := by kernel_rfl
theorem repC_4 (c : Sc) : (repC 4 c).take (4 * 2) ++ repS 4 c ++ (repC 4 c).drop (4 * 2 + 4 * 2) = repC (4 + 4) c := by kernel_rfl
theorem repC_8 (c : Sc) : (repC 8 c).take (8 * 2) ++ repS 8 c ++ (repC 8 c).drop (8 * 2 + 8 * 2) = repC (8 + 8) c := by kernel_rfl
theorem repC_16 (c : Sc) : (repC 16 c).take (16 * 2) ++ repS 8 c ++ (repC 16 c).drop (16 * 2 + 8 * 2) = repC (16 + 8) c := by kernel_rfl
theorem repS_l1 (c : Sc) : (repS 1 c).length = 1 * 2 := by kernel_rfl
theorem repS_l2 (c : Sc) : (repS 2 c).length = 2 * 2 := by kernel_rfl
theorem repS_l4 (c : Sc) : (repS 4 c).length = 4 * 2 := by kernel_rfl
theorem repS_l8 (c : Sc) : (repS 8 c).length = 8 * 2 := by kernel_rfl
theorem repS_1 (c : Sc) : repS 1 c = srcK c := by kernel_rfl
section
variable {w0 w : World} {l : List Asn} {c : Sc} {g : Nat}
theorem cpX {op : Oper} {act : Act} (n m : Nat) (d s : Operand) (ho : op.op = .call { callee := .builtin .copy, args := #[d, s], argTypes := #[58, 58] }) (a sLen sCap dCap o dLen : Nat) (hd : act.eval d = .slice (some ⟨g, o, none⟩) dLen dCap) (hs : act.eval s = .slice (some ⟨a, 0, none⟩) sLen sCap)
    (h : Sep w0 w (blk g 39 (repC n c) :: l)) (ho2 : o = n * 2) (hm : Nat.min sLen dLen = m) (hfit : n + m ≤ 24) (hsrc : ∀ j v, (repS m c)[j]? = some v → w.cell? ⟨a, j, none⟩ = some v) (hls : (repS m c).length = m * 2) (he : (repC n c).take (n * 2) ++ repS m c ++ (repC n c).drop (n * 2 + m * 2) = repC (n + m) c) :
    ∃ w', (execOp act.eval op).run Tryz.prog w = .ok (.value (.int .i64 (m : Int))) w' ∧ Sep w0 w' (blk g 39 (repC (n + m) c) :: l) := by
  have hg := h.has 0 rfl
  have hr := run_cpk (P := Tryz.prog) w 58 58 op.type 39 g o dLen dCap ⟨a, 0, none⟩ sLen sCap 2 m _ 39 (repS m c) Tryz.underlying58 infoSr hg hm hls (fun j v hj => by rw [Addr.add_mid, Nat.zero_add]; exact hsrc j v hj) (by rw [List.size_toArray, hls, repC_len c (by omega)]; omega) (repS_one _ _)
  rw [ho2, hls] at hr
  have e2 : (repC n c).toArray.toList.take (n * 2) ++ repS m c ++ (repC n c).toArray.toList.drop (n * 2 + m * 2) = repC (n + m) c := he
  rw [e2, setRow_putO hg, ← ho2] at hr
  refine ⟨putO w g (.cells (repC (n + m) c).toArray 39 (0, 0)), ?_, h.set (Kept.put _ _ _) (HasC.put hg _)⟩
  unfold execOp
  simp only [ho, resolve, invoke, builtin, Sem.run_bind, Sem.run_pure, Result.andThen_ok, List.map_toArray, List.map_cons, List.map_nil, hd, hs, hr, goInt]
theorem wpList_cpX {ops : Array Oper} {rest : List Oper} {Q : Exit → Act → World → Prop} {op : Oper} {act : Act} (n m : Nat) (hgd : op.guard = none) (d s : Operand) (ho : op.op = .call { callee := .builtin .copy, args := #[d, s], argTypes := #[58, 58] }) (a sLen sCap dCap o dLen : Nat) (hd : act.eval d = .slice (some ⟨g, o, none⟩) dLen dCap) (hs : act.eval s = .slice (some ⟨a, 0, none⟩) sLen sCap)
    (h : Sep w0 w (blk g 39 (repC n c) :: l)) (ho2 : o = n * 2) (hm : Nat.min sLen dLen = m) (hfit : n + m ≤ 24) (hsrc : ∀ j v, (repS m c)[j]? = some v → w.cell? ⟨a, j, none⟩ = some v) (hls : (repS m c).length = m * 2) (he : (repC n c).take (n * 2) ++ repS m c ++ (repC n c).drop (n * 2 + m * 2) = repC (n + m) c)
    (hk : ∀ w', Sep w0 w' (blk g 39 (repC (n + m) c) :: l) → wpList Tryz.prog ops Q rest (act.put op.dst (.int .i64 (m : Int))) w') : wpList Tryz.prog ops Q (op :: rest) act w := by
  obtain ⟨w', hr, h2⟩ := cpX n m d s ho a sLen sCap dCap o dLen hd hs h ho2 hm hfit hsrc hls he
  exact wpList_val hgd hr (hk w' h2)
theorem LL_cpX {ops : Array Oper} {Q : Exit → Act → World → Prop} {S : World → Prop} {kk : Nat} {i : Nat} {is : List Nat} {op : Oper} {act : Act} (hi : ops[i]? = some op) (hgd : op.guard = none) (hS : ∀ w, S w) (n m : Nat) (d s : Operand) (ho : op.op = .call { callee := .builtin .copy, args := #[d, s], argTypes := #[58, 58] }) (a sLen sCap dCap o dLen : Nat) (hd : act.eval d = .slice (some ⟨g, o, none⟩) dLen dCap) (hs : act.eval s = .slice (some ⟨a, 0, none⟩) sLen sCap)
    (h : Sep w0 w (blk g 39 (repC n c) :: l)) (ho2 : o = n * 2) (hm : Nat.min sLen dLen = m) (hfit : n + m ≤ 24) (hsrc : ∀ j v, (repS m c)[j]? = some v → w.cell? ⟨a, j, none⟩ = some v) (hls : (repS m c).length = m * 2) (he : (repC n c).take (n * 2) ++ repS m c ++ (repC n c).drop (n * 2 + m * 2) = repC (n + m) c)
    (hk : ∀ w', Sep w0 w' (blk g 39 (repC (n + m) c) :: l) → wpLL Tryz.prog ops Q S kk is (act.put op.dst (.int .i64 (m : Int))) w') : wpLL Tryz.prog ops Q S kk (i :: is) act w := by
  obtain ⟨w', hr, h2⟩ := cpX n m d s ho a sLen sCap dCap o dLen hd hs h ho2 hm hfit hsrc hls he
  exact LL_val hi hgd hr (hS _) (hk w' h2)
theorem repS_at {n m : Nat} (hn : m ≤ n) (_hn2 : n ≤ 24) {j : Nat} {v : Value} (h : (repS m c)[j]? = some v) : (repC n c)[j]? = some v := by
  have e : repC n c = repS m c ++ ((List.replicate (n - m) c ++ List.replicate (24 - n) ((0, 0) : Sc)).map srcK).flatten := by
    unfold repC repS
    rw [← List.flatten_append, ← List.map_append, ← List.append_assoc, List.replicate_append_replicate, show m + (n - m) = n by omega]
  rw [e, List.getElem?_append_left (List.getElem?_eq_some_iff.mp h).1]
  exact h
end
theorem mul_one24 (w : World) : Calls Tryz.prog 116 #[.int .u64 1, .int .u64 24] w fun e w' => e = .returned (.tuple #[.int .u64 0, .int .u64 24]) ∧ w = w' := by
  have h64 : ∀ w, Calls Tryz.prog 134 #[.int .u64 1, .int .u64 24] w fun e w' => e = .returned (.tuple #[.int .u64 0, .int .u64 24]) ∧ w = w' := fun w => by
    go_enter Tryz.func134, Tryz.ntmps134
    go_wp2
    go_ret2
    exact ⟨rfl, rfl⟩
  go_enter Tryz.func116, Tryz.ntmps116
  go_wp2_with (go_at_call 134; refine (h64 _).mono ?_; rintro e w1 ⟨rfl, rfl⟩)
  go_ret2
  exact ⟨rfl, rfl⟩
set_option maxHeartbeats 4000000 in
set_option maxRecDepth 100000 in
theorem repeat_any (c : Sc) (gx : Nat) (w : World) (hx : HasC w gx 39 (srcK c)) : Calls Tryz.prog 104 #[.slice (some ⟨gx, 0, none⟩) 1 1, .int .i64 24] w fun e w' => ∃ b, e = .returned (.slice (some ⟨b, 0, none⟩) 24 24) ∧ Sep w w' [srcsO (.slice (some ⟨b, 0, none⟩) 24 24) (List.replicate 24 c)] := by
  have HX := Lib.hid hx
  have HS := Lib.hid (Sep.start w)
  clear hx
  have T1 : Hid True := Lib.hid trivial
  have T2 : Hid True := Lib.hid trivial
  have T3 : Hid True := Lib.hid trivial
  go_enter Tryz.func104, Tryz.ntmps104
  go_wp2_with (first
    | (clear T1; go_at_call 116; refine (mul_one24 _).mono ?_; rintro e w1 ⟨rfl, rfl⟩)
    | (clear T2; at_make; refine wpList_mkB rfl (.tmp 29) (.tmp 29) 58 39 rfl Tryz.underlying58 infoSr3 (by decide) 24 rfl rfl (by decide) HS.out (repC_zero c) ?_; intro wa g hs; replace HS := Lib.hid hs; clear hs)
    | (clear T3; refine wpList_cpX 0 1 rfl (.tmp 31) (.tmp 32) rfl gx 1 1 24 0 24 rfl rfl HS.out rfl rfl (by decide) (fun j v hj => (HX.out.new HS.out.nw).cell (by rw [← repS_1]; exact hj)) (repS_l1 c) (repC_0 c) ?_; intro wb hs; replace HS := Lib.hid hs; clear hs))
  go_loopw [8] (fun nv wr => ∃ n : Nat, nv = .int .i64 n ∧ (n = 1 ∨ n = 2 ∨ n = 4 ∨ n = 8 ∨ n = 16 ∨ n = 24) ∧ Hid (Sep w wr [blk g 39 (repC n c)])) (fun nv wr => 24 - (intOf nv).toNat)
  case atStart => exact ⟨1, rfl, .inl rfl, HS⟩
  case round =>
    obtain ⟨n, rfl, hn, HT⟩ := hrel
    clear HS
    rcases hn with rfl | rfl | rfl | rfl | rfl | rfl
    · go_wp2_with fail
      have S0 : True := trivial
      refine wp_region_noPanic ?_
      refine region_late (k := 9) (S := fun _ => True) (by kernel_rfl) S0 (fun _ => ?_)
      refine late_take (i := 0) (v := .int .i64 1) rfl (by kernel_rfl) (by kernel_rfl) (by kernel_rfl) (by kernel_rfl) (fun _ _ _ h => h) (Or.inl ⟨rfl, fun _ _ => by go_simp⟩) S0 ?_
      simp only [List.getElem_toArray, List.getElem_cons_zero, Act.put, List.setIfInBounds_toArray, List.set_cons_zero, List.set_cons_succ]
      refine late_take (i := 1) (v := .slice (some ⟨g, 0, none⟩) 24 24) rfl (by kernel_rfl) (by kernel_rfl) (by kernel_rfl) (by kernel_rfl) (fun _ _ _ h => h) (Or.inl ⟨rfl, fun _ _ => by go_simp⟩) S0 ?_
      simp only [List.getElem_toArray, List.getElem_cons_zero, List.getElem_cons_succ, Act.put, List.setIfInBounds_toArray, List.set_cons_zero, List.set_cons_succ]
      refine late_take (i := 2) (v := .int .i64 1) rfl (by kernel_rfl) (by kernel_rfl) (by kernel_rfl) (by kernel_rfl) (fun _ _ _ h => h) (Or.inl ⟨rfl, fun _ _ => by go_simp⟩) S0 ?_
      simp only [List.getElem_toArray, List.getElem_cons_zero, List.getElem_cons_succ, Act.put, List.setIfInBounds_toArray, List.set_cons_zero, List.set_cons_succ]
      refine late_take (i := 3) (v := .slice (some ⟨g, 2, none⟩) 23 23) rfl (by kernel_rfl) (by kernel_rfl) (by kernel_rfl) (by kernel_rfl) (fun _ _ _ h => h) (Or.inl ⟨rfl, fun _ _ => by go_simp⟩) S0 ?_
      simp only [List.getElem_toArray, List.getElem_cons_zero, List.getElem_cons_succ, Act.put, List.setIfInBounds_toArray, List.set_cons_zero, List.set_cons_succ]
      refine late_take (i := 4) (v := .slice (some ⟨g, 0, none⟩) 24 24) rfl (by kernel_rfl) (by kernel_rfl) (by kernel_rfl) (by kernel_rfl) (fun _ _ _ h => h) (Or.inl ⟨rfl, fun _ _ => by go_simp⟩) S0 ?_
      simp only [List.getElem_toArray, List.getElem_cons_zero, List.getElem_cons_succ, Act.put, List.setIfInBounds_toArray, List.set_cons_zero, List.set_cons_succ]
      refine late_take (i := 5) (v := .int .i64 1) rfl (by kernel_rfl) (by kernel_rfl) (by kernel_rfl) (by kernel_rfl) (fun _ _ _ h => h) (Or.inl ⟨rfl, fun _ _ => by go_simp⟩) S0 ?_
      simp only [List.getElem_toArray, List.getElem_cons_zero, List.getElem_cons_succ, Act.put, List.setIfInBounds_toArray, List.set_cons_zero, List.set_cons_succ]
      refine late_take (i := 6) (v := .slice (some ⟨g, 0, none⟩) 1 24) rfl (by kernel_rfl) (by kernel_rfl) (by kernel_rfl) (by kernel_rfl) (fun _ _ _ h => h) (Or.inl ⟨rfl, fun _ _ => by go_simp⟩) S0 ?_
      simp only [List.getElem_toArray, List.getElem_cons_zero, List.getElem_cons_succ, Act.put, List.setIfInBounds_toArray, List.set_cons_zero, List.set_cons_succ]
      refine late_forced [7, 8, 9] _ _ _ (by kernel_rfl) ?_
      have hS := HT.out.go ((New.refl wr).drew)
      refine LL_cpX rfl rfl (fun _ => trivial) 1 1 (.tmp 41) (.tmp 44) rfl g 1 24 23 2 23 rfl rfl hS rfl rfl (by decide) (fun j v hj => (hS.has 0 rfl).cell (repS_at (n := 1) (m := 1) (by decide) (by decide) hj)) (repS_l1 c) (repC_1 c) ?_
      intro w2 hs
      simp only [List.getElem_toArray, List.getElem_cons_zero, List.getElem_cons_succ, Act.put, List.setIfInBounds_toArray, List.set_cons_zero, List.set_cons_succ]
      refine LL_val (v := .int .i64 2) (w' := w2) rfl rfl (by go_simp <;> decide) trivial ?_
      simp only [List.getElem_toArray, List.getElem_cons_zero, List.getElem_cons_succ, Act.put, List.setIfInBounds_toArray, List.set_cons_zero, List.set_cons_succ]
      refine LL_val (v := .int .i64 2) (w' := w2) rfl rfl (by go_simp <;> decide) trivial ?_
      simp only [List.getElem_toArray, List.getElem_cons_zero, List.getElem_cons_succ, Act.put, List.setIfInBounds_toArray, List.set_cons_zero, List.set_cons_succ]
      refine NoPanic.normal ?_
      replace HT := Lib.hid hs
      clear hs hS S0
      go_wp2
      go_roundw
      case rel => exact ⟨2, by go_num, by decide, HT⟩
      case measure => simp [intOf]
    · go_wp2_with fail
      have S0 : True := trivial
      refine wp_region_noPanic ?_
      refine region_late (k := 9) (S := fun _ => True) (by kernel_rfl) S0 (fun _ => ?_)
      refine late_take (i := 0) (v := .int .i64 2) rfl (by kernel_rfl) (by kernel_rfl) (by kernel_rfl) (by kernel_rfl) (fun _ _ _ h => h) (Or.inl ⟨rfl, fun _ _ => by go_simp⟩) S0 ?_
      simp only [List.getElem_toArray, List.getElem_cons_zero, Act.put, List.setIfInBounds_toArray, List.set_cons_zero, List.set_cons_succ]
      refine late_take (i := 1) (v := .slice (some ⟨g, 0, none⟩) 24 24) rfl (by kernel_rfl) (by kernel_rfl) (by kernel_rfl) (by kernel_rfl) (fun _ _ _ h => h) (Or.inl ⟨rfl, fun _ _ => by go_simp⟩) S0 ?_
      simp only [List.getElem_toArray, List.getElem_cons_zero, List.getElem_cons_succ, Act.put, List.setIfInBounds_toArray, List.set_cons_zero, List.set_cons_succ]
      refine late_take (i := 2) (v := .int .i64 2) rfl (by kernel_rfl) (by kernel_rfl) (by kernel_rfl) (by kernel_rfl) (fun _ _ _ h => h) (Or.inl ⟨rfl, fun _ _ => by go_simp⟩) S0 ?_
      simp only [List.getElem_toArray, List.getElem_cons_zero, List.getElem_cons_succ, Act.put, List.setIfInBounds_toArray, List.set_cons_zero, List.set_cons_succ]
      refine late_take (i := 3) (v := .slice (some ⟨g, 4, none⟩) 22 22) rfl (by kernel_rfl) (by kernel_rfl) (by kernel_rfl) (by kernel_rfl) (fun _ _ _ h => h) (Or.inl ⟨rfl, fun _ _ => by go_simp⟩) S0 ?_
      simp only [List.getElem_toArray, List.getElem_cons_zero, List.getElem_cons_succ, Act.put, List.setIfInBounds_toArray, List.set_cons_zero, List.set_cons_succ]
      refine late_take (i := 4) (v := .slice (some ⟨g, 0, none⟩) 24 24) rfl (by kernel_rfl) (by kernel_rfl) (by kernel_rfl) (by kernel_rfl) (fun _ _ _ h => h) (Or.inl ⟨rfl, fun _ _ => by go_simp⟩) S0 ?_
      simp only [List.getElem_toArray, List.getElem_cons_zero, List.getElem_cons_succ, Act.put, List.setIfInBounds_toArray, List.set_cons_zero, List.set_cons_succ]
      refine late_take (i := 5) (v := .int .i64 2) rfl (by kernel_rfl) (by kernel_rfl) (by kernel_rfl) (by kernel_rfl) (fun _ _ _ h => h) (Or.inl ⟨rfl, fun _ _ => by go_simp⟩) S0 ?_
      simp only [List.getElem_toArray, List.getElem_cons_zero, List.getElem_cons_succ, Act.put, List.setIfInBounds_toArray, List.set_cons_zero, List.set_cons_succ]
      refine late_take (i := 6) (v := .slice (some ⟨g, 0, none⟩) 2 24) rfl (by kernel_rfl) (by kernel_rfl) (by kernel_rfl) (by kernel_rfl) (fun _ _ _ h => h) (Or.inl ⟨rfl, fun _ _ => by go_simp⟩) S0 ?_
      simp only [List.getElem_toArray, List.getElem_cons_zero, List.getElem_cons_succ, Act.put, List.setIfInBounds_toArray, List.set_cons_zero, List.set_cons_succ]
      refine late_forced [7, 8, 9] _ _ _ (by kernel_rfl) ?_
      have hS := HT.out.go ((New.refl wr).drew)
      refine LL_cpX rfl rfl (fun _ => trivial) 2 2 (.tmp 41) (.tmp 44) rfl g 2 24 22 4 22 rfl rfl hS rfl rfl (by decide) (fun j v hj => (hS.has 0 rfl).cell (repS_at (n := 2) (m := 2) (by decide) (by decide) hj)) (repS_l2 c) (repC_2 c) ?_
      intro w2 hs
      simp only [List.getElem_toArray, List.getElem_cons_zero, List.getElem_cons_succ, Act.put, List.setIfInBounds_toArray, List.set_cons_zero, List.set_cons_succ]
      refine LL_val (v := .int .i64 4) (w' := w2) rfl rfl (by go_simp <;> decide) trivial ?_
      simp only [List.getElem_toArray, List.getElem_cons_zero, List.getElem_cons_succ, Act.put, List.setIfInBounds_toArray, List.set_cons_zero, List.set_cons_succ]
      refine LL_val (v := .int .i64 4) (w' := w2) rfl rfl (by go_simp <;> decide) trivial ?_
      simp only [List.getElem_toArray, List.getElem_cons_zero, List.getElem_cons_succ, Act.put, List.setIfInBounds_toArray, List.set_cons_zero, List.set_cons_succ]
      refine NoPanic.normal ?_
      replace HT := Lib.hid hs
      clear hs hS S0
      go_wp2
      go_roundw
      case rel => exact ⟨4, by go_num, by decide, HT⟩
      case measure => simp [intOf]
    · go_wp2_with fail
      have S0 : True := trivial
      refine wp_region_noPanic ?_
      refine region_late (k := 9) (S := fun _ => True) (by kernel_rfl) S0 (fun _ => ?_)
      refine late_take (i := 0) (v := .int .i64 4) rfl (by kernel_rfl) (by kernel_rfl) (by kernel_rfl) (by kernel_rfl) (fun _ _ _ h => h) (Or.inl ⟨rfl, fun _ _ => by go_simp⟩) S0 ?_
      simp only [List.getElem_toArray, List.getElem_cons_zero, Act.put, List.setIfInBounds_toArray, List.set_cons_zero, List.set_cons_succ]
      refine late_take (i := 1) (v := .slice (some ⟨g, 0, none⟩) 24 24) rfl (by kernel_rfl) (by kernel_rfl) (by kernel_rfl) (by kernel_rfl) (fun _ _ _ h => h) (Or.inl ⟨rfl, fun _ _ => by go_simp⟩) S0 ?_
      simp only [List.getElem_toArray, List.getElem_cons_zero, List.getElem_cons_succ, Act.put, List.setIfInBounds_toArray, List.set_cons_zero, List.set_cons_succ]
      refine late_take (i := 2) (v := .int .i64 4) rfl (by kernel_rfl) (by kernel_rfl) (by kernel_rfl) (by kernel_rfl) (fun _ _ _ h => h) (Or.inl ⟨rfl, fun _ _ => by go_simp⟩) S0 ?_
      simp only [List.getElem_toArray, List.getElem_cons_zero, List.getElem_cons_succ, Act.put, List.setIfInBounds_toArray, List.set_cons_zero, List.set_cons_succ]
      refine late_take (i := 3) (v := .slice (some ⟨g, 8, none⟩) 20 20) rfl (by kernel_rfl) (by kernel_rfl) (by kernel_rfl) (by kernel_rfl) (fun _ _ _ h => h) (Or.inl ⟨rfl, fun _ _ => by go_simp⟩) S0 ?_
      simp only [List.getElem_toArray, List.getElem_cons_zero, List.getElem_cons_succ, Act.put, List.setIfInBounds_toArray, List.set_cons_zero, List.set_cons_succ]
      refine late_take (i := 4) (v := .slice (some ⟨g, 0, none⟩) 24 24) rfl (by kernel_rfl) (by kernel_rfl) (by kernel_rfl) (by kernel_rfl) (fun _ _ _ h => h) (Or.inl ⟨rfl, fun _ _ => by go_simp⟩) S0 ?_
      simp only [List.getElem_toArray, List.getElem_cons_zero, List.getElem_cons_succ, Act.put, List.setIfInBounds_toArray, List.set_cons_zero, List.set_cons_succ]
      refine late_take (i := 5) (v := .int .i64 4) rfl (by kernel_rfl) (by kernel_rfl) (by kernel_rfl) (by kernel_rfl) (fun _ _ _ h => h) (Or.inl ⟨rfl, fun _ _ => by go_simp⟩) S0 ?_
      simp only [List.getElem_toArray, List.getElem_cons_zero, List.getElem_cons_succ, Act.put, List.setIfInBounds_toArray, List.set_cons_zero, List.set_cons_succ]
      refine late_take (i := 6) (v := .slice (some ⟨g, 0, none⟩) 4 24) rfl (by kernel_rfl) (by kernel_rfl) (by kernel_rfl) (by kernel_rfl) (fun _ _ _ h => h) (Or.inl ⟨rfl, fun _ _ => by go_simp⟩) S0 ?_
      simp only [List.getElem_toArray, List.getElem_cons_zero, List.getElem_cons_succ, Act.put, List.setIfInBounds_toArray, List.set_cons_zero, List.set_cons_succ]
      refine late_forced [7, 8, 9] _ _ _ (by kernel_rfl) ?_
      have hS := HT.out.go ((New.refl wr).drew)
      refine LL_cpX rfl rfl (fun _ => trivial) 4 4 (.tmp 41) (.tmp 44) rfl g 4 24 20 8 20 rfl rfl hS rfl rfl (by decide) (fun j v hj => (hS.has 0 rfl).cell (repS_at (n := 4) (m := 4) (by decide) (by decide) hj)) (repS_l4 c) (repC_4 c) ?_
      intro w2 hs
      simp only [List.getElem_toArray, List.getElem_cons_zero, List.getElem_cons_succ, Act.put, List.setIfInBounds_toArray, List.set_cons_zero, List.set_cons_succ]
      refine LL_val (v := .int .i64 8) (w' := w2) rfl rfl (by go_simp <;> decide) trivial ?_
      simp only [List.getElem_toArray, List.getElem_cons_zero, List.getElem_cons_succ, Act.put, List.setIfInBounds_toArray, List.set_cons_zero, List.set_cons_succ]
      refine LL_val (v := .int .i64 8) (w' := w2) rfl rfl (by go_simp <;> decide) trivial ?_
      simp only [List.getElem_toArray, List.getElem_cons_zero, List.getElem_cons_succ, Act.put, List.setIfInBounds_toArray, List.set_cons_zero, List.set_cons_succ]
      refine NoPanic.normal ?_
      replace HT := Lib.hid hs
      clear hs hS S0
      go_wp2
      go_roundw
      case rel => exact ⟨8, by go_num, by decide, HT⟩
      case measure => simp [intOf]
    · go_wp2_with fail
      have S0 : True := trivial
      refine wp_region_noPanic ?_
      refine region_late (k := 9) (S := fun _ => True) (by kernel_rfl) S0 (fun _ => ?_)
      refine late_take (i := 0) (v := .int .i64 8) rfl (by kernel_rfl) (by kernel_rfl) (by kernel_rfl) (by kernel_rfl) (fun _ _ _ h => h) (Or.inl ⟨rfl, fun _ _ => by go_simp⟩) S0 ?_
      simp only [List.getElem_toArray, List.getElem_cons_zero, Act.put, List.setIfInBounds_toArray, List.set_cons_zero, List.set_cons_succ]
      refine late_take (i := 1) (v := .slice (some ⟨g, 0, none⟩) 24 24) rfl (by kernel_rfl) (by kernel_rfl) (by kernel_rfl) (by kernel_rfl) (fun _ _ _ h => h) (Or.inl ⟨rfl, fun _ _ => by go_simp⟩) S0 ?_
      simp only [List.getElem_toArray, List.getElem_cons_zero, List.getElem_cons_succ, Act.put, List.setIfInBounds_toArray, List.set_cons_zero, List.set_cons_succ]
      refine late_take (i := 2) (v := .int .i64 8) rfl (by kernel_rfl) (by kernel_rfl) (by kernel_rfl) (by kernel_rfl) (fun _ _ _ h => h) (Or.inl ⟨rfl, fun _ _ => by go_simp⟩) S0 ?_
      simp only [List.getElem_toArray, List.getElem_cons_zero, List.getElem_cons_succ, Act.put, List.setIfInBounds_toArray, List.set_cons_zero, List.set_cons_succ]
      refine late_take (i := 3) (v := .slice (some ⟨g, 16, none⟩) 16 16) rfl (by kernel_rfl) (by kernel_rfl) (by kernel_rfl) (by kernel_rfl) (fun _ _ _ h => h) (Or.inl ⟨rfl, fun _ _ => by go_simp⟩) S0 ?_
      simp only [List.getElem_toArray, List.getElem_cons_zero, List.getElem_cons_succ, Act.put, List.setIfInBounds_toArray, List.set_cons_zero, List.set_cons_succ]
      refine late_take (i := 4) (v := .slice (some ⟨g, 0, none⟩) 24 24) rfl (by kernel_rfl) (by kernel_rfl) (by kernel_rfl) (by kernel_rfl) (fun _ _ _ h => h) (Or.inl ⟨rfl, fun _ _ => by go_simp⟩) S0 ?_
      simp only [List.getElem_toArray, List.getElem_cons_zero, List.getElem_cons_succ, Act.put, List.setIfInBounds_toArray, List.set_cons_zero, List.set_cons_succ]
      refine late_take (i := 5) (v := .int .i64 8) rfl (by kernel_rfl) (by kernel_rfl) (by kernel_rfl) (by kernel_rfl) (fun _ _ _ h => h) (Or.inl ⟨rfl, fun _ _ => by go_simp⟩) S0 ?_
      simp only [List.getElem_toArray, List.getElem_cons_zero, List.getElem_cons_succ, Act.put, List.setIfInBounds_toArray, List.set_cons_zero, List.set_cons_succ]
      refine late_take (i := 6) (v := .slice (some ⟨g, 0, none⟩) 8 24) rfl (by kernel_rfl) (by kernel_rfl) (by kernel_rfl) (by kernel_rfl) (fun _ _ _ h => h) (Or.inl ⟨rfl, fun _ _ => by go_simp⟩) S0 ?_
      simp only [List.getElem_toArray, List.getElem_cons_zero, List.getElem_cons_succ, Act.put, List.setIfInBounds_toArray, List.set_cons_zero, List.set_cons_succ]
      refine late_forced [7, 8, 9] _ _ _ (by kernel_rfl) ?_
      have hS := HT.out.go ((New.refl wr).drew)
      refine LL_cpX rfl rfl (fun _ => trivial) 8 8 (.tmp 41) (.tmp 44) rfl g 8 24 16 16 16 rfl rfl hS rfl rfl (by decide) (fun j v hj => (hS.has 0 rfl).cell (repS_at (n := 8) (m := 8) (by decide) (by decide) hj)) (repS_l8 c) (repC_8 c) ?_
      intro w2 hs
      simp only [List.getElem_toArray, List.getElem_cons_zero, List.getElem_cons_succ, Act.put, List.setIfInBounds_toArray, List.set_cons_zero, List.set_cons_succ]
      refine LL_val (v := .int .i64 16) (w' := w2) rfl rfl (by go_simp <;> decide) trivial ?_
      simp only [List.getElem_toArray, List.getElem_cons_zero, List.getElem_cons_succ, Act.put, List.setIfInBounds_toArray, List.set_cons_zero, List.set_cons_succ]
      refine LL_val (v := .int .i64 16) (w' := w2) rfl rfl (by go_simp <;> decide) trivial ?_
      simp only [List.getElem_toArray, List.getElem_cons_zero, List.getElem_cons_succ, Act.put, List.setIfInBounds_toArray, List.set_cons_zero, List.set_cons_succ]
      refine NoPanic.normal ?_
      replace HT := Lib.hid hs
      clear hs hS S0
      go_wp2
      go_roundw
      case rel => exact ⟨16, by go_num, by decide, HT⟩
      case measure => simp [intOf]
    · go_wp2_with fail
      have S0 : True := trivial
      refine wp_region_noPanic ?_
      refine region_late (k := 9) (S := fun _ => True) (by kernel_rfl) S0 (fun _ => ?_)
      refine late_take (i := 0) (v := .int .i64 16) rfl (by kernel_rfl) (by kernel_rfl) (by kernel_rfl) (by kernel_rfl) (fun _ _ _ h => h) (Or.inl ⟨rfl, fun _ _ => by go_simp⟩) S0 ?_
      simp only [List.getElem_toArray, List.getElem_cons_zero, Act.put, List.setIfInBounds_toArray, List.set_cons_zero, List.set_cons_succ]
      refine late_take (i := 1) (v := .slice (some ⟨g, 0, none⟩) 24 24) rfl (by kernel_rfl) (by kernel_rfl) (by kernel_rfl) (by kernel_rfl) (fun _ _ _ h => h) (Or.inl ⟨rfl, fun _ _ => by go_simp⟩) S0 ?_
      simp only [List.getElem_toArray, List.getElem_cons_zero, List.getElem_cons_succ, Act.put, List.setIfInBounds_toArray, List.set_cons_zero, List.set_cons_succ]
      refine late_take (i := 2) (v := .int .i64 16) rfl (by kernel_rfl) (by kernel_rfl) (by kernel_rfl) (by kernel_rfl) (fun _ _ _ h => h) (Or.inl ⟨rfl, fun _ _ => by go_simp⟩) S0 ?_
      simp only [List.getElem_toArray, List.getElem_cons_zero, List.getElem_cons_succ, Act.put, List.setIfInBounds_toArray, List.set_cons_zero, List.set_cons_succ]
      refine late_take (i := 3) (v := .slice (some ⟨g, 32, none⟩) 8 8) rfl (by kernel_rfl) (by kernel_rfl) (by kernel_rfl) (by kernel_rfl) (fun _ _ _ h => h) (Or.inl ⟨rfl, fun _ _ => by go_simp⟩) S0 ?_
      simp only [List.getElem_toArray, List.getElem_cons_zero, List.getElem_cons_succ, Act.put, List.setIfInBounds_toArray, List.set_cons_zero, List.set_cons_succ]
      refine late_take (i := 4) (v := .slice (some ⟨g, 0, none⟩) 24 24) rfl (by kernel_rfl) (by kernel_rfl) (by kernel_rfl) (by kernel_rfl) (fun _ _ _ h => h) (Or.inl ⟨rfl, fun _ _ => by go_simp⟩) S0 ?_
      simp only [List.getElem_toArray, List.getElem_cons_zero, List.getElem_cons_succ, Act.put, List.setIfInBounds_toArray, List.set_cons_zero, List.set_cons_succ]
      refine late_take (i := 5) (v := .int .i64 16) rfl (by kernel_rfl) (by kernel_rfl) (by kernel_rfl) (by kernel_rfl) (fun _ _ _ h => h) (Or.inl ⟨rfl, fun _ _ => by go_simp⟩) S0 ?_
      simp only [List.getElem_toArray, List.getElem_cons_zero, List.getElem_cons_succ, Act.put, List.setIfInBounds_toArray, List.set_cons_zero, List.set_cons_succ]
      refine late_take (i := 6) (v := .slice (some ⟨g, 0, none⟩) 16 24) rfl (by kernel_rfl) (by kernel_rfl) (by kernel_rfl) (by kernel_rfl) (fun _ _ _ h => h) (Or.inl ⟨rfl, fun _ _ => by go_simp⟩) S0 ?_
      simp only [List.getElem_toArray, List.getElem_cons_zero, List.getElem_cons_succ, Act.put, List.setIfInBounds_toArray, List.set_cons_zero, List.set_cons_succ]
      refine late_forced [7, 8, 9] _ _ _ (by kernel_rfl) ?_
      have hS := HT.out.go ((New.refl wr).drew)
      refine LL_cpX rfl rfl (fun _ => trivial) 16 8 (.tmp 41) (.tmp 44) rfl g 16 24 8 32 8 rfl rfl hS rfl rfl (by decide) (fun j v hj => (hS.has 0 rfl).cell (repS_at (n := 16) (m := 8) (by decide) (by decide) hj)) (repS_l8 c) (repC_16 c) ?_
      intro w2 hs
      simp only [List.getElem_toArray, List.getElem_cons_zero, List.getElem_cons_succ, Act.put, List.setIfInBounds_toArray, List.set_cons_zero, List.set_cons_succ]
      refine LL_val (v := .int .i64 24) (w' := w2) rfl rfl (by go_simp <;> decide) trivial ?_
      simp only [List.getElem_toArray, List.getElem_cons_zero, List.getElem_cons_succ, Act.put, List.setIfInBounds_toArray, List.set_cons_zero, List.set_cons_succ]
      refine LL_val (v := .int .i64 24) (w' := w2) rfl rfl (by go_simp <;> decide) trivial ?_
      simp only [List.getElem_toArray, List.getElem_cons_zero, List.getElem_cons_succ, Act.put, List.setIfInBounds_toArray, List.set_cons_zero, List.set_cons_succ]
      refine NoPanic.normal ?_
      replace HT := Lib.hid hs
      clear hs hS S0
      go_wp2
      go_roundw
      case rel => exact ⟨24, by go_num, by decide, HT⟩
      case measure => simp [intOf]
    · go_wp2_with fail
      go_ret
      exact ⟨g, rfl, blk_row HT.out (fun _ => rfl) (by show repC 24 c = _; unfold repC; rw [show 24 - 24 = 0 from rfl, List.replicate_zero, List.append_nil]) (by rw [List.length_replicate]) (by unfold maxLen; omega)⟩
def openT (N : Nat) : List (List Sc) := List.replicate N (List.replicate 24 (-1, 0))
set_option maxHeartbeats 4000000 in
set_option maxRecDepth 100000 in
theorem unknown_any (N : Nat) (w : World) (hN : N ≤ 1000) : Calls Tryz.prog 73 #[.int .i64 (N : Int)] w fun e w' => ∃ b, e = .returned (.slice (some ⟨b, 0, none⟩) N N) ∧ Sep w w' [factsO (.slice (some ⟨b, 0, none⟩) N N) (openT N)] := by
  have HS := Lib.hid (Sep.start w)
  have HL : Hid ((openT N).length = N) := Lib.hid (List.length_replicate ..)
  have HF0 : Hid (List.replicate N [] = fillT (openT N) [] 0) := Lib.hid (by rw [fill_zero, HL.out])
  have T1 : Hid True := Lib.hid trivial
  go_enter Tryz.func73, Tryz.ntmps73
  go_wp2_with (clear T1; at_make; refine wpList_mk1 rfl (.tmp 5) (.tmp 5) 57 58 rfl Tryz.underlying57 infoSs3 rfl (by decide) N rfl rfl (by omega) HS.out (E := nest srcsO) (x0 := []) srcs_0 ?_; intro wa g hs; rw [HF0.out] at hs; replace HS := Lib.hid hs; clear hs)
  go_loopw [9] (fun nv wr => ∃ n : Nat, nv = .int .i64 n ∧ n ≤ N ∧ Hid (Sep w wr [factsO (.slice (some ⟨g, 0, none⟩) N N) (fillT (openT N) [] n)])) (fun nv wr => N - (intOf nv).toNat)
  case atStart => exact ⟨0, rfl, by omega, HS⟩
  case round =>
    obtain ⟨n, rfl, hn, HT⟩ := hrel
    clear HS
    by_cases hnN : n < N
    · have HJ : Hid (n < (fillT (openT N) [] n).length) := Lib.hid (by rw [fill_len, HL.out]; exact hnN)
      have HE : Hid ((fillT (openT N) [] n).set n (List.replicate 24 (-1, 0)) = fillT (openT N) [] (n + 1)) := Lib.hid (fill_set (by unfold openT; rw [List.getElem?_replicate, if_pos hnN]))
      have hix := fun w => ixRow (P := Tryz.prog) Tryz.underlying57 sizeSs g n N N hnN w
      have U1 : Hid True := Lib.hid trivial
      have U2 : Hid True := Lib.hid trivial
      have U3 : Hid True := Lib.hid trivial
      have U4 : Hid True := Lib.hid trivial
      go_wp2_with (first
        | (clear U1; refine wpList_bd1 (a := .int .i64 (-1)) rfl 39 0 (.const (.int .i64 (-1))) rfl rfl (build_Sr1 (-1)) ?_)
        | (clear U2; refine wpList_bsB rfl 58 39 (.tmp 14) rfl Tryz.underlying58 infoSr3 (by decide) (by decide) (srcK (-1, 0)) _ rfl rfl rfl HT.out ?_; intro wb b hs; replace HT := Lib.hid hs; clear hs)
        | (clear U3; go_at_call 104; refine (repeat_any (-1, 0) b _ (HT.out.has 0 rfl)).mono ?_; rintro e wc ⟨bn, rfl, hs⟩; replace HT := Lib.hid ((HT.out.call hs).dropAt 1 (by simp)); clear hs)
        | (clear U4; refine wpList_stN 0 rfl rfl 58 (.tmp 17) (.tmp 16) rfl g N N n HJ.out rfl (P := srcsO) (y := List.replicate 24 (-1, 0)) (.slice (some ⟨bn, 0, none⟩) 24 24) rfl HT.out rfl rfl rfl infoSs ?_; intro wd hs; rw [HE.out] at hs; replace HT := Lib.hid hs; clear hs))
      go_roundw
      case rel => exact ⟨n + 1, by go_num, by omega, HT⟩
      case measure => simp [intOf]; omega
    · have HE : Hid (fillT (openT N) [] n = openT N) := Lib.hid (fill_done (by rw [HL.out]; omega))
      rw [HE.out] at HT
      go_wp2_with fail
      go_ret
      exact ⟨g, rfl, HT.out⟩
end Go.Proofs.YtphopkjgfkaihaaGreatDoor
namespace Go.Proofs.YtphopkjgfkaihaaGreatDoor
open Go.RowKit

/-- What all places have by all ways. -/
def rowT (f : List I) (s : Skl) (e : Int × Int) : List Sc := (List.range 24).map fun l => byA f s e l
def nodeT (f : List I) (s : Skl) (n : Nat) : List (List Sc) := (edgesA s (n : Int)).map (rowT f s)
def allT (f : List I) (s : Skl) : List (List (List Sc)) := (List.range s.nodes.length).map (nodeT f s)
theorem allT_len (f : List I) (s : Skl) : (allT f s).length = s.nodes.length := by simp [allT]
theorem allT_at {f : List I} {s : Skl} {n : Nat} (h : n < s.nodes.length) : (allT f s)[n]? = some (nodeT f s n) := by simp [allT, h]
theorem nodeT_at {f : List I} {s : Skl} {n k : Nat} {e : Int × Int} (h : (edgesA s (n : Int))[k]? = some e) : (nodeT f s n)[k]? = some (rowT f s e) := by simp [nodeT, h]
theorem rowT_at {f : List I} {s : Skl} {e : Int × Int} {l : Nat} (h : l < 24) : (rowT f s e)[l]? = some (byA f s e l) := by simp [rowT, h]
theorem good_out {s : Skl} (hB : GoodS s) {e : Int × Int} (h : hasE s e) : goodT (outE s e).2 = true := by
  unfold outE
  rcases h with ⟨h1, _⟩ | ⟨j, k, x, rfl, h1, h2⟩
  · rw [if_pos h1]
    exact hB.e
  · have h4 : ¬ ((j : Int), (k : Int)).1 = -1 := by show ¬ (j : Int) = -1; omega
    rw [if_neg h4]
    have h3 : s.nodes.getD j (0, []) = x := by rw [List.getD_eq_getElem?_getD, h1]; rfl
    have hk : x.2[k]? = some x.2[k] := List.getElem?_eq_getElem h2
    have ho : outN s ((j : Int), (k : Int)).1.toNat ((j : Int), (k : Int)).2.toNat = x.2[k] := by
      unfold outN
      show ((s.nodes.getD j (0, [])).2).getD k (0, newT) = _
      rw [h3, List.getD_eq_getElem?_getD, hk]
      rfl
    rw [ho]
    exact hB.o x (List.mem_of_getElem? h1) _ (List.getElem_mem h2)
theorem set_at {α : Type} {l : List α} {i : Nat} {y : α} (h : i < l.length) : (l.set i y)[i]? = some y := by
  rw [List.getElem?_set, if_pos rfl, if_pos h]
theorem infoFs3 : (Tryz.prog.info? 57).map (fun i => (i.zero, i.size, i.bytes)) = some (some (.slice none 0 0), 1, 24) := by kernel_rfl
theorem infoFs : (Tryz.prog.info? 57).map (·.size) = some 1 := by kernel_rfl
theorem sizeFs : ∀ w, (sizeOf 57).run Tryz.prog w = .ok 1 w := Tryz.sizeOf57
theorem facts_0 (w : World) : (nest factsO [] [.slice none 0 0]).on w (fun _ => False) := nest_nil (row_nil _ _ _ w)
theorem src_0 (w : World) : (leafE srcK ((0, 0) : Sc) (srcK (0, 0))).on w (fun _ => False) := rfl
theorem zero24 : (madeCells (Value.agg #[.int .i64 0, .int .i64 0]).cells (24 * 2)).toList = ((List.replicate 24 ((0, 0) : Sc)).map srcK).flatten := by kernel_rfl
theorem zeroEd_run (w : World) : (zeroValue 42).run Tryz.prog w = .ok (.agg #[.int .i64 0, .int .i64 0]) w := Tryz.zeroValue42 w
set_option maxHeartbeats 8000000 in
set_option maxRecDepth 100000 in
theorem all_in (fo : Option Addr) (n fc : Nat) (f : List I) (s : Skl) (na : Option Addr) (N nc : Nat) (w : World) (hl : Laid w) (hf : FunAt w (.slice fo n fc) f) (hs : (nodesO (.slice na N nc) s.nodes).rd w) (hN : s.nodes.length = N) (hN2 : N ≤ 200) (hB : GoodS s) (hi : InS f s) :
    Calls Tryz.prog 43 #[.slice fo n fc, .agg (skC s.entry (.slice na N nc)).toArray] w fun e w' => ∃ v, e = .returned v ∧ Sep w w' [allO v (allT f s)] := by
  have HR := Lib.hid hs
  have HN := Lib.hid hN
  have HB := Lib.hid hB
  have HS := Lib.hid (Sep.start w)
  have HL := Lib.hid hl
  have HF := Lib.hid hf
  have HI := Lib.hid hi
  have HTL : Hid ((allT f s).length = N) := Lib.hid ((allT_len f s).trans hN)
  have HT0 : Hid (List.replicate N [] = fillT (allT f s) [] 0) := Lib.hid (by rw [fill_zero, HTL.out])
  have HLN : Hid (∀ m : Int, (edgesA s m).length ≤ 100000) := Lib.hid fun m => by
    have h1 := ed_len (s := s) (m := N) (k := 0) (n := m) hB.b
    rw [ed_done (by rw [hN]; exact Nat.le_refl _), hN] at h1
    omega
  clear hs hN hB hl hf hi
  have T1 : Hid True := Lib.hid trivial
  have T2 : Hid True := Lib.hid trivial
  have T3 : Hid True := Lib.hid trivial
  have T4 : Hid True := Lib.hid trivial
  go_enter Tryz.func43, Tryz.ntmps43
  go_wp2_with (first
    | (clear T1; refine wpList_boxB rfl 34 (.tmp 1) rfl (skC s.entry (.slice na N nc)) rfl HS.out ?_; intro wa gb hs; replace HS := Lib.hid hs; clear hs)
    | (clear T2; refine wpList_load_mid rfl 34 (.tmp 3) rfl gb 0 rfl (skC s.entry (.slice na N nc)) _ (HasC.all (HS.out.has 0 rfl)) Tryz.underlying34 rfl (by rw [skC_len]; exact infoSk) ?_)
    | (clear T3; go_at_call 28; refine (ways_any s (.slice na N nc) _ (HR.out.new HS.out.nw) (by rw [HN.out]; omega) HB.out.b).mono ?_; rw [HN.out]; rintro e w5 ⟨vw, rfl, hs⟩; obtain ⟨wwa, wwc, hv⟩ := rowA_form hs.hd; rw [edTab_len] at hv; subst hv; have N5 := Lib.hid (HS.out.call hs).nw; have HW5 := Lib.hid (hs.rd 0 rfl); have HB5 := Lib.hid (HasC.new (HS.out.has 0 rfl) hs.nw); replace HS := Lib.hid (Sep.start w5); clear hs)
    | (clear T4; at_make; refine wpList_mk1 rfl (.tmp 19) (.tmp 19) 53 57 rfl Tryz.underlying53 infoFs3 rfl (by decide) N rfl rfl (by omega) HS.out (E := nest factsO) (x0 := []) facts_0 ?_; intro wb va hs; rw [HT0.out] at hs; replace HS := Lib.hid hs; clear hs))
  go_loopw [23] (fun iv wr => ∃ m : Nat, iv = .int .i64 (m : Int) ∧ m ≤ N ∧ Hid (Sep w5 wr [allO (.slice (some ⟨va, 0, none⟩) N N) (fillT (allT f s) [] m)])) (fun iv _ => N - (intOf iv).toNat)
  case atStart => exact ⟨0, rfl, by omega, HS⟩
  case round =>
    obtain ⟨m, rfl, hm, HT⟩ := hrel
    clear HS
    by_cases hmN : m < N
    · obtain ⟨L, HLm⟩ : ∃ L, Hid (nodeT f s m = L) := ⟨_, Lib.hid rfl⟩
      obtain ⟨es, HES⟩ : ∃ es, Hid (edgesA s (m : Int) = es) := ⟨_, Lib.hid rfl⟩
      obtain ⟨K, HK⟩ : ∃ K, Hid (es.length = K) := ⟨_, Lib.hid rfl⟩
      have hK : K ≤ 100000 := by rw [← HK.out, ← HES.out]; exact HLN.out _
      have HLL : Hid (L.length = K) := Lib.hid (by rw [← HLm.out, ← HK.out, ← HES.out, nodeT, List.length_map])
      have HJ : Hid (m < (fillT (allT f s) [] m).length) := Lib.hid (by rw [fill_len, HTL.out]; exact hmN)
      have HE0 : Hid ((fillT (allT f s) [] m).set m (List.replicate K []) = (fillT (allT f s) [] m).set m (fillT L [] 0)) := Lib.hid (by rw [fill_zero, HLL.out])
      obtain ⟨b2, o2, c2, _, i2, r2, hE2⟩ := rowA_ix (P := Tryz.prog) HW5.out 88 Tryz.underlying88 sizeEs (edTab_at (edgesA s) hmN)
      obtain ⟨ve, hc2, hre⟩ := es_rd hE2
      subst hc2
      rw [HES.out] at hre
      obtain ⟨ea, ec, hv⟩ := rowA_form hre
      rw [HK.out] at hv
      subst hv
      have HRE := Lib.hid hre
      have y0 := r2 _ HT.out.nw 0 _ rfl
      rw [Nat.add_zero] at y0
      have hixm := fun w => ixRow (P := Tryz.prog) Tryz.underlying53 sizeFs va m N N hmN w
      clear r2 hE2 hre
      have U1 : Hid True := Lib.hid trivial
      have U2 : Hid True := Lib.hid trivial
      go_wp2_with (first
        | (clear U1; at_make; refine wpList_mk1 rfl (.tmp 31) (.tmp 31) 57 58 rfl Tryz.underlying57 infoSs3 rfl (by decide) K rfl rfl (by omega) HT.out (E := nest srcsO) (x0 := []) srcs_0 ?_; intro wc vm hs; replace HT := Lib.hid hs; clear hs y0)
        | (clear U2; refine wpList_stN 0 rfl rfl 57 (.tmp 33) (.tmp 32) rfl va N N m HJ.out rfl (P := factsO) (y := List.replicate K []) (.slice (some ⟨vm, 0, none⟩) K K) rfl HT.out rfl rfl rfl infoFs ?_; intro wd hs; replace HT := Lib.hid ((show Sep w5 wd [allO (.slice (some ⟨va, 0, none⟩) N N) ((fillT (allT f s) [] m).set m (List.replicate K []))] from hs)); rw [HE0.out] at HT; clear hs))
      go_loopw [36] (fun jv wq => ∃ j : Nat, jv = .int .i64 (j : Int) ∧ j ≤ K ∧ Hid (Sep w5 wq [allO (.slice (some ⟨va, 0, none⟩) N N) ((fillT (allT f s) [] m).set m (fillT L [] j))])) (fun jv _ => K - (intOf jv).toNat)
      case atStart => exact ⟨0, rfl, by omega, HT⟩
      case round =>
        obtain ⟨j, rfl, hj, HU⟩ := hrel
        clear HT i2
        by_cases hjK : j < K
        · obtain ⟨e, he⟩ : ∃ e, es[j]? = some e := ⟨_, List.getElem?_eq_getElem (by rw [HK.out]; exact hjK)⟩
          have HEM : Hid (e ∈ edgesA s (m : Int)) := Lib.hid (by rw [HES.out]; exact List.mem_of_getElem? he)
          obtain ⟨R, HR2⟩ : ∃ R, Hid (rowT f s e = R) := ⟨_, Lib.hid rfl⟩
          have HRL : Hid (R.length = 24) := Lib.hid (by rw [← HR2.out]; simp [rowT])
          have HLJ : Hid (L[j]? = some R) := Lib.hid (by rw [← HLm.out, ← HR2.out]; exact nodeT_at (by rw [HES.out]; exact he))
          obtain ⟨b3, o3, i3, r3⟩ := leaf_ix (P := Tryz.prog) HRE.out 55 Tryz.underlying55 sizeEd he
          have HR3 := Lib.hid r3
          obtain ⟨o, HO⟩ : ∃ o, Hid (outE s e = o) := ⟨_, Lib.hid rfl⟩
          have HG : Hid (goodT o.2 = true) := Lib.hid (by
            rw [← HO.out]
            exact good_out HB.out (edge_has HEM.out))
          have HF0 : Hid (List.replicate 24 ((0, 0) : Sc) = fillT R (0, 0) 0) := Lib.hid (by rw [fill_zero, HRL.out])
          clear he r3
          have V1 : Hid True := Lib.hid trivial
          have V2 : Hid True := Lib.hid trivial
          have V3 : Hid True := Lib.hid trivial
          have V4 : Hid True := Lib.hid trivial
          have V5 : Hid True := Lib.hid trivial
          have V6 : Hid True := Lib.hid trivial
          have V7 : Hid True := Lib.hid trivial
          have V8 : Hid True := Lib.hid trivial
          have V9 : Hid True := Lib.hid trivial
          have V10 : Hid True := Lib.hid trivial
          go_wp2_with (first
            | (clear V1; refine wpList_load_mid rfl 42 (.tmp 39) rfl b3 o3 rfl (edK e) _ (HR3.out _ HU.out.nw) Tryz.underlying42 rfl infoEd2 ?_)
            | (clear V2; refine wpList_alB rfl 42 rfl _ zeroEd_run _ rfl HU.out ?_; intro w1 ge hs; replace HU := Lib.hid hs; clear hs)
            | (clear V3; refine wpList_stSW 0 rfl rfl 42 (.tmp 10) (.tmp 40) rfl ge rfl _ rfl HU.out rfl (edK e) rfl rfl (by simp [edK, Value.oneCell']) infoEd2 ?_; intro w2 hs; replace HU := Lib.hid hs; clear hs)
            | (clear V4; refine wpList_load_mid rfl 34 (.tmp 3) rfl gb 0 rfl (skC s.entry (.slice na N nc)) _ (HasC.all (HasC.new HB5.out HU.out.nw)) Tryz.underlying34 rfl (by rw [skC_len]; exact infoSk) ?_)
            | (clear V5; refine wpList_load_mid rfl 42 (.tmp 10) rfl ge 0 rfl (edK e) _ (HasC.all (HU.out.has 0 rfl)) Tryz.underlying42 rfl infoEd2 ?_)
            | (clear V6; go_at_call 35; refine (way_yes (HR.out.new (N5.out.trans HU.out.nw)) (by rw [HN.out]; omega) HB.out (edge_has HEM.out)).mono ?_; rw [HO.out]; rintro e2 w3 ⟨rfl, hn⟩; replace HU := Lib.hid (HU.out.go hn); clear hn)
            | (clear V7; refine wpList_alB rfl 31 rfl _ zeroOt_run _ rfl HU.out ?_; intro w4 go hs; replace HU := Lib.hid hs; clear hs)
            | (clear V8; refine wpList_stSW 0 rfl rfl 31 (.tmp 11) (.tmp 45) rfl go rfl _ rfl HU.out rfl (outK o) rfl (by rw [outK_len, outK_len]) (outK_one _) (by rw [outK_len]; exact infoO) ?_; intro w6 hs; replace HU := Lib.hid hs; clear hs)
            | (clear V9; at_make; refine wpList_mkB rfl (.const (.int .i64 24)) (.const (.int .i64 24)) 58 39 rfl Tryz.underlying58 infoSr3 (by decide) 24 rfl rfl (by decide) HU.out zero24 ?_; intro w7 vh hs; have hs2 := blk_row hs (k := 2) (mk := srcK) (n := 24) (fun _ => rfl) rfl (by rw [List.length_replicate]) (by unfold maxLen; omega); rw [HF0.out] at hs2; replace HU := Lib.hid hs2; clear hs hs2)
            | (clear V10; refine wpList_load_mid rfl 29 (.tmp 48) rfl go 1 rfl (cellsT o.2).toList _ (fun j v hv => HU.out.cell 1 rfl (outK_t1 o j v hv)) Tryz.underlying29 rfl (by rw [cellsT_len]; exact infoT) ?_))
          have HX : Hid (∀ k : Nat, k < 24 → ∀ w : World, (Instr.index 29 (.agg (cellsT o.2)) (.int .i64 (k : Int))).run Tryz.prog w = .ok (sv (o.2 k)) w) := Lib.hid (fun k hk w => run_ixT o.2 k hk w)
          go_loopw [50] (fun iv wz => ∃ i : Nat, iv = .int .i64 (i : Int) ∧ i ≤ 24 ∧ Hid (Sep w5 wz [srcsO (.slice (some ⟨vh, 0, none⟩) 24 24) (fillT R (0, 0) i), blk go 31 (outK o), blk ge 42 (edK e), allO (.slice (some ⟨va, 0, none⟩) N N) ((fillT (allT f s) [] m).set m (fillT L [] j))])) (fun iv _ => 24 - (intOf iv).toNat)
          case atStart => exact ⟨0, rfl, by omega, HU⟩
          case round =>
            obtain ⟨i, rfl, hi, HY⟩ := hrel
            clear HU i3
            by_cases hi24 : i < 24
            · have hx := HX.out i hi24
              have HIL : Hid (i < (fillT R (0, 0) i).length) := Lib.hid (by rw [fill_len, HRL.out]; exact hi24)
              have HTO : Hid (toldA f s e.1 (o.2 i) = byA f s e i) := Lib.hid (by rw [by_told, HO.out])
              have HFS : Hid ((fillT R (0, 0) i).set i (byA f s e i) = fillT R (0, 0) (i + 1)) := Lib.hid (fill_set (by rw [← HR2.out]; exact rowT_at hi24))
              have HOK : Hid (okS (o.2 i) = true) := Lib.hid (good_at HG.out hi24)
              have HFM : Hid (e.1 = -1 ∨ 0 ≤ e.1 ∧ e.1 < s.nodes.length) := Lib.hid (by
                rcases edge_from HEM.out with h | ⟨h, h'⟩
                · exact .inl h
                · exact .inr ⟨h, by omega⟩)
              have hixi := fun w => ixRow (P := Tryz.prog) Tryz.underlying58 sizeSr vh i 24 24 hi24 w
              have ce := HY.out.cell 2 rfl (k := 0) rfl
              have X1 : Hid True := Lib.hid trivial
              have X2 : Hid True := Lib.hid trivial
              have X3 : Hid True := Lib.hid trivial
              go_wp2_with (first
                | (clear X1; refine wpList_load_mid rfl 34 (.tmp 3) rfl gb 0 rfl (skC s.entry (.slice na N nc)) _ (HasC.all (HasC.new HB5.out HY.out.nw)) Tryz.underlying34 rfl (by rw [skC_len]; exact infoSk) ?_)
                | (clear X2; go_at_call 38; refine (told_any (HL.out.new (N5.out.trans HY.out.nw)) (HF.out.new (N5.out.trans HY.out.nw)) (HR.out.new (N5.out.trans HY.out.nw)) HFM.out HI.out HOK.out).mono ?_; rw [HTO.out]; rintro e2 w3 ⟨rfl, hn⟩; replace HY := Lib.hid (HY.out.go hn); clear hn ce)
                | (clear X3; refine wpList_stLw 0 rfl rfl 39 (.tmp 62) (.tmp 61) rfl vh 24 24 i HIL.out rfl (y := byA f s e i) (.agg (srcK (byA f s e i)).toArray) rfl HY.out rfl (by decide) rfl rfl (srcK_one _) infoSr ?_; intro w4 hs; rw [HFS.out] at hs; replace HY := Lib.hid hs; clear hs))
              go_roundw
              case rel => exact ⟨i + 1, by go_num, by omega, HY⟩
              case measure => simp [intOf]; omega
            · have HFD : Hid (fillT R (0, 0) i = R) := Lib.hid (fill_done (by rw [HRL.out]; omega))
              rw [HFD.out] at HY
              have HJL : Hid (m < (fillT (allT f s) [] m).length) := Lib.hid (by rw [fill_len, HTL.out]; exact hmN)
              obtain ⟨bx, cx, c5, hv5, _, hrg5, hs5⟩ := HY.out.openAt 3 rfl (set_at HJL.out)
              simp only [Value.slice.injEq, Option.some.injEq, Addr.mk.injEq, and_true] at hv5
              obtain ⟨hbx, hlen5, hcx⟩ := hv5
              subst hbx
              obtain ⟨v57, hc5, hs6⟩ := Sep.unnest hs5
              subst hc5
              have HJ2 : Hid (j < (fillT L [] j).length) := Lib.hid (by rw [fill_len, HLL.out]; exact hjK)
              obtain ⟨bq, cq, c6, hv6, _⟩ := rowA_at (hs6.rd 0 rfl) (List.getElem?_eq_getElem HJ2.out)
              rw [fill_len, HLL.out] at hv6
              subst hv6
              have HYY := Lib.hid (hs6.pull 1 rfl)
              have HFE : Hid ((fillT L [] j).set j R = fillT L [] (j + 1)) := Lib.hid (fill_set HLJ.out)
              have y57 := hrg5 0 _ rfl
              rw [Nat.add_zero, Nat.mul_one] at y57
              have hixj := fun w => ixRow (P := Tryz.prog) Tryz.underlying57 sizeSs bq j K cq hjK w
              clear HY hs5 hs6 hrg5 hlen5 hcx
              have X1 : Hid True := Lib.hid trivial
              go_wp2_with (clear X1; refine wpList_stN 0 rfl rfl 58 (.tmp 70) (.tmp 69) rfl bq K cq j HJ2.out rfl (P := srcsO) (y := R) (.slice (some ⟨vh, 0, none⟩) 24 24) rfl HYY.out rfl rfl rfl infoSs ?_; intro w4 hs; rw [HFE.out] at hs; replace HYY := Lib.hid hs; clear hs y57)
              have h7 := Sep.nest (P := factsO) HYY.out
              have h8 := (h7.pull 3 rfl).pull 1 rfl
              have h9 := Sep.back h8 rfl
              rw [List.set_set] at h9
              replace HYY := Lib.hid ((h9.dropAt 1 (by simp)).dropAt 1 (by simp))
              clear h7 h8 h9
              go_roundw
              case rel => exact ⟨j + 1, by go_num, by omega, HYY⟩
              case measure => simp [intOf]; omega
        · have HFD : Hid ((fillT (allT f s) [] m).set m (fillT L [] j) = fillT (allT f s) [] (m + 1)) := Lib.hid (by
            rw [fill_done (L := L) (by rw [HLL.out]; omega), fill_set (by rw [← HLm.out]; exact allT_at (by rw [HN.out]; exact hmN))])
          rw [HFD.out] at HU
          go_wp2_with fail
          go_roundw
          case rel => exact ⟨m + 1, by go_num, by omega, HU⟩
          case measure => simp [intOf]; omega
    · have HFD : Hid (fillT (allT f s) [] m = allT f s) := Lib.hid (fill_done (by rw [HTL.out]; omega))
      rw [HFD.out] at HT
      go_wp2_with fail
      go_ret
      exact ⟨_, rfl, (Sep.of_new N5.out).call HT.out⟩
end Go.Proofs.YtphopkjgfkaihaaGreatDoor
