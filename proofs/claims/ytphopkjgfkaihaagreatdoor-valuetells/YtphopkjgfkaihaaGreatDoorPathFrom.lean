/-
  Layer 9 in plain words: where what only moves leads, by how many steps, with which table; that it goes round for ever where it meets a place again. No program stands in this text.
  Layer 9: a path's cells in memory, and the flags of what was met: loads and stores of a part, at the operation.
  The contracts of path.behind, of the closure that is a step, and of path.From: for every input.
  The contract of path.From: for every function and place.
  The contract of path.From where it may be asked: for every function and place.
-/
import Derived.Test.YtphopkjgfkaihaaGreatDoorPlain
import Derived.Test.YtphopkjgfkaihaaGreatDoorEnvAfter
import Derived.Test.YtphopkjgfkaihaaGreatDoorCells
import Derived.Test.YtphopkjgfkaihaaGreatDoorInsMv
import Derived.Test.YtphopkjgfkaihaaGreatDoorAsmAll
import Derived.Deep.LoopGhost
namespace Go.Proofs.YtphopkjgfkaihaaGreatDoor
open Go.RowKit

def mvA (f : List I) (p : Int) : Bool := movesB (insA f p).op
def nxA (f : List I) (p : Int) : Int := if (insA f p).op = 16 then (insA f p).t else p + 1
def itA (f : List I) (p : Int) : Nat → Int
  | 0 => p
  | n + 1 => nxA f (itA f p n)
def tbA (f : List I) (p : Int) : Nat → Tb
  | 0 => newT
  | n + 1 => aft (tbA f p n) (insA f (itA f p n))
theorem good_tb (f : List I) (p : Int) : ∀ n, goodT (tbA f p n) = true
  | 0 => good_new
  | _ + 1 => good_aft _ _
theorem it_add (f : List I) (p : Int) (a : Nat) : ∀ b, itA f p (a + b) = itA f (itA f p a) b
  | 0 => rfl
  | b + 1 => by
    show nxA f (itA f p (a + b)) = nxA f (itA f (itA f p a) b)
    rw [it_add f p a b]
theorem it_one (f : List I) (p : Int) (n : Nat) : itA f p (n + 1) = itA f (nxA f p) n := by
  rw [show n + 1 = 1 + n by omega, it_add]
  rfl
/-- A place of a function that is right. -/
def InF (f : List I) (p : Int) : Prop := (chkF f).2 = 0 ∧ 0 ≤ p ∧ p < f.length
theorem mcOf {f : List I} {p : Int} (h : InF f p) : mcB f ⟨fun _ => (true, 0), [], p, 0⟩ = true := by
  refine mc_iff.mpr ⟨h.1, h.2.1, h.2.2, by simp, by simp, ?_⟩
  exact words_mk fun i _ => rfl
theorem ri_in {f : List I} {p : Int} (h : InF f p) : Ri (insA f p) f.length := ri_at (mcOf h)
theorem nx_in {f : List I} {p : Int} (h : InF f p) (hm : mvA f p = true) : InF f (nxA f p) := by
  have hr := ri_in h
  refine ⟨h.1, ?_⟩
  unfold nxA
  by_cases e : (insA f p).op = 16
  · rw [if_pos e]
    exact hr.t0 (.inl e)
  · rw [if_neg e]
    have h18 : (insA f p).op ≠ 18 := by
      intro e18
      unfold mvA movesB at hm
      rw [e18] at hm
      revert hm
      decide
    have := not_last (mcOf h) e h18
    have h0 := h.2.1
    exact ⟨by omega, this⟩
theorem it_in {f : List I} {p : Int} (h : InF f p) : ∀ {n : Nat}, (∀ k < n, mvA f (itA f p k) = true) → InF f (itA f p n)
  | 0, _ => h
  | n + 1, hm => nx_in (it_in h (n := n) fun k hk => hm k (by omega)) (hm n (by omega))
/-- It leads, by so many steps. -/
def Leads (f : List I) (p : Int) (n : Nat) : Prop := (∀ k < n, mvA f (itA f p k) = true) ∧ mvA f (itA f p n) = false
/-- It leads nowhere. -/
def Never (f : List I) (p : Int) : Prop := ∀ k, mvA f (itA f p k) = true
def Wy (f : List I) (p : Int) : Option Nat → Prop
  | some n => Leads f p n
  | none => Never f p
theorem least {P : Nat → Bool} : ∀ n, P n = false → ∃ m, (∀ k < m, P k = true) ∧ P m = false := by
  intro n
  induction n using Nat.strongRecOn with
  | _ n ih =>
    intro h
    by_cases e : ∃ k, k < n ∧ P k = false
    · obtain ⟨k, hk, hp⟩ := e
      exact ih k hk hp
    · refine ⟨n, fun k hk => ?_, h⟩
      cases hp : P k with
      | true => rfl
      | false => exact absurd ⟨k, hk, hp⟩ e
theorem wy_ex (f : List I) (p : Int) : ∃ o, Wy f p o := by
  by_cases h : ∃ n, mvA f (itA f p n) = false
  · obtain ⟨n, hn⟩ := h
    obtain ⟨m, h1, h2⟩ := least (P := fun k => mvA f (itA f p k)) n hn
    exact ⟨some m, h1, h2⟩
  · refine ⟨none, fun k => ?_⟩
    cases hp : mvA f (itA f p k) with
    | true => rfl
    | false => exact absurd ⟨k, hp⟩ h
theorem leads_one {f : List I} {p : Int} {n m : Nat} (h : Leads f p n) (h' : Leads f p m) : n = m := by
  rcases Nat.lt_trichotomy n m with e | e | e
  · have := h'.1 n e
    rw [h.2] at this
    cases this
  · exact e
  · have := h.1 m e
    rw [h'.2] at this
    cases this
theorem wy_one {f : List I} {p : Int} : ∀ {o o' : Option Nat}, Wy f p o → Wy f p o' → o = o'
  | some _, some _, h, h' => by rw [leads_one h h']
  | none, none, _, _ => rfl
  | some n, none, h, h' => by
    have := h.2
    rw [h' n] at this
    cases this
  | none, some n, h, h' => by
    have := h'.2
    rw [h n] at this
    cases this
/-- What meets a place again goes round for ever. -/
theorem round_never {f : List I} {p : Int} {j n : Nat} (hj : j < n) (he : itA f p j = itA f p n) (hm : ∀ k < n, mvA f (itA f p k) = true) : Never f p := by
  intro k
  induction k using Nat.strongRecOn with
  | _ k ih =>
    by_cases hk : k < n
    · exact hm k hk
    · have e : itA f p k = itA f p (j + (k - n)) := by
        rw [it_add, he, ← it_add]
        congr 1
        omega
      rw [e]
      exact ih _ (by omega)
theorem pigeon : ∀ (n : Nat) (g : Nat → Nat), (∀ k ≤ n, g k < n) → ∃ j k, j < k ∧ k ≤ n ∧ g j = g k
  | 0, _, h => absurd (h 0 (Nat.le_refl 0)) (by omega)
  | n + 1, g, h => by
    by_cases e : ∃ j, j ≤ n ∧ g j = g (n + 1)
    · obtain ⟨j, hj, he⟩ := e
      exact ⟨j, n + 1, by omega, by omega, he⟩
    · have ne : ∀ j ≤ n, g j ≠ g (n + 1) := fun j hj he => e ⟨j, hj, he⟩
      obtain ⟨j, k, h1, h2, h3⟩ := pigeon n (fun k => if g k = n then g (n + 1) else g k) (by
        intro k hk
        have a := h k (by omega)
        have b := h (n + 1) (by omega)
        have c := ne k hk
        show (if g k = n then g (n + 1) else g k) < n
        split <;> omega)
      refine ⟨j, k, h1, by omega, ?_⟩
      have c1 := ne j (by omega)
      have c2 := ne k (by omega)
      have h3' : (if g j = n then g (n + 1) else g j) = (if g k = n then g (n + 1) else g k) := h3
      split at h3' <;> split at h3' <;> omega
/-- As many moves as there are instructions: it goes round. -/
theorem full_never {f : List I} {p : Int} (h : InF f p) {n : Nat} (hn : f.length ≤ n) (hm : ∀ k < n, mvA f (itA f p k) = true) : Never f p := by
  have hi : ∀ k ≤ n, InF f (itA f p k) := fun k hk => it_in h fun j hj => hm j (by omega)
  obtain ⟨j, k, h1, h2, h3⟩ := pigeon f.length (fun k => (itA f p k).toNat) (by
    intro k hk
    have := (hi k (by omega)).2
    show (itA f p k).toNat < f.length
    omega)
  have a := (hi j (by omega)).2
  have b := (hi k (by omega)).2
  have h3' : (itA f p j).toNat = (itA f p k).toNat := h3
  exact round_never h1 (by omega) fun i hik => hm i (by omega)
/-- A path has fewer steps than there are instructions. -/
theorem leads_lt {f : List I} {p : Int} (h : InF f p) {n : Nat} (hl : Leads f p n) : n < f.length := by
  by_cases e : n < f.length
  · exact e
  · have := full_never h (by omega) hl.1 n
    rw [hl.2] at this
    cases this
/-- Which places were met. -/
def flA (f : List I) (p : Int) : Nat → Nat → Bool
  | 0, _ => false
  | n + 1, q => if q = (itA f p n).toNat then true else flA f p n q
theorem fl_iff {f : List I} {p : Int} : ∀ {n q : Nat}, flA f p n q = true ↔ ∃ k < n, (itA f p k).toNat = q
  | 0, q => by simp [flA]
  | n + 1, q => by
    rw [flA]
    constructor
    · intro h
      split at h
      · next e => exact ⟨n, by omega, e.symm⟩
      · obtain ⟨k, hk, e⟩ := fl_iff.mp h
        exact ⟨k, by omega, e⟩
    · rintro ⟨k, hk, e⟩
      split
      · rfl
      · next ne =>
        refine fl_iff.mpr ⟨k, ?_, e⟩
        rcases Nat.lt_or_ge k n with h | h
        · exact h
        · have : k = n := by omega
          subst this
          exact absurd e.symm ne
theorem met_never {f : List I} {p : Int} (h : InF f p) {n : Nat} (hm : ∀ k < n, mvA f (itA f p k) = true) (hf : flA f p n (itA f p n).toNat = true) : Never f p := by
  obtain ⟨k, hk, e⟩ := fl_iff.mp hf
  have a := (it_in h (n := k) fun j hj => hm j (by omega)).2
  have b := (it_in h (n := n) hm).2
  exact round_never hk (by omega) hm
/-- As long as no place was met again there are fewer steps than instructions. -/
theorem unmet_lt {f : List I} {p : Int} (h : InF f p) {n : Nat} (hm : ∀ k ≤ n, mvA f (itA f p k) = true) (hu : ∀ k ≤ n, flA f p k (itA f p k).toNat = false) : n < f.length := by
  by_cases e : n < f.length
  · exact e
  · have hi : ∀ k ≤ n, InF f (itA f p k) := fun k hk => it_in h fun j hj => hm j (by omega)
    obtain ⟨j, k, h1, h2, h3⟩ := pigeon f.length (fun k => (itA f p k).toNat) (by
      intro k hk
      have := (hi k (by omega)).2
      show (itA f p k).toNat < f.length
      omega)
    have := hu k (by omega)
    rw [fl_iff.mpr ⟨j, h1, h3⟩] at this
    cases this
/-! What a path answers. -/
def toP (f : List I) (p : Int) : Option Nat → Int
  | some n => itA f p n
  | none => -1
def tbP (f : List I) (p : Int) : Option Nat → Tb
  | some n => tbA f p n
  | none => newT
def stP : Option Nat → Int
  | some n => n
  | none => 0
theorem good_tbP (f : List I) (p : Int) : ∀ o, goodT (tbP f p o) = true
  | some n => good_tb f p n
  | none => good_new
/-- From where it leads it leads no further; and a step less is one less. -/
theorem leads_end {f : List I} {p : Int} {n : Nat} (h : Leads f p n) : Leads f (itA f p n) 0 := ⟨fun k hk => absurd hk (by omega), h.2⟩
theorem leads_rest {f : List I} {p : Int} {n k : Nat} (h : Leads f p n) (hk : k ≤ n) : Leads f (itA f p k) (n - k) := by
  refine ⟨fun j hj => ?_, ?_⟩
  · rw [← it_add]
    exact h.1 _ (by omega)
  · rw [← it_add, show k + (n - k) = n by omega]
    exact h.2
theorem never_rest {f : List I} {p : Int} (h : Never f p) (k : Nat) : Never f (itA f p k) := by
  intro j
  rw [← it_add]
  exact h _
/-- A state behind so many moves. -/
def mvS (f : List I) (s : Mc) (n : Nat) : Mc := ⟨fil (tbA f s.p n) s.l, s.h, itA f s.p n, s.q⟩
theorem fil_new (l : Ws) : fil newT l = l := by
  funext i
  unfold fil
  rw [orN_good good_new]
  simp [newT]
theorem mvS_zero (f : List I) (s : Mc) : mvS f s 0 = s := by
  unfold mvS
  show (⟨fil newT s.l, s.h, s.p, s.q⟩ : Mc) = s
  rw [fil_new]
theorem fil_upd {t : Tb} (ht : goodT t = true) {k : Nat} {s : Sr} (hs : okS s = true) (l : Ws) : fil (upd t k s) l = updW (fil t l) k (if s.1 = 0 then l s.2.toNat else (true, s.2)) := by
  funext i
  unfold fil updW
  rw [orN_good (good_upd ht hs k), orN_good ht]
  unfold upd
  by_cases h : i = k
  · simp only [if_pos h]
  · simp only [if_neg h]
theorem fil_here {t : Tb} (ht : goodT t = true) (l : Ws) (k : Nat) : (if (t k).1 = 0 then l (t k).2.toNat else (true, (t k).2)) = fil t l k := by
  unfold fil
  rw [orN_good ht]
theorem right_mk {l : Int} (h0 : 0 ≤ l) (h1 : l < 24) : rightB l = true := by
  unfold rightB
  rw [decide_eq_true_iff]
  omega
theorem mvS_step {f : List I} {s : Mc} {n : Nat} (h : InF f (itA f s.p n)) (hm : mvA f (itA f s.p n) = true) (az : List Int) : stp f (mvS f s n) az = ⟨mvS f s (n + 1), [], 0, 0, []⟩ := by
  have hr := ri_in h
  have ht := good_tb f s.p n
  have hm' : movesB (insA f (itA f s.p n)).op = true := hm
  have hk := knw_moves hm' (mvS f s n).l
  have hf := flw_moves hm' (mvS f s n) az
  have e : flw (insA f (itA f s.p n)) (mvS f s n) az = (mvS f s (n + 1), [], 0) := by
    have hd := right_mk hr.d0 hr.d1
    have ha := right_mk hr.a0 hr.a1
    have hdl : (insA f (itA f s.p n)).d.toNat < 24 := by have := hr.d0; have := hr.d1; omega
    have hal : (insA f (itA f s.p n)).a.toNat < 24 := by have := hr.a0; have := hr.a1; omega
    have cs := of_decide_eq_true hm'
    unfold flw mvS
    simp only [tbA, itA, nxA, aft, hd, ha, orN_good ht]
    rcases cs with o | o | o | o <;> simp only [o] <;> simp
    · rw [fil_upd ht (by simp [okS])]
      simp
    · rw [fil_upd ht (good_at ht hal), fil_here ht]
    · rw [fil_upd (good_upd ht (good_at ht hal) _) (good_at ht hdl), fil_upd ht (good_at ht hal), fil_here ht, fil_here ht]
      funext i
      unfold updW
      by_cases h1 : i = (insA f (itA f s.p n)).d.toNat <;> by_cases h2 : i = (insA f (itA f s.p n)).a.toNat <;> simp [h1, h2]
      all_goals
        intro hx
        rw [hx]
  unfold stp
  simp only [show (mvS f s n).p = itA f s.p n from rfl, hk, e]
  simp
theorem mvS_right {f : List I} {s : Mc} (h : mcB f s = true) : ∀ {n : Nat}, (∀ k < n, mvA f (itA f s.p k) = true) → mcB f (mvS f s n) = true
  | 0, _ => by rw [mvS_zero]; exact h
  | n + 1, hm => by
    have hi : InF f s.p := ⟨(mc_iff.mp h).1, (mc_iff.mp h).2.1, (mc_iff.mp h).2.2.1⟩
    have e := mvS_step (s := s) (it_in hi (n := n) fun k hk => hm k (by omega)) (hm n (by omega)) []
    have := stp_right (az := []) (mvS_right h (n := n) fun k hk => hm k (by omega)) (by rw [e])
    rw [e] at this
    exact this
end Go.Proofs.YtphopkjgfkaihaaGreatDoor
namespace Go.Proofs.YtphopkjgfkaihaaGreatDoor
open Go.RowKit

def pathC (to : Int) (t : Tb) (n : Int) : List Value := .int .i64 to :: ((cellsT t).toList ++ [.int .i64 n])
theorem cellsT_len (t : Tb) : (cellsT t).toList.length = 24 := by rw [Array.length_toList, cellsT_size]
theorem pathC_len (to : Int) (t : Tb) (n : Int) : (pathC to t n).length = 26 := by
  unfold pathC
  rw [List.length_cons, List.length_append, cellsT_len]
  rfl
theorem pathC_st (to : Int) (t : Tb) (n : Int) : (pathC to t n)[25]? = some (.int .i64 n) := by
  unfold pathC
  rw [List.getElem?_cons_succ, List.getElem?_append_right (by rw [cellsT_len]; omega), cellsT_len]
  rfl
theorem pathC_tb (to : Int) (t : Tb) (n : Int) : ∀ j v, (cellsT t).toList[j]? = some v → (pathC to t n)[1 + j]? = some v := by
  intro j v hv
  have hj := (List.getElem?_eq_some_iff.mp hv).1
  unfold pathC
  rw [Nat.add_comm, List.getElem?_cons_succ, List.getElem?_append_left hj]
  exact hv
theorem pathC_one (to : Int) (t : Tb) (n : Int) : ∀ v ∈ pathC to t n, v.oneCell' = true := by
  intro v hv
  unfold pathC at hv
  rw [List.mem_cons, List.mem_append] at hv
  rcases hv with rfl | hv | hv
  · rfl
  · exact cellsT_one t v hv
  · simp only [List.mem_cons, List.not_mem_nil, or_false] at hv
    subst hv
    rfl
theorem pathC_uto (to : Int) (t : Tb) (n : Int) (to' : Int) : (pathC to t n).take 0 ++ [.int .i64 to'] ++ (pathC to t n).drop (0 + 1) = pathC to' t n := rfl
theorem pathC_utb (to : Int) (t : Tb) (n : Int) (t' : Tb) : (pathC to t n).take 1 ++ (cellsT t').toList ++ (pathC to t n).drop (1 + (cellsT t').toList.length) = pathC to t' n := by
  rw [cellsT_len]
  unfold pathC
  rw [show 1 + 24 = 24 + 1 from rfl, List.drop_succ_cons, List.drop_append, List.drop_of_length_le (by rw [cellsT_len]; omega), cellsT_len]
  simp
theorem pathC_ust (to : Int) (t : Tb) (n : Int) (n' : Int) : (pathC to t n).take 25 ++ [.int .i64 n'] ++ (pathC to t n).drop (25 + 1) = pathC to t n' := by
  unfold pathC
  rw [List.drop_of_length_le (by rw [List.length_cons, List.length_append, cellsT_len]; simp), show 25 = 24 + 1 from rfl, List.take_succ_cons, List.take_append, List.take_of_length_le (by rw [cellsT_len]; omega), cellsT_len]
  simp
/-- A block holds a path. -/
abbrev HasP (w : World) (g : Nat) (to : Int) (t : Tb) (n : Int) : Prop := HasC w g 96 (pathC to t n)
theorem infoPa : (Tryz.prog.info? 96).map (·.size) = some 26 := by kernel_rfl
theorem infoTb : (Tryz.prog.info? 29).map (·.size) = some 24 := by kernel_rfl
theorem infoI1 : (Tryz.prog.info? 3).map (·.size) = some 1 := by kernel_rfl
theorem infoBo : (Tryz.prog.info? 4).map (·.size) = some 1 := by kernel_rfl
section
variable {w w' : World} {g : Nat} {to : Int} {t : Tb} {n : Int}
theorem HasP.at (h : HasP w g to t n) : w.cell? ⟨g, 0, none⟩ = some (.int .i64 to) := h.cell rfl
theorem HasP.st (h : HasP w g to t n) : w.cell? ⟨g, 25, none⟩ = some (.int .i64 n) := h.cell (pathC_st to t n)
theorem HasP.tb (h : HasP w g to t n) : w.rangeAt g 1 (cellsT t).toList := h.range 1 _ (pathC_tb to t n)
theorem HasP.src (h : HasP w g to t n) {k : Nat} (hk : k < 24) : w.cell? ⟨g, 1 + k, none⟩ = some (sv (t k)) := h.tb k _ (by rw [Array.getElem?_toList, cellsT_at t hk])
end
section
variable {ops : Array Oper} {rest : List Oper} {op : Oper} {act : Act} {w : World} {Q : Exit → Act → World → Prop}
theorem wpList_ldP (hgd : op.guard = none) (a : Operand) (ho : op.op = .load 96 a) (g : Nat) (hx : act.eval a = .pointer (some ⟨g, 0, none⟩)) {to : Int} {t : Tb} {n : Int} (h : HasP w g to t n)
    (hk : wpList Tryz.prog ops Q rest (act.put op.dst (.agg (pathC to t n).toArray)) w) : wpList Tryz.prog ops Q (op :: rest) act w :=
  wpList_load_mid hgd _ a ho g 0 hx (pathC to t n) _ h.all Tryz.underlying96 rfl (by rw [pathC_len]; exact infoPa) hk
theorem wpList_ldPt (hgd : op.guard = none) (a : Operand) (ho : op.op = .load 29 a) (g : Nat) (hx : act.eval a = .pointer (some ⟨g, 1, none⟩)) {to : Int} {t : Tb} {n : Int} (h : HasP w g to t n)
    (hk : wpList Tryz.prog ops Q rest (act.put op.dst (.agg (cellsT t))) w) : wpList Tryz.prog ops Q (op :: rest) act w :=
  wpList_load_mid hgd _ a ho g 1 hx (cellsT t).toList _ h.tb Tryz.underlying29 rfl (by rw [cellsT_len]; exact infoTb) (by rw [Array.toArray_toList]; exact hk)
theorem wpList_stP (hgd : op.guard = none) (hdst : op.dst = none) (a b : Operand) (ho : op.op = .store 96 a b) (g : Nat) (hx : act.eval a = .pointer (some ⟨g, 0, none⟩)) {to : Int} {t : Tb} {n : Int} (hy : act.eval b = .agg (pathC to t n).toArray)
    {to' : Int} {t' : Tb} {n' : Int} (h : HasP w g to' t' n') (hk : ∀ w', HasP w' g to t n → Kept g w w' → wpList Tryz.prog ops Q rest act w') : wpList Tryz.prog ops Q (op :: rest) act w :=
  wpList_stX hgd hdst _ a b ho g 0 hx _ hy h (pathC to t n) rfl (by rw [pathC_len, pathC_len]; omega) (pathC_one to t n) (by rw [pathC_len]; exact infoPa)
    (by rw [List.take_zero, List.nil_append, List.drop_of_length_le (by rw [pathC_len, pathC_len]; omega), List.append_nil]) hk
theorem wpList_stPto (hgd : op.guard = none) (hdst : op.dst = none) (a b : Operand) (ho : op.op = .store 3 a b) (g : Nat) (hx : act.eval a = .pointer (some ⟨g, 0, none⟩)) (to' : Int) (hy : act.eval b = .int .i64 to') {to : Int} {t : Tb} {n : Int} (h : HasP w g to t n)
    (hk : ∀ w', HasP w' g to' t n → Kept g w w' → wpList Tryz.prog ops Q rest act w') : wpList Tryz.prog ops Q (op :: rest) act w :=
  wpList_stX hgd hdst _ a b ho g 0 hx _ hy h [.int .i64 to'] rfl (by rw [pathC_len]; simp) (by simp [Value.oneCell']) infoI1 (pathC_uto to t n to') hk
theorem wpList_stPt (hgd : op.guard = none) (hdst : op.dst = none) (a b : Operand) (ho : op.op = .store 29 a b) (g : Nat) (hx : act.eval a = .pointer (some ⟨g, 1, none⟩)) (t' : Tb) (hy : act.eval b = .agg (cellsT t')) {to : Int} {t : Tb} {n : Int} (h : HasP w g to t n)
    (hk : ∀ w', HasP w' g to t' n → Kept g w w' → wpList Tryz.prog ops Q rest act w') : wpList Tryz.prog ops Q (op :: rest) act w :=
  wpList_stX hgd hdst _ a b ho g 1 hx _ hy h (cellsT t').toList (by rw [Array.toArray_toList]; rfl) (by rw [pathC_len, cellsT_len]; omega) (cellsT_one t') (by rw [cellsT_len]; exact infoTb) (pathC_utb to t n t') hk
theorem wpList_stPn (hgd : op.guard = none) (hdst : op.dst = none) (a b : Operand) (ho : op.op = .store 3 a b) (g : Nat) (hx : act.eval a = .pointer (some ⟨g, 25, none⟩)) (n' : Int) (hy : act.eval b = .int .i64 n') {to : Int} {t : Tb} {n : Int} (h : HasP w g to t n)
    (hk : ∀ w', HasP w' g to t n' → Kept g w w' → wpList Tryz.prog ops Q rest act w') : wpList Tryz.prog ops Q (op :: rest) act w :=
  wpList_stX hgd hdst _ a b ho g 25 hx _ hy h [.int .i64 n'] rfl (by rw [pathC_len]; simp) (by simp [Value.oneCell']) infoI1 (pathC_ust to t n n') hk
end
/-! The flags. -/
def flgC (fl : Nat → Bool) : List Value := (List.range 200).map fun i => .bool (fl i)
def updF (fl : Nat → Bool) (k : Nat) : Nat → Bool := fun i => if i = k then true else fl i
theorem flgC_len (fl : Nat → Bool) : (flgC fl).length = 200 := by simp [flgC]
theorem flgC_at (fl : Nat → Bool) {k : Nat} (h : k < 200) : (flgC fl)[k]? = some (.bool (fl k)) := by simp [flgC, h]
theorem flgC_upd (fl : Nat → Bool) {k : Nat} (h : k < 200) : (flgC fl).take k ++ [.bool true] ++ (flgC fl).drop (k + 1) = flgC (updF fl k) := by
  have e : (flgC fl).take k ++ [.bool true] ++ (flgC fl).drop (k + 1) = (flgC fl).set k (.bool true) := by
    rw [List.set_eq_take_append_cons_drop, if_pos (by rw [flgC_len]; exact h)]
    simp
  rw [e]
  apply List.ext_getElem?
  intro i
  rw [List.getElem?_set]
  by_cases hik : k = i
  · subst hik
    rw [if_pos rfl, if_pos (by rw [flgC_len]; exact h), flgC_at _ h]
    simp [updF]
  · rw [if_neg hik]
    by_cases hi : i < 200
    · rw [flgC_at _ hi, flgC_at _ hi]
      simp [updF, Ne.symm hik]
    · rw [List.getElem?_eq_none (by rw [flgC_len]; omega), List.getElem?_eq_none (by rw [flgC_len]; omega)]
abbrev HasF (w : World) (g : Nat) (fl : Nat → Bool) : Prop := HasC w g 135 (flgC fl)
theorem HasF.at {w : World} {g : Nat} {fl : Nat → Bool} (h : HasF w g fl) {k : Nat} (hk : k < 200) : w.cell? ⟨g, k, none⟩ = some (.bool (fl k)) := h.cell (flgC_at fl hk)
theorem wpList_stF {ops : Array Oper} {rest : List Oper} {op : Oper} {act : Act} {w : World} {Q : Exit → Act → World → Prop} (hgd : op.guard = none) (hdst : op.dst = none) (a b : Operand) (ho : op.op = .store 4 a b) (g k : Nat) (hk200 : k < 200) (hx : act.eval a = .pointer (some ⟨g, k, none⟩)) (hy : act.eval b = .bool true) {fl : Nat → Bool} (h : HasF w g fl)
    (hk : ∀ w', HasF w' g (updF fl k) → Kept g w w' → wpList Tryz.prog ops Q rest act w') : wpList Tryz.prog ops Q (op :: rest) act w :=
  wpList_stX hgd hdst _ a b ho g k hx _ hy h [.bool true] rfl (by rw [flgC_len]; simp; omega) (by simp [Value.oneCell']) infoBo (flgC_upd fl hk200) hk
/-- Of the old blocks at most these two have turned. -/
def Only (a b : Nat) (w w' : World) : Prop := w.heap.size ≤ w'.heap.size ∧ ∀ g, g < w.heap.size → g ≠ a → g ≠ b → w'.heap[g]? = w.heap[g]?
theorem Only.of {a b : Nat} {w w' : World} (h : New w w') : Only a b w w' := ⟨h.size, fun g hg _ _ => h.block g hg⟩
theorem Only.new {a b : Nat} {w w1 w2 : World} (h : Only a b w w1) (n : New w1 w2) : Only a b w w2 := ⟨Nat.le_trans h.1 n.size, fun g hg h1 h2 => (n.block g (Nat.lt_of_lt_of_le hg h.1)).trans (h.2 g hg h1 h2)⟩
theorem Only.fst {a b : Nat} {w w1 w2 : World} (h : Only a b w w1) (k : Kept a w1 w2) : Only a b w w2 := ⟨by rw [k.size]; exact h.1, fun g hg h1 h2 => (k.other g h1).trans (h.2 g hg h1 h2)⟩
theorem Only.snd {a b : Nat} {w w1 w2 : World} (h : Only a b w w1) (k : Kept b w1 w2) : Only a b w w2 := ⟨by rw [k.size]; exact h.1, fun g hg h1 h2 => (k.other g h2).trans (h.2 g hg h1 h2)⟩
theorem HasC.only {a b g : Nat} {w w' : World} {ty : TypeId} {cs : List Value} (h : HasC w g ty cs) (o : Only a b w w') (h1 : g ≠ a) (h2 : g ≠ b) : HasC w' g ty cs := (o.2 g (HasC.lt h) h1 h2).trans h
end Go.Proofs.YtphopkjgfkaihaaGreatDoor
namespace Go.Proofs.YtphopkjgfkaihaaGreatDoor
open Go.RowKit

theorem behind_any (x : I) (p : Nat) (hp : p ≤ 1000) (w : World) :
    Calls Tryz.prog 63 #[.agg #[.int .i64 (x).op, .int .i64 (x).d, .int .i64 (x).a, .int .i64 (x).b, .int .i64 (x).n, .int .i64 (x).t], .int .i64 (p : Int)] w fun e w' => e = .returned (.int .i64 (if x.op = 16 then x.t else (p : Int) + 1)) ∧ New w w' := by
  by_cases h : x.op = 16
  · have q := beq_of h
    rw [if_pos h]
    clear h
    go_enter Tryz.func63, Tryz.ntmps63
    go_wp2
    go_ret
    exact ⟨rfl, alloc_new _ _⟩
  · have q := bneq_of h
    rw [if_neg h]
    clear h
    go_enter Tryz.func63, Tryz.ntmps63
    go_wp2
    go_ret
    exact ⟨congrArg (fun z => Ending.returned (.int .i64 z)) (by go_num), alloc_new _ _⟩
set_option maxHeartbeats 4000000 in
set_option maxRecDepth 100000 in
theorem pstep_any {w0 : World} (gm gp : Nat) (hm : w0.heap.size ≤ gm) (hp : w0.heap.size ≤ gp) (hne : gm ≠ gp) (fl : Nat → Bool) (p : Nat) (ht : p < 200) (tb : Tb) (k : Nat) (hk : k ≤ 1000) (x : I) (w : World) (hn : New w0 w) (H1 : HasF w gm fl) (H2 : HasP w gp (p : Int) tb (k : Int)) :
    Calls Tryz.prog 61 #[.agg #[.int .i64 (x).op, .int .i64 (x).d, .int .i64 (x).a, .int .i64 (x).b, .int .i64 (x).n, .int .i64 (x).t], .pointer (some ⟨gm, 0, none⟩), .pointer (some ⟨gp, 0, none⟩)] w fun e w' => e = .returned (.tuple #[]) ∧ HasF w' gm (updF fl p) ∧ HasP w' gp (if x.op = 16 then x.t else (p : Int) + 1) (aft tb x) ((k + 1 : Nat) : Int) ∧ New w0 w' ∧ Only gm gp w w' := by
  have A1 := Lib.hid H1
  have A2 := Lib.hid H2
  have HN := Lib.hid hn
  have HM := Lib.hid hm
  have HP := Lib.hid hp
  have T1 : Hid True := Lib.hid trivial
  have T2 : Hid True := Lib.hid trivial
  have T3 : Hid True := Lib.hid trivial
  have T4 : Hid True := Lib.hid trivial
  have T5 : Hid True := Lib.hid trivial
  have T6 : Hid True := Lib.hid trivial
  have T7 : Hid True := Lib.hid trivial
  have T8 : Hid True := Lib.hid trivial
  have T9 : Hid True := Lib.hid trivial
  obtain ⟨nx, HX⟩ : ∃ nx : Int, Hid ((if x.op = 16 then x.t else (p : Int) + 1) = nx) := ⟨_, Lib.hid rfl⟩
  have hkk : ((k : Int) + 1) = ((k + 1 : Nat) : Int) := by omega
  have HKK := Lib.hid hkk
  rw [HX.out]
  clear H1 H2 hn hm hp hkk
  go_enter Tryz.func61, Tryz.ntmps61
  go_wp2_with (first
    | (clear T1; refine wpList_boxX rfl 79 (.tmp 0) rfl (cells6 x) rfl ?_; intro w1 gx hgx hlx B1 hn1; have HB : Hid (HasC w1 gx 79 (cells6 x)) := Lib.hid B1; have N1 := Lib.hid (HN.out.trans hn1); have O1 : Hid (Only gm gp w w1) := Lib.hid (Only.of hn1); have P1 : Hid (HasP w1 gp (p : Int) tb (k : Int)) := Lib.hid (HasC.new A2.out hn1); have F1 : Hid (HasF w1 gm fl) := Lib.hid (HasC.new A1.out hn1); have dmx : gm ≠ gx := Nat.ne_of_lt (Nat.lt_of_lt_of_le (HasC.lt A1.out) hgx); have dpx : gp ≠ gx := Nat.ne_of_lt (Nat.lt_of_lt_of_le (HasC.lt A2.out) hgx); have c0 := HasP.at P1.out; clear B1 hn1 hlx hgx A1 A2)
    | (clear T2; refine wpList_stF rfl rfl (.tmp 6) (.const (.bool true)) rfl gm p ht rfl rfl F1.out ?_; intro w2 B2 k2; have F2 : Hid (HasF w2 gm (updF fl p)) := Lib.hid B2; have P2 : Hid (HasP w2 gp (p : Int) tb (k : Int)) := Lib.hid (HasC.kept P1.out k2 (Ne.symm hne)); have X2 : Hid (HasC w2 gx 79 (cells6 x)) := Lib.hid (HasC.kept HB.out k2 (Ne.symm dmx)); have N2 := Lib.hid (k2.below _ HM.out N1.out); have O2 := Lib.hid (O1.out.fst k2); clear B2 k2 F1 P1 HB N1 c0)
    | (clear T3; refine wpList_ldPt rfl (.tmp 7) rfl gp rfl P2.out ?_)
    | (clear T4; refine wpList_load_mid rfl 79 (.tmp 3) rfl gx 0 rfl (cells6 x) _ (HasC.all X2.out) Tryz.underlying79 rfl (by rw [cells6_len]; exact infoI) ?_)
    | (go_at_call 62; refine (after_any tb x _).mono ?_; rintro e w3 ⟨rfl, hn3⟩; have F3 : Hid (HasF w3 gm (updF fl p)) := Lib.hid (HasC.new F2.out hn3); have P3 : Hid (HasP w3 gp (p : Int) tb (k : Int)) := Lib.hid (HasC.new P2.out hn3); have X3 : Hid (HasC w3 gx 79 (cells6 x)) := Lib.hid (HasC.new X2.out hn3); have N3 := Lib.hid (N2.out.trans hn3); have O3 := Lib.hid (O2.out.new hn3); clear F2 P2 X2 N2 hn3)
    | (clear T5; refine wpList_stPt rfl rfl (.tmp 11) (.tmp 10) rfl gp rfl (aft tb x) rfl P3.out ?_; intro w4 B4 k4; have P4 : Hid (HasP w4 gp (p : Int) (aft tb x) (k : Int)) := Lib.hid B4; have F4 : Hid (HasF w4 gm (updF fl p)) := Lib.hid (HasC.kept F3.out k4 hne); have X4 : Hid (HasC w4 gx 79 (cells6 x)) := Lib.hid (HasC.kept X3.out k4 (Ne.symm dpx)); have N4 := Lib.hid (k4.below _ HP.out N3.out); have O4 := Lib.hid (O3.out.snd k4); have c0 := HasP.at P4.out; clear B4 k4 F3 P3 X3 N3)
    | (clear T6; refine wpList_load_mid rfl 79 (.tmp 3) rfl gx 0 rfl (cells6 x) _ (HasC.all X4.out) Tryz.underlying79 rfl (by rw [cells6_len]; exact infoI) ?_)
    | (go_at_call 63; refine (behind_any x p (by omega) _).mono ?_; rw [HX.out]; rintro e w5 ⟨rfl, hn5⟩; have F5 : Hid (HasF w5 gm (updF fl p)) := Lib.hid (HasC.new F4.out hn5); have P5 : Hid (HasP w5 gp (p : Int) (aft tb x) (k : Int)) := Lib.hid (HasC.new P4.out hn5); have N5 := Lib.hid (N4.out.trans hn5); have O5 := Lib.hid (O4.out.new hn5); clear F4 P4 X4 N4 hn5 c0)
    | (clear T7; refine wpList_stPto rfl rfl (.tmp 16) (.tmp 15) rfl gp rfl nx rfl P5.out ?_; intro w6 B6 k6; have P6 : Hid (HasP w6 gp nx (aft tb x) (k : Int)) := Lib.hid B6; have F6 : Hid (HasF w6 gm (updF fl p)) := Lib.hid (HasC.kept F5.out k6 hne); have N6 := Lib.hid (k6.below _ HP.out N5.out); have O6 := Lib.hid (O5.out.snd k6); have c0 := HasP.st P6.out; clear B6 k6 F5 P5 N5)
    | (clear T8; refine wpList_stPn rfl rfl (.tmp 20) (.tmp 19) rfl gp rfl ((k + 1 : Nat) : Int) (by rw [← HKK.out]; go_num) P6.out ?_; intro w7 B7 k7; have P7 : Hid (HasP w7 gp nx (aft tb x) ((k + 1 : Nat) : Int)) := Lib.hid B7; have F7 : Hid (HasF w7 gm (updF fl p)) := Lib.hid (HasC.kept F6.out k7 hne); have N7 := Lib.hid (k7.below _ HP.out N6.out); have O7 := Lib.hid (O6.out.snd k7); clear B7 k7 F6 P6 N6))
  exact bodyPost_end (results_none rfl _ _ _) rfl ⟨rfl, F7.out, P7.out, N7.out, O7.out⟩
end Go.Proofs.YtphopkjgfkaihaaGreatDoor
namespace Go.Proofs.YtphopkjgfkaihaaGreatDoor
open Go.RowKit

theorem build_P (p : Int) (t : Tb) (w : World) : (Instr.build 96 #[(0, .int .i64 p), (1, .agg (cellsT t))]).run Tryz.prog w = .ok (.agg (pathC p t 0).toArray) w :=
  run_build w _ _ _ (by kernel_rfl)
theorem build_P0 (w : World) : (Instr.build 96 #[]).run Tryz.prog w = .ok (.agg (pathC 0 noT 0).toArray) w :=
  run_build w _ _ _ (by kernel_rfl)
/-- A path is built of where it leads and its table. -/
theorem wpList_bdP {ops : Array Oper} {rest : List Oper} {op : Oper} {act : Act} {w : World} {Q : Exit → Act → World → Prop} (hgd : op.guard = none) (x y : Operand) (ho : op.op = .build 96 #[(0, x), (1, y)]) (p : Int) (hx : act.eval x = .int .i64 p) (t : Tb) (hy : act.eval y = .agg (cellsT t))
    (hk : wpList Tryz.prog ops Q rest (act.put op.dst (.agg (pathC p t 0).toArray)) w) : wpList Tryz.prog ops Q (op :: rest) act w :=
  wpList_plain hgd fun _ hK => by
    unfold Oper.wp execOp
    have hb := build_P p t w
    simp only [ho, List.map_toArray, List.map_cons, List.map_nil, hx, hy, hb, Sem.run_bind, Sem.run_pure, Result.andThen_ok]
    exact hK _ _ hk
theorem zeroP_lit : #[.int .i64 0, .nilIface, .nilIface, .nilIface, .nilIface, .nilIface, .nilIface, .nilIface, .nilIface, .nilIface, .nilIface, .nilIface, .nilIface, .nilIface, .nilIface, .nilIface, .nilIface, .nilIface, .nilIface, .nilIface, .nilIface, .nilIface, .nilIface, .nilIface, .nilIface, .int .i64 0] = (pathC 0 noT 0).toArray := by kernel_rfl
theorem zeroP_run (w : World) : (zeroValue 96).run Tryz.prog w = .ok (.agg (pathC 0 noT 0).toArray) w := Tryz.zeroValue96 w
def noFl : Nat → Bool := fun _ => false
theorem zeroF_run (w : World) : (zeroValue 135).run Tryz.prog w = .ok (.agg (flgC noFl).toArray) w := Tryz.zeroValue135 w
theorem results_ct {fn : Func} {p u : Tmp} {ty : TypeId} (h : fn.results = #[.cell p ty, .tmp u]) (tmps : Array Value) (w : World) (g : Nat) (x y : Value) (hp : tmps.getD p undef = .pointer (some ⟨g, 0, none⟩)) (hl : (loadVar ty ⟨g, 0, none⟩).run Tryz.prog w = .ok x w)
    (hu : tmps.getD u undef = y) : (results fn tmps).run Tryz.prog w = .ok (.tuple #[x, y]) w := by
  have hp' : tmps[p]?.getD undef = .pointer (some ⟨g, 0, none⟩) := by simpa using hp
  have hu' : tmps[u]?.getD undef = y := by simpa using hu
  simp [results, h, hp', hu', asAddr, hl]
theorem loadP {w : World} {g : Nat} {to : Int} {t : Tb} {n : Int} (h : HasP w g to t n) : (loadVar 96 ⟨g, 0, none⟩).run Tryz.prog w = .ok (.agg (pathC to t n).toArray) w :=
  loadVar_C h Tryz.underlying96 rfl (by rw [pathC_len]; exact infoPa)
theorem notIn {f : List I} {p : Int} (h : ¬ InF f p) : (((chkF f).2 == 0) = false) ∨ (((chkF f).2 == 0) = true ∧ p < 0) ∨ (((chkF f).2 == 0) = true ∧ ¬ p < 0 ∧ (f.length : Int) ≤ p) := by
  by_cases h1 : (chkF f).2 = 0
  · right
    rw [h1]
    by_cases h2 : p < 0
    · exact .inl ⟨rfl, h2⟩
    · exact .inr ⟨rfl, h2, by
        rcases Int.lt_or_le p (f.length : Int) with h3 | h3
        · exact absurd ⟨h1, by omega, h3⟩ h
        · exact h3⟩
  · left
    exact bneq_of h1
set_option maxHeartbeats 4000000 in
set_option maxRecDepth 100000 in
theorem from_out (ao : Option Addr) (n cap : Nat) (f : List I) (p : Int) (w : World) (hl : Laid w) (hf : FunAt w (.slice ao n cap) f) (hi : ¬ InF f p) :
    Calls Tryz.prog 33 #[.slice ao n cap, .int .i64 p] w fun e w' => e = .returned (.tuple #[.agg (pathC 0 noT 0).toArray, .int .i64 1]) ∧ New w w' := by
  have HL := Lib.hid hl
  have HF := Lib.hid hf
  have HZ := Lib.hid zeroP_lit
  have hlen := hf.len
  have hc := notIn hi
  rw [← hlen] at hc
  clear hl hf hi hlen
  rcases hc with q1 | ⟨q1, q2⟩ | ⟨q1, q2, q3⟩
  · go_enter Tryz.func33, Tryz.ntmps33
    go_wp2_with (first
      | (refine wpList_alX rfl 96 rfl _ zeroP_run _ rfl ?_; intro w1 g4 hg4 hl4 H4 hn1; have A4 : Hid (HasP w1 g4 0 noT 0) := Lib.hid H4; have N1 := Lib.hid hn1; clear H4 hn1 hl4)
      | (go_at_call 31; refine (asmRight_any _ f _ (HL.out.new N1.out) (HF.out.new N1.out)).mono ?_; rw [q1]; rintro e w2 ⟨rfl, hn2⟩; replace A4 : Hid (HasP w2 g4 0 noT 0) := Lib.hid (HasC.new A4.out hn2); replace N1 := Lib.hid (N1.out.trans hn2); clear hn2)
      | (refine wpList_stP rfl rfl (.tmp 4) (.tmp 22) rfl g4 rfl (by exact congrArg Value.agg HZ.out) A4.out ?_; intro w3 B3 k3; have N3 := Lib.hid (k3.below _ hg4 N1.out)))
    exact bodyPost_ret (results_ct (p := 4) (u := 5) rfl _ _ g4 _ (.int .i64 1) rfl (loadP B3) rfl) rfl ⟨rfl, N3.out⟩
  · go_enter Tryz.func33, Tryz.ntmps33
    go_wp2_with (first
      | (refine wpList_alX rfl 96 rfl _ zeroP_run _ rfl ?_; intro w1 g4 hg4 hl4 H4 hn1; have A4 : Hid (HasP w1 g4 0 noT 0) := Lib.hid H4; have N1 := Lib.hid hn1; clear H4 hn1 hl4)
      | (go_at_call 31; refine (asmRight_any _ f _ (HL.out.new N1.out) (HF.out.new N1.out)).mono ?_; rw [q1]; rintro e w2 ⟨rfl, hn2⟩; replace A4 : Hid (HasP w2 g4 0 noT 0) := Lib.hid (HasC.new A4.out hn2); replace N1 := Lib.hid (N1.out.trans hn2); clear hn2)
      | (refine wpList_stP rfl rfl (.tmp 4) (.tmp 22) rfl g4 rfl (by exact congrArg Value.agg HZ.out) A4.out ?_; intro w3 B3 k3; have N3 := Lib.hid (k3.below _ hg4 N1.out)))
    exact bodyPost_ret (results_ct (p := 4) (u := 5) rfl _ _ g4 _ (.int .i64 1) rfl (loadP B3) rfl) rfl ⟨rfl, N3.out⟩
  · go_enter Tryz.func33, Tryz.ntmps33
    go_wp2_with (first
      | (refine wpList_alX rfl 96 rfl _ zeroP_run _ rfl ?_; intro w1 g4 hg4 hl4 H4 hn1; have A4 : Hid (HasP w1 g4 0 noT 0) := Lib.hid H4; have N1 := Lib.hid hn1; clear H4 hn1 hl4)
      | (go_at_call 31; refine (asmRight_any _ f _ (HL.out.new N1.out) (HF.out.new N1.out)).mono ?_; rw [q1]; rintro e w2 ⟨rfl, hn2⟩; replace A4 : Hid (HasP w2 g4 0 noT 0) := Lib.hid (HasC.new A4.out hn2); replace N1 := Lib.hid (N1.out.trans hn2); clear hn2)
      | (refine wpList_stP rfl rfl (.tmp 4) (.tmp 22) rfl g4 rfl (by exact congrArg Value.agg HZ.out) A4.out ?_; intro w3 B3 k3; have N3 := Lib.hid (k3.below _ hg4 N1.out)))
    exact bodyPost_ret (results_ct (p := 4) (u := 5) rfl _ _ g4 _ (.int .i64 1) rfl (loadP B3) rfl) rfl ⟨rfl, N3.out⟩
theorem fl_step (f : List I) (p : Int) (k : Nat) {q : Nat} (h : itA f p k = (q : Int)) : updF (flA f p k) q = flA f p (k + 1) := by
  funext i
  unfold updF
  rw [flA, h]
  rfl
theorem chk_len {f : List I} (h : (chkF f).2 = 0) : f.length ≤ 200 := (right_iff.mp h).1
end Go.Proofs.YtphopkjgfkaihaaGreatDoor
namespace Go.Proofs.YtphopkjgfkaihaaGreatDoor
open Go.RowKit

set_option maxHeartbeats 8000000 in
set_option maxRecDepth 100000 in
theorem from_in (ao : Option Addr) (n cap : Nat) (f : List I) (p : Int) (o : Option Nat) (w : World) (hl : Laid w) (hf : FunAt w (.slice ao n cap) f) (hi : InF f p) (ho : Wy f p o) :
    Calls Tryz.prog 33 #[.slice ao n cap, .int .i64 p] w fun e w' => e = .returned (.tuple #[.agg (pathC (toP f p o) (tbP f p o) (stP o)).toArray, .int .i64 0]) ∧ New w w' := by
  have HL := Lib.hid hl
  have HF := Lib.hid hf
  have HI := Lib.hid hi
  have HO := Lib.hid ho
  have HLN := Lib.hid hf.len
  have q1 : ((chkF f).2 == 0) = true := beq_of hi.1
  have q2 : ¬ p < 0 := by have := hi.2.1; omega
  have q3 : ¬ (n : Int) ≤ p := by have := hi.2.2; have := HLN.out; omega
  have H200 : Hid (f.length ≤ 200) := Lib.hid (chk_len hi.1)
  have d2 : decide (p < 0) = false := decide_eq_false q2
  have d3 : decide ((n : Int) ≤ p) = false := decide_eq_false q3
  clear q2 q3
  have TB : Hid True := Lib.hid trivial
  have T1 : Hid True := Lib.hid trivial
  have T2 : Hid True := Lib.hid trivial
  have T3 : Hid True := Lib.hid trivial
  have T4 : Hid True := Lib.hid trivial
  clear hl hf hi ho
  go_enter Tryz.func33, Tryz.ntmps33
  go_wp2_with (first
    | (clear T1; refine wpList_alX rfl 96 rfl _ zeroP_run _ rfl ?_; intro w1 g4 hg4 hl4 H4 hn1; have A4 : Hid (HasP w1 g4 0 noT 0) := Lib.hid H4; have N1 := Lib.hid hn1; clear H4 hn1)
    | (go_at_call 31; refine (asmRight_any _ f _ (HL.out.new N1.out) (HF.out.new N1.out)).mono ?_; rw [q1]; rintro e w2 ⟨rfl, hn2⟩; have B4 : Hid (HasP w2 g4 0 noT 0) := Lib.hid (HasC.new A4.out hn2); have N2 := Lib.hid (N1.out.trans hn2); clear hn2 A4 N1)
    | (go_at_call 60; refine (envNew_any _).mono ?_; rintro e w3 ⟨rfl, hn3⟩; have C4 : Hid (HasP w3 g4 0 noT 0) := Lib.hid (HasC.new B4.out hn3); have N3 := Lib.hid (N2.out.trans hn3); clear hn3 B4 N2)
    | (clear T2; refine wpList_alX rfl 96 rfl _ zeroP_run _ rfl ?_; intro w4 g6 hg6 hl6 H6 hn4; have D4 : Hid (HasP w4 g4 0 noT 0) := Lib.hid (HasC.new C4.out hn4); have D6 : Hid (HasP w4 g6 0 noT 0) := Lib.hid H6; have d46 : g4 ≠ g6 := Nat.ne_of_lt (Nat.lt_of_lt_of_le (HasC.lt C4.out) hg6); have n6 : w.heap.size ≤ g6 := Nat.le_trans N3.out.size hg6; have N4 := Lib.hid (N3.out.trans hn4); clear H6 hn4 C4 N3)
    | (clear TB; refine wpList_bdP rfl (.tmp 23) (.tmp 24) rfl p rfl newT rfl ?_)
    | (clear T3; refine wpList_stP rfl rfl (.tmp 6) (.tmp 25) rfl g6 rfl (to := p) (t := newT) (n := 0) rfl D6.out ?_; intro w5 B5 k5; have E6 : Hid (HasP w5 g6 p newT 0) := Lib.hid B5; have E4 : Hid (HasP w5 g4 0 noT 0) := Lib.hid (HasC.kept D4.out k5 d46); have N5 := Lib.hid (k5.below _ n6 N4.out); clear B5 k5 D4 D6 N4)
    | (clear T4; refine wpList_alX rfl 135 rfl _ zeroF_run _ rfl ?_; intro w6 g7 hg7 hl7 H7 hn6; have G4 : Hid (HasP w6 g4 0 noT 0) := Lib.hid (HasC.new E4.out hn6); have G6 : Hid (HasP w6 g6 p newT 0) := Lib.hid (HasC.new E6.out hn6); have G7 : Hid (HasF w6 g7 noFl) := Lib.hid H7; have d47 : g4 ≠ g7 := Nat.ne_of_lt (Nat.lt_of_lt_of_le (HasC.lt E4.out) hg7); have d67 : g6 ≠ g7 := Nat.ne_of_lt (Nat.lt_of_lt_of_le (HasC.lt E6.out) hg7); have n7 : w.heap.size ≤ g7 := Nat.le_trans N5.out.size hg7; have N6 := Lib.hid (N5.out.trans hn6); clear H7 hn6 E4 E6 N5))
  go_loopg [] 201 (fun gm wr => ∃ k : Nat, gm = 201 - k ∧ k ≤ 200 ∧ Hid (HasP wr g4 0 noT 0) ∧ Hid (HasP wr g6 (itA f p k) (tbA f p k) (k : Int)) ∧ Hid (HasF wr g7 (flA f p k)) ∧ Hid (New w wr) ∧ Hid (∀ j < k, mvA f (itA f p j) = true) ∧ Hid (∀ j < k, flA f p j (itA f p j).toNat = false))
  case atStart => exact ⟨0, rfl, by omega, G4, G6, G7, N6, Lib.hid (fun j hj => absurd hj (Nat.not_lt_zero _)), Lib.hid (fun j hj => absurd hj (Nat.not_lt_zero _))⟩
  case round =>
    obtain ⟨k, hgk, hk, K4, K6, K7, KN, KM, KU⟩ := hrel
    obtain ⟨q, HQ⟩ : ∃ q : Nat, Hid (itA f p k = (q : Int)) := ⟨(itA f p k).toNat, Lib.hid (by have := (it_in HI.out KM.out).2.1; omega)⟩
    have hqn : q < n := by have := (it_in HI.out KM.out).2.2; rw [HQ.out, ← HLN.out] at this; omega
    obtain ⟨fb, fo, x, ex, hix, hrg⟩ := FunAt.ix HF.out hqn
    have HX : Hid (insA f (itA f p k) = x) := Lib.hid (by
      rw [HQ.out]
      unfold insA
      rw [Int.toNat_natCast, List.getD_eq_getElem?_getD, ex]
      rfl)
    have HR := Lib.hid (hrg wr KN.out)
    rw [HQ.out] at K6
    have ck := HasP.at K6.out
    clear ex hrg
    cases hm : movesB x.op with
    | false =>
      have HW : Hid (o = some k) := Lib.hid (wy_one HO.out (show Wy f p (some k) from ⟨KM.out, by unfold mvA; rw [HX.out]; exact hm⟩))
      have HM := Lib.hid hm
      clear hm
      have U1 : Hid True := Lib.hid trivial
      have U2 : Hid True := Lib.hid trivial
      have U3 : Hid True := Lib.hid trivial
      go_wp2_with (first
        | (clear U1; refine wpList_ldE rfl (.tmp 30) rfl fb fo rfl HR.out ?_)
        | (go_at_call 64; refine (moves_any x.op x.d x.a x.b x.n x.t _).mono ?_; rw [HM.out]; rintro e w2 ⟨rfl, hn2⟩; have L4 : Hid (HasP w2 g4 0 noT 0) := Lib.hid (HasC.new K4.out hn2); have L6 : Hid (HasP w2 g6 (q : Int) (tbA f p k) (k : Int)) := Lib.hid (HasC.new K6.out hn2); have LN := Lib.hid (KN.out.trans hn2); clear hn2 K4 K6 KN ck)
        | (clear U2; refine wpList_ldP rfl (.tmp 6) rfl g6 rfl L6.out ?_)
        | (clear U3; refine wpList_stP rfl rfl (.tmp 4) (.tmp 46) rfl g4 rfl (to := (q : Int)) (t := tbA f p k) (n := (k : Int)) rfl L4.out ?_; intro w3 B3 k3; have N3 := Lib.hid (k3.below _ hg4 LN.out)))
      refine bodyPost_ret (results_ct (p := 4) (u := 5) rfl _ _ g4 _ (.int .i64 0) rfl (loadP B3) rfl) rfl ⟨?_, N3.out⟩
      rw [HW.out]
      show _ = Ending.returned (.tuple #[.agg (pathC (itA f p k) (tbA f p k) (k : Int)).toArray, .int .i64 0])
      rw [HQ.out]
    | true =>
      have HM := Lib.hid hm
      have HMV : Hid (mvA f (itA f p k) = true) := Lib.hid (by unfold mvA; rw [HX.out]; exact hm)
      clear hm
      have h200 : q < 200 := by have := H200.out; have := HLN.out; omega
      have cf := HasF.at K7.out h200
      have U1 : Hid True := Lib.hid trivial
      cases hfl : flA f p k q with
      | true =>
        have HW : Hid (o = none) := Lib.hid (wy_one HO.out (show Wy f p none from met_never HI.out KM.out (by rw [HQ.out]; exact hfl)))
        rw [hfl] at cf
        clear hfl
        have U2 : Hid True := Lib.hid trivial
        have U3 : Hid True := Lib.hid trivial
        go_wp2_with (first
          | (clear U1; refine wpList_ldE rfl (.tmp 30) rfl fb fo rfl HR.out ?_)
          | (go_at_call 64; refine (moves_any x.op x.d x.a x.b x.n x.t _).mono ?_; rw [HM.out]; rintro e w2 ⟨rfl, hn2⟩; have L4 : Hid (HasP w2 g4 0 noT 0) := Lib.hid (HasC.new K4.out hn2); have LN := Lib.hid (KN.out.trans hn2); have ck := HasP.at (HasC.new K6.out hn2); have cf := hn2.cell cf; clear hn2 K4 K6 KN)
          | (go_at_call 60; refine (envNew_any _).mono ?_; rintro e w3 ⟨rfl, hn3⟩; have M4 : Hid (HasP w3 g4 0 noT 0) := Lib.hid (HasC.new L4.out hn3); have MN := Lib.hid (LN.out.trans hn3); clear hn3 L4 LN)
          | (clear U2; refine wpList_bdP rfl (.const (.int .i64 (-1))) (.tmp 37) rfl (-1) rfl newT rfl ?_)
          | (clear U3; refine wpList_stP rfl rfl (.tmp 4) (.tmp 38) rfl g4 rfl (to := -1) (t := newT) (n := 0) rfl M4.out ?_; intro w4 B4 k4; have N4 := Lib.hid (k4.below _ hg4 MN.out)))
        refine bodyPost_ret (results_ct (p := 4) (u := 5) rfl _ _ g4 _ (.int .i64 0) rfl (loadP B4) rfl) rfl ⟨?_, N4.out⟩
        rw [HW.out]
        rfl
      | false =>
        rw [hfl] at cf
        have HU := Lib.hid hfl
        clear hfl
        have HK : Hid (k + 1 ≤ 200) := Lib.hid (by
          have := unmet_lt HI.out (n := k) (fun j hj => by
            rcases Nat.lt_or_ge j k with h | h
            · exact KM.out j h
            · rw [show j = k by omega]; exact HMV.out) (fun j hj => by
            rcases Nat.lt_or_ge j k with h | h
            · exact KU.out j h
            · rw [show j = k by omega, HQ.out]; exact HU.out)
          have := H200.out
          omega)
        have HS : Hid (updF (flA f p k) q = flA f p (k + 1)) := Lib.hid (fl_step f p k HQ.out)
        have HNX : Hid ((if x.op = 16 then x.t else (q : Int) + 1) = itA f p (k + 1)) := Lib.hid (by
          show _ = nxA f (itA f p k)
          unfold nxA
          rw [HX.out, HQ.out])
        have HTB : Hid (aft (tbA f p k) x = tbA f p (k + 1)) := Lib.hid (by
          show _ = aft (tbA f p k) (insA f (itA f p k))
          rw [HX.out])
        have U2 : Hid True := Lib.hid trivial
        go_wp2_with (first
          | (clear U1; refine wpList_ldE rfl (.tmp 30) rfl fb fo rfl HR.out ?_)
          | (go_at_call 64; refine (moves_any x.op x.d x.a x.b x.n x.t _).mono ?_; rw [HM.out]; rintro e w2 ⟨rfl, hn2⟩; have L4 : Hid (HasP w2 g4 0 noT 0) := Lib.hid (HasC.new K4.out hn2); have L6 : Hid (HasP w2 g6 (q : Int) (tbA f p k) (k : Int)) := Lib.hid (HasC.new K6.out hn2); have L7 : Hid (HasF w2 g7 (flA f p k)) := Lib.hid (HasC.new K7.out hn2); have LN := Lib.hid (KN.out.trans hn2); have LR : Hid (w2.rangeAt fb fo (cells6 x)) := Lib.hid (fun j v hj => hn2.cell (HR.out j v hj)); have ck := HasP.at L6.out; have cf := hn2.cell cf; clear hn2 K4 K6 K7 KN)
          | (clear U2; refine wpList_ldE rfl (.tmp 43) rfl fb fo rfl LR.out ?_)
          | (go_at_call 61; refine (pstep_any (w0 := w) g7 g6 n7 n6 (Ne.symm d67) (flA f p k) q h200 (tbA f p k) k (by omega) x _ LN.out L7.out L6.out).mono ?_; rw [HS.out, HNX.out, HTB.out]; rintro e w3 ⟨rfl, hF, hP, hN, hO⟩; have M6 := Lib.hid hP; have M7 := Lib.hid hF; have MN := Lib.hid hN; have M4 : Hid (HasP w3 g4 0 noT 0) := Lib.hid (HasC.only L4.out hO d47 d46); clear hF hP hN hO))
        go_roundg (201 - (k + 1))
        case rel =>
          exact ⟨k + 1, rfl, HK.out, M4, M6, M7, MN, Lib.hid (fun j hj => by
            rcases Nat.lt_or_ge j k with h | h
            · exact KM.out j h
            · rw [show j = k by omega]; exact HMV.out), Lib.hid (fun j hj => by
            rcases Nat.lt_or_ge j k with h | h
            · exact KU.out j h
            · rw [show j = k by omega, HQ.out]; exact HU.out)⟩
        case measure => have := HK.out; omega
theorem path_is {w0 : World} {v : Value} {f : List I} {p : Int} {o : Option Nat} {w : World} (hl : Laid w0) (h0 : New w0 w) (hf : FunAt w v f) (hi : InF f p) (ho : Wy f p o) {q k : Int} {t : Tb} (hq : toP f p o = q) (ht : tbP f p o = t) (hk : stP o = k) :
    Calls Tryz.prog 33 #[v, .int .i64 p] w fun e w' => e = .returned (.tuple #[.agg (pathC q t k).toArray, .int .i64 0]) ∧ New w w' := by
  obtain ⟨ao, cap, rfl⟩ := hf.form
  rw [← hq, ← ht, ← hk]
  exact from_in ao _ cap f p o w (hl.new h0) hf hi ho
theorem path_no {w0 : World} {v : Value} {f : List I} {p : Int} {w : World} (hl : Laid w0) (h0 : New w0 w) (hf : FunAt w v f) (hi : ¬ InF f p) :
    Calls Tryz.prog 33 #[v, .int .i64 p] w fun e w' => e = .returned (.tuple #[.agg (pathC 0 noT 0).toArray, .int .i64 1]) ∧ New w w' := by
  obtain ⟨ao, cap, rfl⟩ := hf.form
  exact from_out ao _ cap f p w (hl.new h0) hf hi
end Go.Proofs.YtphopkjgfkaihaaGreatDoor
