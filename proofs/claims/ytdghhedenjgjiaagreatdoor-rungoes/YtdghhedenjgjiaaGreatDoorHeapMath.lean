/-
  Layer 6 in plain words: heaps are lists of numbers: what is loaded, what is stored, and what follows. No program stands in this text.
-/
import Derived.Test.YtdghhedenjgjiaaGreatDoorBase
namespace Go.Proofs.YtdghhedenjgjiaaGreatDoor

/-- A heap that has the word of this number. -/
def inB (zs : List Int) (a : Int) : Bool := decide (zs.length ≤ 16 ∧ 0 ≤ a ∧ a < (zs.length : Int))
def hpLd (zs : List Int) (a : Int) : Int := if inB zs a = true then zs.getD a.toNat 0 else 0
def hpHow (zs : List Int) (a : Int) : Int := if inB zs a = true then 0 else 4
def hpSt (zs : List Int) (a v : Int) : List Int := if inB zs a = true then zs.set a.toNat v else []
def eqB (xs ys : List Int) : Bool := decide (xs = ys)

theorem inB_nat {zs : List Int} {a : Int} (h : inB zs a = true) : zs.length ≤ 16 ∧ a = (a.toNat : Int) ∧ a.toNat < zs.length := by
  unfold inB at h
  rw [decide_eq_true_iff] at h
  omega
theorem inB_mk {zs : List Int} {k : Nat} (h1 : zs.length ≤ 16) (h2 : k < zs.length) : inB zs (k : Int) = true := by
  unfold inB
  rw [decide_eq_true_iff]
  omega
theorem inB_none {zs : List Int} {a : Int} (h : ∀ k : Nat, k < zs.length → (k : Int) ≠ a) : inB zs a = false := by
  unfold inB
  rw [decide_eq_false_iff_not]
  rintro ⟨_, h2, h3⟩
  exact h a.toNat (by omega) (by omega)
theorem inB_big {zs : List Int} (a : Int) (h : ¬ zs.length ≤ 16) : inB zs a = false := by
  unfold inB
  rw [decide_eq_false_iff_not]
  rintro ⟨h1, _⟩
  exact h h1
theorem inB_len {xs ys : List Int} (h : xs.length = ys.length) (a : Int) : inB xs a = inB ys a := by unfold inB; rw [h]
theorem hpHow_in {zs : List Int} {a : Int} (h : inB zs a = true) : hpHow zs a = 0 := if_pos h
theorem hpHow_out {zs : List Int} {a : Int} (h : inB zs a = false) : hpHow zs a = 4 := if_neg (by rw [h]; decide)
theorem hpLd_out {zs : List Int} {a : Int} (h : inB zs a = false) : hpLd zs a = 0 := if_neg (by rw [h]; decide)
theorem hpLd_in {zs : List Int} {a : Int} (h : inB zs a = true) : zs[a.toNat]? = some (hpLd zs a) := by
  unfold hpLd
  rw [if_pos h, List.getD_eq_getElem?_getD, List.getElem?_eq_getElem (inB_nat h).2.2]
  rfl
theorem hpSt_out {zs : List Int} {a : Int} (v : Int) (h : inB zs a = false) : hpSt zs a v = [] := if_neg (by rw [h]; decide)
theorem hpSt_in {zs : List Int} {a : Int} (v : Int) (h : inB zs a = true) : hpSt zs a v = zs.set a.toNat v := if_pos h
theorem hpSt_len {zs : List Int} {a : Int} (v : Int) (h : inB zs a = true) : (hpSt zs a v).length = zs.length := by rw [hpSt_in v h, List.length_set]
theorem hpSt_bound (zs : List Int) (a v : Int) : (hpSt zs a v).length ≤ 16 := by
  cases h : inB zs a with
  | false => rw [hpSt_out v h]; simp
  | true => rw [hpSt_len v h]; exact (inB_nat h).1
/-- What was stored is loaded. -/
theorem ld_st {zs : List Int} {a : Int} (v : Int) (h : inB zs a = true) : hpLd (hpSt zs a v) a = v := by
  have h' : inB (hpSt zs a v) a = true := by rw [inB_len (hpSt_len v h)]; exact h
  have := hpLd_in h'
  rw [hpSt_in v h, List.getElem?_set_self (inB_nat h).2.2] at this
  rw [hpSt_in v h]
  exact (Option.some.inj this).symm
/-- All other words stay. -/
theorem ld_other {zs : List Int} {a b : Int} (v : Int) (h : inB zs a = true) (hn : b ≠ a) : hpLd (hpSt zs a v) b = hpLd zs b := by
  have e : inB (hpSt zs a v) b = inB zs b := inB_len (hpSt_len v h) b
  cases hb : inB zs b with
  | false => rw [hpLd_out hb, hpLd_out (by rw [e]; exact hb)]
  | true =>
    have h1 := hpLd_in (e.trans hb)
    have h2 := hpLd_in hb
    rw [hpSt_in v h] at h1 ⊢
    rw [List.getElem?_set_ne (by have := inB_nat h; have := inB_nat hb; omega), h2] at h1
    exact (Option.some.inj h1).symm
theorem how_st {zs : List Int} {a : Int} (v : Int) (h : inB zs a = true) (b : Int) : hpHow (hpSt zs a v) b = hpHow zs b := by
  unfold hpHow
  rw [inB_len (hpSt_len v h)]
/-- To store again there is as to store that alone. -/
theorem st_again {zs : List Int} {a : Int} (v x : Int) (h : inB zs a = true) : hpSt (hpSt zs a v) a x = hpSt zs a x := by
  have h' : inB (hpSt zs a v) a = true := by rw [inB_len (hpSt_len v h)]; exact h
  rw [hpSt_in x h', hpSt_in v h, hpSt_in x h, List.set_set]
/-- At two places: in either order. -/
theorem st_orders {zs : List Int} {a b : Int} (v x : Int) (ha : inB zs a = true) (hb : inB zs b = true) (hn : a ≠ b) : hpSt (hpSt zs a v) b x = hpSt (hpSt zs b x) a v := by
  have h1 : inB (hpSt zs a v) b = true := by rw [inB_len (hpSt_len v ha)]; exact hb
  have h2 : inB (hpSt zs b x) a = true := by rw [inB_len (hpSt_len x hb)]; exact ha
  rw [hpSt_in x h1, hpSt_in v h2, hpSt_in v ha, hpSt_in x hb, List.set_comm]
  have := inB_nat ha
  have := inB_nat hb
  omega
theorem st_self {zs : List Int} {a : Int} (h : inB zs a = true) : hpSt zs a (hpLd zs a) = zs := by
  rw [hpSt_in _ h]
  apply List.ext_getElem?
  intro i
  by_cases hi : i = a.toNat
  · subst hi
    rw [List.getElem?_set_self (inB_nat h).2.2, hpLd_in h]
  · rw [List.getElem?_set_ne (Ne.symm hi)]
theorem eqB_refl (xs : List Int) : eqB xs xs = true := decide_eq_true rfl
theorem eqB_symm (xs ys : List Int) : eqB xs ys = eqB ys xs := by
  unfold eqB
  exact decide_eq_decide.2 ⟨Eq.symm, Eq.symm⟩
theorem eqB_of {xs ys : List Int} (h : eqB xs ys = true) : xs = ys := of_decide_eq_true h
theorem eqB_mk {xs ys : List Int} (h : xs = ys) : eqB xs ys = true := decide_eq_true h
theorem eqB_len {xs ys : List Int} (h : xs.length ≠ ys.length) : eqB xs ys = false := decide_eq_false (fun e => h (congrArg List.length e))
theorem eqB_at {xs ys : List Int} {k : Nat} {x y : Int} (hx : xs[k]? = some x) (hy : ys[k]? = some y) (h : x ≠ y) : eqB xs ys = false :=
  decide_eq_false (fun e => by subst e; rw [hx] at hy; exact h (Option.some.inj hy))
theorem eqB_all {xs ys : List Int} (hl : xs.length = ys.length) (h : ∀ k : Nat, k < xs.length → xs[k]? = ys[k]?) : eqB xs ys = true := by
  refine eqB_mk (List.ext_getElem? fun i => ?_)
  by_cases hi : i < xs.length
  · exact h i hi
  · rw [List.getElem?_eq_none (by omega), List.getElem?_eq_none (by omega)]
end Go.Proofs.YtdghhedenjgjiaaGreatDoor
