/-
  Tables put together, as plain functions: in whichever order; and what fills them.
-/
import Derived.Test.YtfjlglnjonijdaaDoorEnvEq
namespace Go.Proofs.YtfjlglnjonijdaaDoor
open Go.RowKit

theorem thn_at {a b : Tb} (ha : goodT a = true) (hb : goodT b = true) (i : Nat) : thn a b i = if (b i).1 = 0 then a (b i).2.toNat else b i := by
  unfold thn
  rw [orN_good ha, orN_good hb]
theorem thn_assoc {a b c : Tb} (ha : goodT a = true) (hb : goodT b = true) (hc : goodT c = true) (i : Nat) : thn (thn a b) c i = thn a (thn b c) i := by
  rw [thn_at (good_thn a b) hc, thn_at ha (good_thn b c), thn_at hb hc]
  by_cases h : (c i).1 = 0
  · rw [if_pos h, if_pos h, thn_at ha hb]
  · rw [if_neg h, if_neg h, if_neg h]
theorem thn_new_right {a : Tb} (ha : goodT a = true) : thn a newT = a := by
  funext i
  rw [thn_at ha good_new]
  simp [newT]
theorem thn_new_left {a : Tb} (ha : goodT a = true) : ∀ i < 24, thn newT a i = a i := by
  intro i hi
  rw [thn_at good_new ha]
  rcases ok_cases (good_at ha hi) with h | ⟨h, h1, h2⟩
  · rw [if_neg (by omega)]
  · rw [if_pos h]
    unfold newT
    apply Prod.ext
    · exact h.symm
    · show (((a i).2.toNat : Nat) : Int) = (a i).2
      omega
theorem aft_thn {a b : Tb} (ha : goodT a = true) (hb : goodT b = true) (x : I) : aft (thn a b) x = thn a (aft b x) := by
  funext i
  rw [thn_at ha (good_aft b x)]
  have e1 : aft (thn a b) x = if rightB x.d = true ∧ rightB x.a = true then (if x.op = 1 then upd (thn a b) x.d.toNat (1, x.n) else if x.op = 2 then upd (thn a b) x.d.toNat (thn a b x.a.toNat) else if x.op = 3 then upd (upd (thn a b) x.d.toNat (thn a b x.a.toNat)) x.a.toNat (thn a b x.d.toNat) else thn a b) else thn a b := by
    rw [aft, orN_good (good_thn a b)]
  have e2 : aft b x = if rightB x.d = true ∧ rightB x.a = true then (if x.op = 1 then upd b x.d.toNat (1, x.n) else if x.op = 2 then upd b x.d.toNat (b x.a.toNat) else if x.op = 3 then upd (upd b x.d.toNat (b x.a.toNat)) x.a.toNat (b x.d.toNat) else b) else b := by
    rw [aft, orN_good hb]
  rw [e1, e2]
  split
  · split
    · unfold upd
      by_cases h : i = x.d.toNat
      · simp [h]
      · simp only [if_neg h]
        exact thn_at ha hb i
    · split
      · unfold upd
        by_cases h : i = x.d.toNat
        · simp only [if_pos h]
          exact thn_at ha hb _
        · simp only [if_neg h]
          exact thn_at ha hb i
      · split
        · unfold upd
          by_cases h2 : i = x.a.toNat
          · simp only [if_pos h2]
            exact thn_at ha hb _
          · simp only [if_neg h2]
            by_cases h : i = x.d.toNat
            · simp only [if_pos h]
              exact thn_at ha hb _
            · simp only [if_neg h]
              exact thn_at ha hb i
        · exact thn_at ha hb i
  · exact thn_at ha hb i
theorem good_fold : ∀ (f : List I) (t : Tb), goodT t = true → goodT (f.foldl aft t) = true
  | [], _, h => h
  | x :: f, t, _ => good_fold f (aft t x) (good_aft t x)
theorem fold_thn {a : Tb} (ha : goodT a = true) : ∀ (f : List I) (b : Tb), goodT b = true → f.foldl aft (thn a b) = thn a (f.foldl aft b)
  | [], _, _ => rfl
  | x :: f, b, hb => by
    rw [List.foldl_cons, List.foldl_cons, aft_thn ha hb]
    exact fold_thn ha f (aft b x) (good_aft b x)
theorem fold_from {a : Tb} (ha : goodT a = true) (f : List I) : f.foldl aft a = thn a (f.foldl aft newT) := by
  have := fold_thn ha f newT good_new
  rw [thn_new_right ha] at this
  exact this
theorem fil_at {t : Tb} (ht : goodT t = true) (l : Ws) (i : Nat) : fil t l i = if (t i).1 = 0 then l (t i).2.toNat else (true, (t i).2) := by
  unfold fil
  rw [orN_good ht]
theorem fil_thn {a b : Tb} (ha : goodT a = true) (hb : goodT b = true) (l : Ws) (i : Nat) : fil (thn a b) l i = fil b (fil a l) i := by
  rw [fil_at (good_thn a b), fil_at hb, thn_at ha hb]
  by_cases h : (b i).1 = 0
  · rw [if_pos h, if_pos h, fil_at ha]
  · rw [if_neg h, if_neg h, if_neg h]
/-- The first twenty. -/
theorem take_end {f : List I} {k : Nat} (hk : k ≤ 20) (h : f.length ≤ k ∨ 20 ≤ k) : f.take k = f.take 20 := by
  rcases h with h | h
  · rw [List.take_of_length_le h, List.take_of_length_le (by omega)]
  · rw [show k = 20 by omega]
theorem fold_step {f : List I} {k : Nat} {x : I} (h : f[k]? = some x) (t : Tb) : aft ((f.take k).foldl aft t) x = (f.take (k + 1)).foldl aft t := by
  rw [List.take_add_one, h]
  simp
end Go.Proofs.YtfjlglnjonijdaaDoor
