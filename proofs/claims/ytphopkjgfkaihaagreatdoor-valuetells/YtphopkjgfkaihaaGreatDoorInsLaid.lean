/-
  From the rows' condition on the listed package variables to 'Laid'; and a start that meets that condition.
-/
import Derived.Test.YtphopkjgfkaihaaGreatDoorOpenKit
import Derived.Test.YtphopkjgfkaihaaGreatDoorInsAll
import Derived.ProofKit
import Derived.LaidMore
import Derived.OpenShut
import Derived.Stop.Joined
import Derived.Stop.LaidErr
import Derived.Lib.LaidTab
import Derived.Lib.LaidU8
namespace Go.Proofs.YtphopkjgfkaihaaGreatDoor
open Go.RowKit Go.ChangeShapes

theorem tTab : (Tryz.prog.globals[4]?).map (·.type) = some 248 := by kernel_rfl
theorem tSyn : (Tryz.prog.globals[2]?).map (·.type) = some 205 := by kernel_rfl
theorem tRng : (Tryz.prog.globals[3]?).map (·.type) = some 205 := by kernel_rfl
theorem tShp : (Tryz.prog.globals[0]?).map (·.type) = some 190 := by kernel_rfl
theorem starName : "*" ++ "errors.errorString" = "*errors.errorString" := by decide
theorem rowErr (u : TypeId) (h : Tryz.prog.typeName? 3 u = some "*errors.errorString") : u = 244 :=
  typeName_ptr_named (nm := "errors.errorString") (by rw [starName]; kernel_rfl) (by kernel_rfl) (by decide) u (by rw [starName]; exact h)

abbrev laidL : List (String × DataW Unit) := [("math/bits.deBruijn32tab", Rows.laid_math_bits_deBruijn32tab), ("math/bits.deBruijn64tab", Rows.laid_math_bits_deBruijn64tab), ("internal/strconv.uint64pow10", Rows.laid_internal_strconv_uint64pow10), ("strconv.ErrRange", Rows.laid_strconv_ErrRange), ("strconv.ErrSyntax", Rows.laid_strconv_ErrSyntax), ("joinery/ins.shapes", Rows.laid_joinery_ins_shapes)]

section
variable {H : Type} {enc : TypeId × Value → H} {P : Program} {w : World} {base : Nat} {sp : Nat → Bool} {held : Bool}
/-- An array of structs of two texts, that reads as these, holds them, cell by cell. -/
theorem str_pairs {fuel n : Nat} {t e : TypeId} {f0 f1 : Field} {cs : List Value} {T : List (List UInt8 × List UInt8)} {p : List MemPlace} (ht : P.underlying t = some (.array n e)) (he : P.underlying e = some (.struct #[f0, f1]))
    (h0 : P.underlying f0.type = some .string) (h1 : P.underlying f1.type = some .string) (o0 : f0.offset = 0) (o1 : f1.offset = 1) (c0 : P.cellsOf f0.type = 1) (c1 : P.cellsOf f1.type = 1) (ce : P.cellsOf e = 2)
    (h : DataW.trod enc P w base sp held fuel t cs = some (.agg (T.map fun q => .agg [.lit (.string q.1), .lit (.string q.2)]), p)) (i : Nat) (hi : i < n) (q : List UInt8 × List UInt8) (hq : T[i]? = some q) :
    cs[i * 2]? = some (.string ⟨q.1.toArray⟩) ∧ cs[i * 2 + 1]? = some (.string ⟨q.2.toArray⟩) := by
  obtain ⟨f', d, r, hd, hx⟩ := Lib.array_elem ht h i hi
  rw [List.getElem?_map, hq] at hd
  have hd := (Option.some.inj hd).symm
  subst hd
  obtain ⟨y0, y1, m, hy, _, a0, a1⟩ := trod_struct2 he hx
  obtain ⟨s0, e0, d0, _⟩ := DataW.trod_string h0 a0
  obtain ⟨s1, e1, d1, _⟩ := DataW.trod_string h1 a1
  have hy := congrArg Prod.fst hy
  rw [d0, d1] at hy
  simp only [DataW.agg.injEq, List.cons.injEq, DataW.lit.injEq, Lit.string.injEq, and_true] at hy
  rw [ce, o0, c0] at e0
  rw [ce, o1, c1] at e1
  have g0 := congrArg (·[0]?) e0
  have g1 := congrArg (·[0]?) e1
  simp only [List.getElem?_take, List.getElem?_drop, List.drop_zero, Nat.add_zero] at g0 g1
  refine ⟨?_, ?_⟩
  · have : cs[i * 2]? = some (.string s0) := by simpa using g0
    rw [this, hy.1]
  · have : cs[i * 2 + 1]? = some (.string s1) := by simpa using g1
    rw [this, hy.2]
end
/-- The table, two by two. -/
def pairsT : List (List UInt8 × List UInt8) := (List.range 19).map fun k => (wordL k, fldsL k)
theorem shapes_are : (Rows.laid_joinery_ins_shapes : DataW Unit) = .agg (pairsT.map fun q => .agg [.lit (.string q.1), .lit (.string q.2)]) := rfl

theorem shp_of {W : World} (h : Lib.VarReads Tryz.prog W "joinery/ins.shapes" Rows.laid_joinery_ins_shapes) : W.var? Tryz.prog "joinery/ins.shapes" = some shpCells := by
  obtain ⟨g, t, cs, fuel, p, hg, ht, hv, hr⟩ := h
  obtain rfl : g = 0 := Option.some.inj (hg.symm.trans gShp)
  obtain rfl : t = 190 := Option.some.inj (ht.symm.trans tShp)
  rw [hv]
  congr 1
  rw [shapes_are] at hr
  have hlen : cs.toList.length = 38 := by
    obtain ⟨xs, m, _, _, hl, _⟩ := DataW.trod_array Tryz.underlying190 hr
    rw [hl]; kernel_rfl
  have hp := fun i hi => str_pairs (T := pairsT) Tryz.underlying190 Tryz.underlying189 Tryz.underlying9 Tryz.underlying9 rfl rfl (by kernel_rfl) (by kernel_rfl) (by kernel_rfl) hr i hi
  have hs : shpCells.toList.length = 38 := by unfold shpCells; simp; decide
  apply Array.ext'
  apply List.ext_getElem?
  intro j
  by_cases hj : j < 38
  · have hlt : j < tabL.length := by rw [show tabL.length = 38 from by decide]; exact hj
    have hc : shpCells.toList[j]? = some (.string ⟨(tabL.getD j []).toArray⟩) := by
      unfold shpCells
      rw [List.getElem?_map, List.getD_eq_getElem?_getD, List.getElem?_eq_getElem hlt]
      rfl
    have hpk : pairsT[j / 2]? = some (wordL (j / 2), fldsL (j / 2)) := by
      unfold pairsT
      rw [List.getElem?_map, List.getElem?_range (by omega)]
      rfl
    obtain ⟨a0, a1⟩ := hp (j / 2) (by omega) _ hpk
    rw [hc]
    rcases Nat.mod_two_eq_zero_or_one j with h2 | h2
    · rw [show j / 2 * 2 = j from by omega] at a0
      rw [a0]
      unfold wordL
      rw [show j / 2 * 2 = j from by omega]
    · rw [show j / 2 * 2 + 1 = j from by omega] at a1
      rw [a1]
      unfold fldsL
      rw [show j / 2 * 2 + 1 = j from by omega]
  · rw [List.getElem?_eq_none (by omega), List.getElem?_eq_none (by omega)]

theorem laid_of {W : World} (h : laidMetH Tryz.prog laidL W) : Laid W := by
  rw [MakeChecks.laidMetH_plain _ _ _ (by kernel_rfl)] at h
  have hsh := shp_of (Lib.laidMet.reads h (.tail _ (.tail _ (.tail _ (.tail _ (.tail _ (.head _)))))))
  have h3 := h.tail.tail
  have ht : Lib.TabIs Tryz.prog W "internal/strconv.uint64pow10" .u64 Lib.pow10Tab :=
    Lib.tabIs_of_head gTab tTab Tryz.underlying248 Tryz.underlying216 (by kernel_rfl) (by kernel_rfl) (show laidMet Tryz.prog (("internal/strconv.uint64pow10", Lib.tabData .u64 Lib.pow10Tab) :: _) W from h3)
  obtain ⟨a0, s0, hv0, _⟩ := laid_sentinel h3.tail gRng tRng Tryz.underlying205 rowErr Tryz.underlying244 Tryz.underlying246 rfl rfl Tryz.underlying9 (by kernel_rfl) (by kernel_rfl)
  obtain ⟨a1, s1, hv1, _⟩ := laid_sentinel h3.tail.tail gSyn tSyn Tryz.underlying205 rowErr Tryz.underlying244 Tryz.underlying246 rfl rfl Tryz.underlying9 (by kernel_rfl) (by kernel_rfl)
  exact ⟨ht, ⟨_, _, hv1⟩, ⟨_, _, hv0⟩, hsh⟩

set_option maxRecDepth 100000 in
theorem door_met (os : Os) (args : Array Value) : laidMetH Tryz.prog laidL ((World.doorLaid Tryz.prog 85 os).forCall (fun _ _ => 0) ⟨#[], args, []⟩).memory :=
  laidMetH_of_parts3 (fuel := 8) (laidMet_of_run' 8 (by kernel_rfl) (by kernel_rfl)) (by kernel_rfl) (by kernel_rfl)
end Go.Proofs.YtphopkjgfkaihaaGreatDoor
