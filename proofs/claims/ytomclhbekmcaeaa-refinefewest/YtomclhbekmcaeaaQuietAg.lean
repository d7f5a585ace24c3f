/-
  A region whose order does not matter: the load of a row of cells as a whole.
-/
import Derived.Test.YtomclhbekmcaeaaHeldA
namespace Go.Proofs.Ytomclhbekmcaeaa
open Go.RowKit

theorem wpQuiet_ldAg {ops : Array Oper} {C : World → Prop} {Q : Act → Prop} {op : Oper} {rest : List Oper} {act : Act} (hw : Region.wanted op (yielded ops act.tmps) = true) (ty : TypeId) (p : Operand) (ho : op.op = .load ty p) (b o : Nat) (hx : act.eval p = .pointer (some ⟨b, o, none⟩)) (cs : List Value) (d : TypeDesc)
    (hc : ∀ w, C w → w.rangeAt b o cs) (hu : Try.prog.underlying ty = some d) (hd : d.isRow = true) (hi : (Try.prog.info? ty).map (·.size) = some cs.length) (hk : wpQuiet Try.prog ops C Q rest (act.put op.dst (.agg cs.toArray))) : wpQuiet Try.prog ops C Q (op :: rest) act :=
  wpQuiet_valG hw _ (fun w hw => by
    unfold execOp
    have := run_loadAt_mid (P := Try.prog) w b o ty cs _ (hc w hw) hu hd hi
    simp only [ho, hx, this, Sem.run_bind, Sem.run_pure, Result.andThen_ok]) hk
end Go.Proofs.Ytomclhbekmcaeaa
