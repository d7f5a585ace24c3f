/-
  The load of a state in a region that draws its order.
-/
import Derived.Test.YtlmnodbhfpgplaaGreatDoorStepG
namespace Go.Proofs.YtlmnodbhfpgplaaGreatDoor
open Go.RowKit

theorem ldS_if {ops : Array Oper} {S : World → Prop} {op : Oper} {act : Act} (hw : Region.wanted op (yielded ops act.tmps) = true) (a : Operand) (ho : op.op = .load 38 a) (g : Nat) (hx : act.eval a = .pointer (some ⟨g, 0, none⟩)) {l : Ws} {s : Sl} {p q : Int} (h : ∀ w, S w → HasS w g l s p q) :
    YieldsIf Tryz.prog ops S op (.agg (cellsS l s p q).toArray) act :=
  yieldsIf_load_mid hw _ a ho g 0 hx (cellsS l s p q) _ (fun w hw => (h w hw).all) Tryz.underlying38 rfl (by rw [cellsS_len]; exact infoSt)
end Go.Proofs.YtlmnodbhfpgplaaGreatDoor
