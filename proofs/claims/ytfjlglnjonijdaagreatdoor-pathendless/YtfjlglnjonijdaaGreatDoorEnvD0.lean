/-
  Quiet loads of tables; orNew from an older world.
-/
import Derived.Test.YtfjlglnjonijdaaGreatDoorEnvAfter
import Derived.Test.YtfjlglnjonijdaaGreatDoorOrders
import Derived.RegionTactic
namespace Go.Proofs.YtfjlglnjonijdaaGreatDoor
open Go.RowKit

theorem wpQuiet_value {P : Program} {ops : Array Oper} {C : World → Prop} {Q : Act → Prop} {op : Oper} {rest : List Oper} {act : Act} (hgd : op.guard = none) (v : Value) (hv : ∀ w, C w → (execOp act.eval op).run P w = .ok (.value v) w)
    (hk : wpQuiet P ops C Q rest (act.put op.dst v)) : wpQuiet P ops C Q (op :: rest) act :=
  wpQuiet_step fun K hK => by
    simp only [Region.wanted, hgd, if_true]
    exact ⟨v, fun w hw => by unfold Oper.quietAt; rw [hv w hw]; exact ⟨rfl, rfl⟩, hK _ hk⟩
theorem wpQuiet_ldT {ops : Array Oper} {C : World → Prop} {Q : Act → Prop} {op : Oper} {rest : List Oper} {act : Act} (hgd : op.guard = none) (p : Operand) (ho : op.op = .load 38 p)
    (g : Nat) (hx : act.eval p = .pointer (some ⟨g, 0, none⟩)) {t : Tb} (h : ∀ w, C w → HasT w g t)
    (hk : wpQuiet Tryz.prog ops C Q rest (act.put op.dst (.agg (cellsT t)))) : wpQuiet Tryz.prog ops C Q (op :: rest) act :=
  wpQuiet_value hgd _ (fun w hw => by
    unfold execOp
    have := run_loadVar_row (P := Tryz.prog) w g _ 38 _ _ _ (h w hw) Tryz.underlying38 rfl (by rw [cellsT_size]; exact infoT)
    simp only [ho, hx, Instr.loadAt, Instr.sureAddr, Sem.run_bind, Sem.run_pure, Result.andThen_ok, this]) hk
theorem orNew_from {w0 : World} (t : Tb) (w : World) (h : New w0 w) :
    Calls Tryz.prog 26 #[.agg (cellsT t)] w fun e w' => e = .returned (.agg (cellsT (orN t))) ∧ New w0 w' :=
  (orNew_any t w).mono fun _ _ ⟨he, hw⟩ => ⟨he, h.trans hw⟩
theorem int_of_right' {l : Int} (h : rightB l = true) : ∃ k : Nat, l = (k : Int) ∧ k < 24 := ⟨l.toNat, by have := right_lt h; omega, (right_lt h).1⟩
end Go.Proofs.YtfjlglnjonijdaaGreatDoor
