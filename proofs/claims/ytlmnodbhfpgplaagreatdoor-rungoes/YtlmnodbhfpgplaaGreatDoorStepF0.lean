/-
  Words that are held against themselves.
-/
import Derived.Test.YtlmnodbhfpgplaaGreatDoorStepE
import Derived.Test.YtlmnodbhfpgplaaGreatDoorOrders
namespace Go.Proofs.YtlmnodbhfpgplaaGreatDoor
open Go.RowKit

theorem sizeWd : ∀ w, (sizeOf 35).run Tryz.prog w = .ok 2 w := Tryz.sizeOf35
/-! Same. -/
theorem run_neqW (x : Wd) (w : World) : (binOp .neq 35 (.agg #[.bool x.1, .int .i64 x.2]) (.agg #[.bool x.1, .int .i64 x.2])).run Tryz.prog w = .ok (.bool false) w := by
  obtain ⟨b, n⟩ := x
  go_simp
section
variable {ops : Array Oper} {C : World → Prop} {Q : Act → Prop} {op : Oper} {rest : List Oper} {act : Act}
theorem wpQuiet_ldWm (hw : Region.wanted op (yielded ops act.tmps) = true) (p : Operand) (ho : op.op = .load 35 p)
    (b o : Nat) (hx : act.eval p = .pointer (some ⟨b, o, none⟩)) {x : Wd} (h : ∀ w, C w → w.rangeAt b o (wcells x))
    (hk : wpQuiet Tryz.prog ops C Q rest (act.put op.dst (.agg #[.bool x.1, .int .i64 x.2]))) : wpQuiet Tryz.prog ops C Q (op :: rest) act :=
  wpQuiet_valG hw _ (fun w hw => by
    unfold execOp
    have := run_loadAt_mid (P := Tryz.prog) w b o 35 (wcells x) _ (h w hw) Tryz.underlying35 rfl infoWd
    simp only [ho, hx, this, Sem.run_bind, Sem.run_pure, Result.andThen_ok]
    rfl) hk
end
end Go.Proofs.YtlmnodbhfpgplaaGreatDoor
