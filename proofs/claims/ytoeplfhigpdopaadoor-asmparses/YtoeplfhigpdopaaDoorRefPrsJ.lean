/-
  The reference's Parse of instructions (joineryref03), at every text of at most 100000 bytes: what ins.Parse tells.
-/
import Derived.Test.YtoeplfhigpdopaaDoorRefPrs
import Derived.Test.YtoeplfhigpdopaaDoorRefPrtJ
import Derived.Test.YtoeplfhigpdopaaDoorRefChkJ
import Derived.Test.YtoeplfhigpdopaaDoorRefNum3
namespace Go.Proofs.YtoeplfhigpdopaaDoor
open Go.RowKit

theorem res_par (l : List UInt8) : refRes l = .tuple #[.int .i64 (parN l), .bool (parseV l).isSome] := by
  unfold refRes parN
  cases e : parseV l with
  | none => rfl
  | some v => rfl
theorem callees : Callees where
  word := fun k h1 h2 w => word_from k h1 h2 w (New.refl w)
  chk := fun o d a b n t m w => refCheck_any o d a b n t m w
  prt := fun o d a b n t hx hc w => refPrint_any o d a b n t hx hc w
  loc := fun s w => refParse_from s w (New.refl w)
  num := fun s w => by
    have h := refNum_any s w
    rw [res_par] at h
    exact h
theorem refParse_any (s : ByteArray) (hs : s.size ≤ 100000) (w : World) :
    Calls Tryd.prog 32 #[.string s] w fun e w' => e = .returned (.tuple #[.agg #[.int .i64 (prsX s.data.toList).op, .int .i64 (prsX s.data.toList).d, .int .i64 (prsX s.data.toList).a, .int .i64 (prsX s.data.toList).b, .int .i64 (prsX s.data.toList).n, .int .i64 (prsX s.data.toList).t], .bool (prs s.data.toList).isSome]) ∧ New w w' := refPrs_any callees s hs w
end Go.Proofs.YtoeplfhigpdopaaDoor
