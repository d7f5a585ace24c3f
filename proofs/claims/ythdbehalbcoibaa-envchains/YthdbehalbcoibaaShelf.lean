/-
  The shelf's contracts of the library's functions that this claim uses, laid at this program in plain words (made by program).
-/
import Derived.Shelf.Strconv.Itoa0
import Derived.Shelf.Strconv.Itoa1
import Derived.Shelf.LaysM
import Derived.Shelf.Strconv.Itoa2
import Derived.Shelf.Strconv.Itoa3
import Derived.Shelf.Strconv.Itoa4
import Derived.Test.YthdbehalbcoibaaProg
namespace Go.Proofs
open Go.Shelf

def Try.lays171_ren : Go.Shelf.Ren := ⟨fun | 171 => 44 | 243 => 45 | 246 => 46 | 283 => 47 | 284 => 48 | 285 => 49 | 286 => 50 | 129 => 52 | 317 => 51 | 318 => 53 | 319 => 54 | 320 => 55 | 337 => 56 | 338 => 57 | n => n, fun | 3 => 3 | 9 => 9 | 2 => 2 | 4 => 4 | 171 => 89 | 0 => 0 | 53 => 90 | 37 => 22 | 5 => 5 | 173 => 93 | 212 => 97 | 51 => 75 | 20 => 20 | 213 => 98 | 46 => 99 | 232 => 102 | 233 => 103 | n => n, fun | 17 => 0 | 18 => 1 | 19 => 2 | n => n⟩
theorem Try.lays171 : Go.Proofs.Lays.n171 Try.prog Try.lays171_ren := {
  mixed := by kernel_rfl
  f129 := Try.func52.trans (congrArg some (by kernel_rfl))
  f171 := Try.func44.trans (congrArg some (by kernel_rfl))
  f243 := Try.func45.trans (congrArg some (by kernel_rfl))
  f246 := Try.func46.trans (congrArg some (by kernel_rfl))
  f283 := Try.func47.trans (congrArg some (by kernel_rfl))
  f284 := Try.func48.trans (congrArg some (by kernel_rfl))
  f285 := Try.func49.trans (congrArg some (by kernel_rfl))
  f286 := Try.func50.trans (congrArg some (by kernel_rfl))
  f317 := Try.func51.trans (congrArg some (by kernel_rfl))
  f318 := Try.func53.trans (congrArg some (by kernel_rfl))
  f319 := Try.func54.trans (congrArg some (by kernel_rfl))
  f320 := Try.func55.trans (congrArg some (by kernel_rfl))
  f337 := Try.func56.trans (congrArg some (by kernel_rfl))
  f338 := Try.func57.trans (congrArg some (by kernel_rfl))
  t0 := Try.underlying0
  a0 := Try.isAgg0
  z0 := Try.sizeOf0
  v0 := Try.zeroValue0
  t2 := Try.underlying2
  a2 := Try.isAgg2
  z2 := Try.sizeOf2
  v2 := Try.zeroValue2
  t3 := Try.underlying3
  a3 := Try.isAgg3
  z3 := Try.sizeOf3
  v3 := Try.zeroValue3
  t4 := Try.underlying4
  a4 := Try.isAgg4
  z4 := Try.sizeOf4
  v4 := Try.zeroValue4
  t5 := Try.underlying5
  a5 := Try.isAgg5
  z5 := Try.sizeOf5
  v5 := Try.zeroValue5
  t9 := Try.underlying9
  a9 := Try.isAgg9
  z9 := Try.sizeOf9
  v9 := Try.zeroValue9
  t20 := Try.underlying20
  a20 := Try.isAgg20
  z20 := Try.sizeOf20
  v20 := Try.zeroValue20
  t37 := Try.underlying22
  a37 := Try.isAgg22
  z37 := Try.sizeOf22
  v37 := Try.zeroValue22
  t46 := Try.underlying99
  a46 := Try.isAgg99
  z46 := Try.sizeOf99
  v46 := Try.zeroValue99
  t51 := Try.underlying75
  a51 := Try.isAgg75
  z51 := Try.sizeOf75
  v51 := Try.zeroValue75
  t53 := Try.underlying90
  a53 := Try.isAgg90
  z53 := Try.sizeOf90
  v53 := Try.zeroValue90
  t171 := Try.underlying89
  a171 := Try.isAgg89
  z171 := Try.sizeOf89
  v171 := Try.zeroValue89
  t173 := Try.underlying93
  a173 := Try.isAgg93
  z173 := Try.sizeOf93
  v173 := Try.zeroValue93
  t212 := Try.underlying97
  a212 := Try.isAgg97
  z212 := Try.sizeOf97
  v212 := Try.zeroValue97
  t213 := Try.underlying98
  a213 := Try.isAgg98
  z213 := Try.sizeOf98
  t232 := Try.underlying102
  a232 := Try.isAgg102
  z232 := Try.sizeOf102
  v232 := Try.zeroValue102
  t233 := Try.underlying103
  a233 := Try.isAgg103
  z233 := Try.sizeOf103
  v233 := Try.zeroValue103
  g17 := by kernel_rfl
  g18 := by kernel_rfl
  g19 := by kernel_rfl }
open Go.RowKit Go.Sort Go.Lib in
theorem Try.strconv_Itoa_small (i : Nat) (hi : i < 100) (w : World) :
    Calls Try.prog 44 #[.int .i64 i] w fun e w' => e = .returned (.string ⟨(Lib.decDigits i).toArray⟩) ∧ w' = w := Any.strconv_Itoa_small Try.lays171 i hi w
end Go.Proofs
