/-
  Layer 11: the contracts of value.own, given, left, told, met.
-/
import Derived.Test.YtphopkjgfkaihaaGreatDoorSepNest
import Derived.Test.YtphopkjgfkaihaaGreatDoorSkelAll
import Derived.Test.YtphopkjgfkaihaaGreatDoorHasHI
import Derived.Test.YtphopkjgfkaihaaGreatDoorValuePlain
import Derived.Test.YtphopkjgfkaihaaGreatDoorInsF
namespace Go.Proofs.YtphopkjgfkaihaaGreatDoor
open Go.RowKit

def srcK (c : Sc) : List Value := [.int .i64 c.1, .int .i64 c.2]
abbrev srcsO (v : Value) (xs : List Sc) : Asn := rowA 39 2 (leafE srcK) v xs
theorem infoSr : (Tryz.prog.info? 39).map (·.size) = some 2 := by kernel_rfl
theorem infoSr3 : (Tryz.prog.info? 39).map (fun i => (i.zero, i.size, i.bytes)) = some (some (.agg #[.int .i64 0, .int .i64 0]), 2, 16) := by kernel_rfl
theorem sizeSr : ∀ w, (sizeOf 39).run Tryz.prog w = .ok 2 w := Tryz.sizeOf39
theorem zeroSr_run (w : World) : (zeroValue 39).run Tryz.prog w = .ok (.agg (srcK (0, 0)).toArray) w := Tryz.zeroValue39 w
theorem build_Sr0 (w : World) : (Instr.build 39 #[]).run Tryz.prog w = .ok (.agg (srcK (0, 0)).toArray) w := run_build w _ _ _ (by kernel_rfl)
theorem build_Sr1 (a : Int) (w : World) : (Instr.build 39 #[(0, .int .i64 a)]).run Tryz.prog w = .ok (.agg (srcK (a, 0)).toArray) w := run_build w _ _ _ (by kernel_rfl)
theorem build_Sr2 (a b : Int) (w : World) : (Instr.build 39 #[(0, .int .i64 a), (1, .int .i64 b)]).run Tryz.prog w = .ok (.agg (srcK (a, b)).toArray) w := run_build w _ _ _ (by kernel_rfl)
theorem srcK_one (c : Sc) : ∀ v ∈ srcK c, v.oneCell' = true := by simp [srcK, Value.oneCell']
theorem resSr (fn : Func) {p : Tmp} (h : fn.results = #[.cell p 39]) (tmps : Array Value) (w : World) (g : Nat) (c : Sc) (hp : tmps.getD p undef = .pointer (some ⟨g, 0, none⟩)) (hg : HasC w g 39 (srcK c)) :
    (results fn tmps).run Tryz.prog w = .ok (.agg (srcK c).toArray) w :=
  results_cell_row h tmps w g _ _ _ _ hp hg Tryz.underlying39 rfl infoSr
theorem own_any (l : Int) (w : World) : Calls Tryz.prog 101 #[.int .i64 l] w fun e w' => e = .returned (.agg (srcK (4, l)).toArray) ∧ New w w' := by
  have HS := Lib.hid (Sep.start w)
  have T1 : Hid True := Lib.hid trivial
  have T2 : Hid True := Lib.hid trivial
  have T3 : Hid True := Lib.hid trivial
  go_enter Tryz.func101, Tryz.ntmps101
  go_wp2_with (first
    | (clear T1; refine wpList_alB rfl 39 rfl _ zeroSr_run _ rfl HS.out ?_; intro wa g hs; replace HS := Lib.hid hs; clear hs)
    | (clear T2; refine wpList_bd2 (a := .int .i64 4) (b := .int .i64 l) rfl 39 0 1 (.const (.int .i64 4)) (.tmp 3) rfl rfl rfl (build_Sr2 4 l) ?_)
    | (clear T3; refine wpList_stSW 0 rfl rfl 39 (.tmp 2) (.tmp 4) rfl g rfl _ rfl HS.out rfl (srcK (4, l)) rfl rfl (srcK_one _) infoSr ?_; intro w2 hs; replace HS := Lib.hid hs; clear hs))
  exact bodyPost_ret (resSr _ rfl _ _ g _ rfl (HS.out.has 0 rfl)) rfl ⟨rfl, HS.out.nw⟩
theorem given_any (l : Int) (w : World) : Calls Tryz.prog 69 #[.int .i64 l] w fun e w' => e = .returned (.agg (srcK (if regB l = true then (1, l) else (0, 0))).toArray) ∧ New w w' := by
  have HS := Lib.hid (Sep.start w)
  by_cases q : regB l = true
  · rw [if_pos q]
    have T1 : Hid True := Lib.hid trivial
    have T2 : Hid True := Lib.hid trivial
    have T3 : Hid True := Lib.hid trivial
    have T4 : Hid True := Lib.hid trivial
    go_enter Tryz.func69, Tryz.ntmps69
    go_wp2_with (first
      | (clear T1; refine wpList_alB rfl 39 rfl _ zeroSr_run _ rfl HS.out ?_; intro wa g hs; replace HS := Lib.hid hs; clear hs)
      | (clear T2; go_at_call 99; refine (reg_any _ _).mono ?_; rw [q]; rintro e w1 ⟨rfl, rfl⟩)
      | (clear T3; refine wpList_bd2 (a := .int .i64 1) (b := .int .i64 l) rfl 39 0 1 (.const (.int .i64 1)) (.tmp 7) rfl rfl rfl (build_Sr2 1 l) ?_)
      | (clear T4; refine wpList_stSW 0 rfl rfl 39 (.tmp 2) (.tmp 8) rfl g rfl _ rfl HS.out rfl (srcK (1, l)) rfl rfl (srcK_one _) infoSr ?_; intro w2 hs; replace HS := Lib.hid hs; clear hs))
    exact bodyPost_ret (resSr _ rfl _ _ g _ rfl (HS.out.has 0 rfl)) rfl ⟨rfl, HS.out.nw⟩
  · rw [if_neg q]
    rw [Bool.not_eq_true] at q
    have T1 : Hid True := Lib.hid trivial
    have T2 : Hid True := Lib.hid trivial
    have T3 : Hid True := Lib.hid trivial
    have T4 : Hid True := Lib.hid trivial
    go_enter Tryz.func69, Tryz.ntmps69
    go_wp2_with (first
      | (clear T1; refine wpList_alB rfl 39 rfl _ zeroSr_run _ rfl HS.out ?_; intro wa g hs; replace HS := Lib.hid hs; clear hs)
      | (clear T2; go_at_call 99; refine (reg_any _ _).mono ?_; rw [q]; rintro e w1 ⟨rfl, rfl⟩)
      | (clear T3; refine wpList_bd0 rfl 39 rfl build_Sr0 ?_)
      | (clear T4; refine wpList_stSW 0 rfl rfl 39 (.tmp 2) (.tmp 6) rfl g rfl _ rfl HS.out rfl (srcK (0, 0)) rfl rfl (srcK_one _) infoSr ?_; intro w2 hs; replace HS := Lib.hid hs; clear hs))
    exact bodyPost_ret (resSr _ rfl _ _ g _ rfl (HS.out.has 0 rfl)) rfl ⟨rfl, HS.out.nw⟩
set_option maxHeartbeats 1000000 in
set_option maxRecDepth 100000 in
theorem left_any (x : I) (l : Int) (w : World) (hl : Laid w) : Calls Tryz.prog 70 #[.agg #[.int .i64 (x).op, .int .i64 (x).d, .int .i64 (x).a, .int .i64 (x).b, .int .i64 (x).n, .int .i64 (x).t], .int .i64 l] w fun e w' => e = .returned (.agg (srcK (if setsB x.op = true ∧ x.d = l then (3, 0) else (4, l))).toArray) ∧ New w w' := by
  have HL := Lib.hid hl
  have HS := Lib.hid (Sep.start w)
  have hs0 := fun w (h : Laid w) => sets_any x.op x.d x.a x.b x.n x.t w h
  have hv : setsV ⟨x.op, x.d, x.a, x.b, x.n, x.t⟩ = if setsB x.op = true then x.d else 0 := rfl
  rw [hv] at hs0
  have HC := Lib.hid hs0
  clear hl hs0 hv
  cases hq : setsB x.op with
  | false =>
    rw [if_neg (by simp)]
    have T1 : Hid True := Lib.hid trivial
    have T2 : Hid True := Lib.hid trivial
    have T3 : Hid True := Lib.hid trivial
    have T4 : Hid True := Lib.hid trivial
    have T5 : Hid True := Lib.hid trivial
    have T6 : Hid True := Lib.hid trivial
    go_enter Tryz.func70, Tryz.ntmps70
    go_wp2_with (first
      | (clear T1; refine wpList_boxB rfl 79 (.tmp 0) rfl (cells6 x) rfl HS.out ?_; intro wa gx hs; replace HS := Lib.hid hs; clear hs)
      | (clear T2; refine wpList_alB rfl 39 rfl _ zeroSr_run _ rfl HS.out ?_; intro wb g hs; replace HS := Lib.hid hs; clear hs)
      | (clear T3; refine wpList_ldEG rfl (.tmp 2) rfl gx 0 rfl (x := x) (HasC.all (HS.out.has 1 rfl)) ?_)
      | (clear T4; go_at_call 100; refine (HC.out _ (HL.out.new HS.out.nw)).mono ?_; rw [hq]; rintro e w1 ⟨rfl, hn⟩; replace HS := Lib.hid (HS.out.go hn); clear hn)
      | (clear T5; go_at_call 101; refine (own_any l _).mono ?_; rintro e w2 ⟨rfl, hn⟩; replace HS := Lib.hid (HS.out.go hn); clear hn)
      | (clear T6; refine wpList_stSW 0 rfl rfl 39 (.tmp 4) (.tmp 20) rfl g rfl _ rfl HS.out rfl (srcK (4, l)) rfl rfl (srcK_one _) infoSr ?_; intro w3 hs; replace HS := Lib.hid hs; clear hs))
    exact bodyPost_ret (resSr _ rfl _ _ g _ rfl (HS.out.has 0 rfl)) rfl ⟨rfl, HS.out.nw⟩
  | true =>
    by_cases hd : x.d = l
    · rw [if_pos ⟨rfl, hd⟩]
      have q2 : (x.d == l) = true := beq_of hd
      clear hd
      have T1 : Hid True := Lib.hid trivial
      have T2 : Hid True := Lib.hid trivial
      have T3 : Hid True := Lib.hid trivial
      have T4 : Hid True := Lib.hid trivial
      have T5 : Hid True := Lib.hid trivial
      have T6 : Hid True := Lib.hid trivial
      go_enter Tryz.func70, Tryz.ntmps70
      go_wp2_with (first
        | (clear T1; refine wpList_boxB rfl 79 (.tmp 0) rfl (cells6 x) rfl HS.out ?_; intro wa gx hs; replace HS := Lib.hid hs; clear hs)
        | (clear T2; refine wpList_alB rfl 39 rfl _ zeroSr_run _ rfl HS.out ?_; intro wb g hs; replace HS := Lib.hid hs; clear hs)
        | (clear T3; refine wpList_ldEG rfl (.tmp 2) rfl gx 0 rfl (x := x) (HasC.all (HS.out.has 1 rfl)) ?_)
        | (clear T4; go_at_call 100; refine (HC.out _ (HL.out.new HS.out.nw)).mono ?_; rw [hq]; rintro e w1 ⟨rfl, hn⟩; replace HS := Lib.hid (HS.out.go hn); clear hn)
        | (clear T5; refine wpList_bd1 (a := .int .i64 3) rfl 39 0 (.const (.int .i64 3)) rfl rfl (build_Sr1 3) ?_)
        | (clear T6; refine wpList_stSW 0 rfl rfl 39 (.tmp 4) (.tmp 18) rfl g rfl _ rfl HS.out rfl (srcK (3, 0)) rfl rfl (srcK_one _) infoSr ?_; intro w2 hs; replace HS := Lib.hid hs; clear hs))
      exact bodyPost_ret (resSr _ rfl _ _ g _ rfl (HS.out.has 0 rfl)) rfl ⟨rfl, HS.out.nw⟩
    · rw [if_neg (fun e => hd e.2)]
      have q2 : (x.d == l) = false := bneq_of hd
      clear hd
      have T1 : Hid True := Lib.hid trivial
      have T2 : Hid True := Lib.hid trivial
      have T3 : Hid True := Lib.hid trivial
      have T4 : Hid True := Lib.hid trivial
      have T5 : Hid True := Lib.hid trivial
      have T6 : Hid True := Lib.hid trivial
      go_enter Tryz.func70, Tryz.ntmps70
      go_wp2_with (first
        | (clear T1; refine wpList_boxB rfl 79 (.tmp 0) rfl (cells6 x) rfl HS.out ?_; intro wa gx hs; replace HS := Lib.hid hs; clear hs)
        | (clear T2; refine wpList_alB rfl 39 rfl _ zeroSr_run _ rfl HS.out ?_; intro wb g hs; replace HS := Lib.hid hs; clear hs)
        | (clear T3; refine wpList_ldEG rfl (.tmp 2) rfl gx 0 rfl (x := x) (HasC.all (HS.out.has 1 rfl)) ?_)
        | (clear T4; go_at_call 100; refine (HC.out _ (HL.out.new HS.out.nw)).mono ?_; rw [hq]; rintro e w1 ⟨rfl, hn⟩; replace HS := Lib.hid (HS.out.go hn); clear hn)
        | (clear T5; go_at_call 101; refine (own_any l _).mono ?_; rintro e w2 ⟨rfl, hn⟩; replace HS := Lib.hid (HS.out.go hn); clear hn)
        | (clear T6; refine wpList_stSW 0 rfl rfl 39 (.tmp 4) (.tmp 20) rfl g rfl _ rfl HS.out rfl (srcK (4, l)) rfl rfl (srcK_one _) infoSr ?_; intro w3 hs; replace HS := Lib.hid hs; clear hs))
      exact bodyPost_ret (resSr _ rfl _ _ g _ rfl (HS.out.has 0 rfl)) rfl ⟨rfl, HS.out.nw⟩
theorem eqIn_sr (d : Nat) (a b : Sc) (w : World) : (Op.equalIn (d + 2) 39 (.agg #[.int .i64 a.1, .int .i64 a.2]) (.agg #[.int .i64 b.1, .int .i64 b.2])).run Tryz.prog w = .ok (decide (a = b)) w := by
  have hS : Tryz.prog.underlying 39 = some (.struct (Tryz.prog.fieldsOf 39)) := by kernel_rfl
  rw [run_equalIn_agg w (d + 1) 39 _ _ hS (by kernel_rfl)]
  simp only [Program.fieldsOf, Tryz.underlying39]
  have u3 := Tryz.underlying3
  have a3 := Tryz.isAgg3
  have u4 := Tryz.underlying2
  have a4 := Tryz.isAgg2
  by_cases h1 : a.1 = b.1
  · by_cases h2 : a.2 = b.2
    · have q1 : (a.1 == b.1) = true := beq_of h1
      have q2 : (a.2 == b.2) = true := beq_of h2
      rw [decide_eq_true (Prod.ext h1 h2)]
      go_simp
    · have q1 : (a.1 == b.1) = true := beq_of h1
      have q2 : (a.2 == b.2) = false := bneq_of h2
      rw [decide_eq_false (fun e => h2 (by rw [e]))]
      go_simp
  · have q1 : (a.1 == b.1) = false := bneq_of h1
    rw [decide_eq_false (fun e => h1 (by rw [e]))]
    go_simp
theorem eql_sr (a b : Sc) (w : World) : (binOp .eql 39 (.agg #[.int .i64 a.1, .int .i64 a.2]) (.agg #[.int .i64 b.1, .int .i64 b.2])).run Tryz.prog w = .ok (.bool (decide (a = b))) w := by
  rw [run_eql_struct, show (10000 : Nat) = 9998 + 2 from rfl, eqIn_sr 9998 _ _ w]
  simp
theorem neq_sr (a b : Sc) (w : World) : (binOp .neq 39 (.agg #[.int .i64 a.1, .int .i64 a.2]) (.agg #[.int .i64 b.1, .int .i64 b.2])).run Tryz.prog w = .ok (.bool (!decide (a = b))) w := by
  rw [run_neq_struct, show (10000 : Nat) = 9998 + 2 from rfl, eqIn_sr 9998 _ _ w]
  simp
set_option maxHeartbeats 4000000 in
set_option maxRecDepth 100000 in
theorem met_any (c x : Sc) (l : Nat) (w : World) : Calls Tryz.prog 76 #[.agg #[.int .i64 c.1, .int .i64 c.2], .agg #[.int .i64 x.1, .int .i64 x.2], .int .i64 (l : Int)] w fun e w' => e = .returned (.agg (srcK (metF c x l)).toArray) ∧ New w w' := by
  have HS := Lib.hid (Sep.start w)
  have hE := eql_sr c x
  obtain ⟨r, HR⟩ : ∃ r, Hid (metF c x l = r) := ⟨_, Lib.hid rfl⟩
  rw [HR.out]
  replace HR := HR.out
  unfold metF at HR
  by_cases h1 : x.1 = -1
  · rw [if_pos h1] at HR
    subst HR
    have q1 : (x.1 == -1) = true := beq_of h1
    clear h1 hE
    have T1 : Hid True := Lib.hid trivial
    have T2 : Hid True := Lib.hid trivial
    have T3 : Hid True := Lib.hid trivial
    have T4 : Hid True := Lib.hid trivial
    have T5 : Hid True := Lib.hid trivial
    go_enter Tryz.func76, Tryz.ntmps76
    go_wp2_with (first
      | (clear T1; refine wpList_boxB rfl 39 (.tmp 0) rfl (srcK c) rfl HS.out ?_; intro wa gc hs; replace HS := Lib.hid hs; clear hs)
      | (clear T2; refine wpList_boxB rfl 39 (.tmp 1) rfl (srcK x) rfl HS.out ?_; intro wb gx hs; replace HS := Lib.hid hs; clear hs)
      | (clear T3; refine wpList_alB rfl 39 rfl _ zeroSr_run _ rfl HS.out ?_; intro wd g hs; replace HS := Lib.hid hs; have c0 := HS.out.cell 2 rfl (k := 0) rfl; have x0 := HS.out.cell 1 rfl (k := 0) rfl; have c1 := HS.out.cell 2 rfl (k := 1) rfl; have x1 := HS.out.cell 1 rfl (k := 1) rfl; clear hs)
      | (clear T4; refine wpList_load_mid rfl 39 (.tmp 3) rfl gc 0 rfl (srcK c) _ (HasC.all (HS.out.has 2 rfl)) Tryz.underlying39 rfl infoSr ?_)
      | (clear T5; refine wpList_stSW 0 rfl rfl 39 (.tmp 6) (.tmp 11) rfl g rfl _ rfl HS.out rfl (srcK c) rfl rfl (srcK_one _) infoSr ?_; intro w2 hs; replace HS := Lib.hid hs; clear hs c0 x0 c1 x1))
    exact bodyPost_ret (resSr _ rfl _ _ g _ rfl (HS.out.has 0 rfl)) rfl ⟨rfl, HS.out.nw⟩
  · rw [if_neg h1] at HR
    have q1 : (x.1 == -1) = false := bneq_of h1
    clear h1
    by_cases h2 : x.1 = 2 ∨ x.1 = 0
    · by_cases h3 : c.1 = -1
      · rw [if_pos ⟨h2, .inl h3⟩] at HR
        subst HR
        have q3 : (c.1 == -1) = true := beq_of h3
        clear h3 hE
        rcases h2 with h2 | h2
        · have q2 : (x.1 == 2) = true := beq_of h2
          clear h2
          have T1 : Hid True := Lib.hid trivial
          have T2 : Hid True := Lib.hid trivial
          have T3 : Hid True := Lib.hid trivial
          have T4 : Hid True := Lib.hid trivial
          have T5 : Hid True := Lib.hid trivial
          go_enter Tryz.func76, Tryz.ntmps76
          go_wp2_with (first
            | (clear T1; refine wpList_boxB rfl 39 (.tmp 0) rfl (srcK c) rfl HS.out ?_; intro wa gc hs; replace HS := Lib.hid hs; clear hs)
            | (clear T2; refine wpList_boxB rfl 39 (.tmp 1) rfl (srcK x) rfl HS.out ?_; intro wb gx hs; replace HS := Lib.hid hs; clear hs)
            | (clear T3; refine wpList_alB rfl 39 rfl _ zeroSr_run _ rfl HS.out ?_; intro wd g hs; replace HS := Lib.hid hs; have c0 := HS.out.cell 2 rfl (k := 0) rfl; have x0 := HS.out.cell 1 rfl (k := 0) rfl; have c1 := HS.out.cell 2 rfl (k := 1) rfl; have x1 := HS.out.cell 1 rfl (k := 1) rfl; clear hs)
            | (clear T4; refine wpList_load_mid rfl 39 (.tmp 4) rfl gx 0 rfl (srcK x) _ (HasC.all (HS.out.has 1 rfl)) Tryz.underlying39 rfl infoSr ?_)
            | (clear T5; refine wpList_stSW 0 rfl rfl 39 (.tmp 6) (.tmp 31) rfl g rfl _ rfl HS.out rfl (srcK x) rfl rfl (srcK_one _) infoSr ?_; intro w2 hs; replace HS := Lib.hid hs; clear hs c0 x0 c1 x1))
          exact bodyPost_ret (resSr _ rfl _ _ g _ rfl (HS.out.has 0 rfl)) rfl ⟨rfl, HS.out.nw⟩
        · have q4 : (x.1 == 0) = true := beq_of h2
          have q2 : (x.1 == 2) = false := bneq_of (by omega)
          clear h2
          have T1 : Hid True := Lib.hid trivial
          have T2 : Hid True := Lib.hid trivial
          have T3 : Hid True := Lib.hid trivial
          have T4 : Hid True := Lib.hid trivial
          have T5 : Hid True := Lib.hid trivial
          go_enter Tryz.func76, Tryz.ntmps76
          go_wp2_with (first
            | (clear T1; refine wpList_boxB rfl 39 (.tmp 0) rfl (srcK c) rfl HS.out ?_; intro wa gc hs; replace HS := Lib.hid hs; clear hs)
            | (clear T2; refine wpList_boxB rfl 39 (.tmp 1) rfl (srcK x) rfl HS.out ?_; intro wb gx hs; replace HS := Lib.hid hs; clear hs)
            | (clear T3; refine wpList_alB rfl 39 rfl _ zeroSr_run _ rfl HS.out ?_; intro wd g hs; replace HS := Lib.hid hs; have c0 := HS.out.cell 2 rfl (k := 0) rfl; have x0 := HS.out.cell 1 rfl (k := 0) rfl; have c1 := HS.out.cell 2 rfl (k := 1) rfl; have x1 := HS.out.cell 1 rfl (k := 1) rfl; clear hs)
            | (clear T4; refine wpList_load_mid rfl 39 (.tmp 4) rfl gx 0 rfl (srcK x) _ (HasC.all (HS.out.has 1 rfl)) Tryz.underlying39 rfl infoSr ?_)
            | (clear T5; refine wpList_stSW 0 rfl rfl 39 (.tmp 6) (.tmp 31) rfl g rfl _ rfl HS.out rfl (srcK x) rfl rfl (srcK_one _) infoSr ?_; intro w2 hs; replace HS := Lib.hid hs; clear hs c0 x0 c1 x1))
          exact bodyPost_ret (resSr _ rfl _ _ g _ rfl (HS.out.has 0 rfl)) rfl ⟨rfl, HS.out.nw⟩
      · have q3 : (c.1 == -1) = false := bneq_of h3
        by_cases h4 : c = x
        · rw [if_pos ⟨h2, .inr h4⟩] at HR
          subst HR
          rw [decide_eq_true h4] at hE
          clear h3 h4
          rcases h2 with h2 | h2
          · have q2 : (x.1 == 2) = true := beq_of h2
            clear h2
            have T1 : Hid True := Lib.hid trivial
            have T2 : Hid True := Lib.hid trivial
            have T3 : Hid True := Lib.hid trivial
            have T4 : Hid True := Lib.hid trivial
            have T5 : Hid True := Lib.hid trivial
            go_enter Tryz.func76, Tryz.ntmps76
            go_wp2_with (first
              | (clear T1; refine wpList_boxB rfl 39 (.tmp 0) rfl (srcK c) rfl HS.out ?_; intro wa gc hs; replace HS := Lib.hid hs; clear hs)
              | (clear T2; refine wpList_boxB rfl 39 (.tmp 1) rfl (srcK x) rfl HS.out ?_; intro wb gx hs; replace HS := Lib.hid hs; clear hs)
              | (clear T3; refine wpList_alB rfl 39 rfl _ zeroSr_run _ rfl HS.out ?_; intro wd g hs; replace HS := Lib.hid hs; have c0 := HS.out.cell 2 rfl (k := 0) rfl; have x0 := HS.out.cell 1 rfl (k := 0) rfl; have c1 := HS.out.cell 2 rfl (k := 1) rfl; have x1 := HS.out.cell 1 rfl (k := 1) rfl; clear hs)
              | (clear T4; refine wpList_load_mid rfl 39 (.tmp 4) rfl gx 0 rfl (srcK x) _ (HasC.all (HS.out.has 1 rfl)) Tryz.underlying39 rfl infoSr ?_)
              | (clear T5; refine wpList_stSW 0 rfl rfl 39 (.tmp 6) (.tmp 31) rfl g rfl _ rfl HS.out rfl (srcK x) rfl rfl (srcK_one _) infoSr ?_; intro w2 hs; replace HS := Lib.hid hs; clear hs c0 x0 c1 x1))
            exact bodyPost_ret (resSr _ rfl _ _ g _ rfl (HS.out.has 0 rfl)) rfl ⟨rfl, HS.out.nw⟩
          · have q4 : (x.1 == 0) = true := beq_of h2
            have q2 : (x.1 == 2) = false := bneq_of (by omega)
            clear h2
            have T1 : Hid True := Lib.hid trivial
            have T2 : Hid True := Lib.hid trivial
            have T3 : Hid True := Lib.hid trivial
            have T4 : Hid True := Lib.hid trivial
            have T5 : Hid True := Lib.hid trivial
            go_enter Tryz.func76, Tryz.ntmps76
            go_wp2_with (first
              | (clear T1; refine wpList_boxB rfl 39 (.tmp 0) rfl (srcK c) rfl HS.out ?_; intro wa gc hs; replace HS := Lib.hid hs; clear hs)
              | (clear T2; refine wpList_boxB rfl 39 (.tmp 1) rfl (srcK x) rfl HS.out ?_; intro wb gx hs; replace HS := Lib.hid hs; clear hs)
              | (clear T3; refine wpList_alB rfl 39 rfl _ zeroSr_run _ rfl HS.out ?_; intro wd g hs; replace HS := Lib.hid hs; have c0 := HS.out.cell 2 rfl (k := 0) rfl; have x0 := HS.out.cell 1 rfl (k := 0) rfl; have c1 := HS.out.cell 2 rfl (k := 1) rfl; have x1 := HS.out.cell 1 rfl (k := 1) rfl; clear hs)
              | (clear T4; refine wpList_load_mid rfl 39 (.tmp 4) rfl gx 0 rfl (srcK x) _ (HasC.all (HS.out.has 1 rfl)) Tryz.underlying39 rfl infoSr ?_)
              | (clear T5; refine wpList_stSW 0 rfl rfl 39 (.tmp 6) (.tmp 31) rfl g rfl _ rfl HS.out rfl (srcK x) rfl rfl (srcK_one _) infoSr ?_; intro w2 hs; replace HS := Lib.hid hs; clear hs c0 x0 c1 x1))
            exact bodyPost_ret (resSr _ rfl _ _ g _ rfl (HS.out.has 0 rfl)) rfl ⟨rfl, HS.out.nw⟩
        · rw [if_neg (fun e => e.2.elim h3 h4)] at HR
          subst HR
          rw [decide_eq_false h4] at hE
          clear h3 h4
          rcases h2 with h2 | h2
          · have q2 : (x.1 == 2) = true := beq_of h2
            clear h2
            have T1 : Hid True := Lib.hid trivial
            have T2 : Hid True := Lib.hid trivial
            have T3 : Hid True := Lib.hid trivial
            have T4 : Hid True := Lib.hid trivial
            have T5 : Hid True := Lib.hid trivial
            go_enter Tryz.func76, Tryz.ntmps76
            go_wp2_with (first
              | (clear T1; refine wpList_boxB rfl 39 (.tmp 0) rfl (srcK c) rfl HS.out ?_; intro wa gc hs; replace HS := Lib.hid hs; clear hs)
              | (clear T2; refine wpList_boxB rfl 39 (.tmp 1) rfl (srcK x) rfl HS.out ?_; intro wb gx hs; replace HS := Lib.hid hs; clear hs)
              | (clear T3; refine wpList_alB rfl 39 rfl _ zeroSr_run _ rfl HS.out ?_; intro wd g hs; replace HS := Lib.hid hs; have c0 := HS.out.cell 2 rfl (k := 0) rfl; have x0 := HS.out.cell 1 rfl (k := 0) rfl; have c1 := HS.out.cell 2 rfl (k := 1) rfl; have x1 := HS.out.cell 1 rfl (k := 1) rfl; clear hs)
              | (clear T4; go_at_call 101; refine (own_any l _).mono ?_; rintro e w2 ⟨rfl, hn⟩; replace HS := Lib.hid (HS.out.go hn); clear c0 x0 c1 x1; clear hn)
              | (clear T5; refine wpList_stSW 0 rfl rfl 39 (.tmp 6) (.tmp 33) rfl g rfl _ rfl HS.out rfl (srcK (4, (l : Int))) rfl rfl (srcK_one _) infoSr ?_; intro w3 hs; replace HS := Lib.hid hs; clear hs))
            exact bodyPost_ret (resSr _ rfl _ _ g _ rfl (HS.out.has 0 rfl)) rfl ⟨rfl, HS.out.nw⟩
          · have q4 : (x.1 == 0) = true := beq_of h2
            have q2 : (x.1 == 2) = false := bneq_of (by omega)
            clear h2
            have T1 : Hid True := Lib.hid trivial
            have T2 : Hid True := Lib.hid trivial
            have T3 : Hid True := Lib.hid trivial
            have T4 : Hid True := Lib.hid trivial
            have T5 : Hid True := Lib.hid trivial
            go_enter Tryz.func76, Tryz.ntmps76
            go_wp2_with (first
              | (clear T1; refine wpList_boxB rfl 39 (.tmp 0) rfl (srcK c) rfl HS.out ?_; intro wa gc hs; replace HS := Lib.hid hs; clear hs)
              | (clear T2; refine wpList_boxB rfl 39 (.tmp 1) rfl (srcK x) rfl HS.out ?_; intro wb gx hs; replace HS := Lib.hid hs; clear hs)
              | (clear T3; refine wpList_alB rfl 39 rfl _ zeroSr_run _ rfl HS.out ?_; intro wd g hs; replace HS := Lib.hid hs; have c0 := HS.out.cell 2 rfl (k := 0) rfl; have x0 := HS.out.cell 1 rfl (k := 0) rfl; have c1 := HS.out.cell 2 rfl (k := 1) rfl; have x1 := HS.out.cell 1 rfl (k := 1) rfl; clear hs)
              | (clear T4; go_at_call 101; refine (own_any l _).mono ?_; rintro e w2 ⟨rfl, hn⟩; replace HS := Lib.hid (HS.out.go hn); clear c0 x0 c1 x1; clear hn)
              | (clear T5; refine wpList_stSW 0 rfl rfl 39 (.tmp 6) (.tmp 33) rfl g rfl _ rfl HS.out rfl (srcK (4, (l : Int))) rfl rfl (srcK_one _) infoSr ?_; intro w3 hs; replace HS := Lib.hid hs; clear hs))
            exact bodyPost_ret (resSr _ rfl _ _ g _ rfl (HS.out.has 0 rfl)) rfl ⟨rfl, HS.out.nw⟩
    · rw [if_neg (fun e => h2 e.1)] at HR
      subst HR
      have q2 : (x.1 == 2) = false := bneq_of (fun e => h2 (.inl e))
      have q4 : (x.1 == 0) = false := bneq_of (fun e => h2 (.inr e))
      clear h2 hE
      have T1 : Hid True := Lib.hid trivial
      have T2 : Hid True := Lib.hid trivial
      have T3 : Hid True := Lib.hid trivial
      have T4 : Hid True := Lib.hid trivial
      have T5 : Hid True := Lib.hid trivial
      go_enter Tryz.func76, Tryz.ntmps76
      go_wp2_with (first
        | (clear T1; refine wpList_boxB rfl 39 (.tmp 0) rfl (srcK c) rfl HS.out ?_; intro wa gc hs; replace HS := Lib.hid hs; clear hs)
        | (clear T2; refine wpList_boxB rfl 39 (.tmp 1) rfl (srcK x) rfl HS.out ?_; intro wb gx hs; replace HS := Lib.hid hs; clear hs)
        | (clear T3; refine wpList_alB rfl 39 rfl _ zeroSr_run _ rfl HS.out ?_; intro wd g hs; replace HS := Lib.hid hs; have c0 := HS.out.cell 2 rfl (k := 0) rfl; have x0 := HS.out.cell 1 rfl (k := 0) rfl; have c1 := HS.out.cell 2 rfl (k := 1) rfl; have x1 := HS.out.cell 1 rfl (k := 1) rfl; clear hs)
        | (clear T4; go_at_call 101; refine (own_any l _).mono ?_; rintro e w2 ⟨rfl, hn⟩; replace HS := Lib.hid (HS.out.go hn); clear c0 x0 c1 x1; clear hn)
        | (clear T5; refine wpList_stSW 0 rfl rfl 39 (.tmp 6) (.tmp 33) rfl g rfl _ rfl HS.out rfl (srcK (4, (l : Int))) rfl rfl (srcK_one _) infoSr ?_; intro w3 hs; replace HS := Lib.hid hs; clear hs))
      exact bodyPost_ret (resSr _ rfl _ _ g _ rfl (HS.out.has 0 rfl)) rfl ⟨rfl, HS.out.nw⟩
end Go.Proofs.YtphopkjgfkaihaaGreatDoor
