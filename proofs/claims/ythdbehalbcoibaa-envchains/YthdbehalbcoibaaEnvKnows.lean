/-
  The examples at the end of layer 5's laws ('knows'): true.
-/
import Derived.Test.YthdbehalbcoibaaEnvC2
import Derived.Test.YthdbehalbcoibaaEnvEq
namespace Go.Proofs.Ythdbehalbcoibaa
open Go.RowKit

theorem wasText_any (n : Int) (w : World) :
    Calls Try.prog 41 #[.agg #[.int .i64 n]] w fun e w' => e = .returned (.string (textV n)) ∧ New w w' := by
  go_enter Try.func41, Try.ntmps41
  go_wp2_with (go_at_call 42; refine (text_any _ _).mono ?_; rintro e w1 ⟨rfl, rfl⟩)
  go_ret
  exact ⟨rfl, (New.refl _).alloc _⟩
theorem method_was (f : Nat) (n : Int) (w : World) : (method (f + 1) 53 (.agg #[.int .i64 n]) "Text").run Try.prog w = .ok (41, .agg #[.int .i64 n]) w := by kernel_rfl
def k3T : Tb := aft (aft (aft newT ⟨2, 8, 1, 0, 0, 0⟩) ⟨1, 1, 0, 0, 5, 0⟩) ⟨3, 8, 2, 0, 0, 0⟩
theorem k3_good : goodT k3T = true := good_aft _ _
theorem k3_8 : k3T 8 = (0, 2) := by decide +kernel
theorem k3_1 : k3T 1 = (1, 5) := by decide +kernel
theorem k3_2 : k3T 2 = (0, 1) := by decide +kernel
theorem k_text : textV 1 = ⟨#[114, 49]⟩ := by decide +kernel
set_option maxHeartbeats 2000000 in
set_option maxRecDepth 100000 in
theorem knows_any (w : World) : Calls Try.prog 14 #[] w fun e w' => e = .returned (.bool true) ∧ New w w' := by
  have e1 : ∀ w, (binOp .eql 26 (.iface 53 (.agg #[.int .i64 2])) (.iface 53 (.agg #[.int .i64 2]))).run Try.prog w = .ok (.bool true) w := fun w => binop_src (s := (0, 2)) (u := (0, 2)) (by decide) (by decide) w
  have e2 : ∀ w, (binOp .eql 26 (.iface 55 (.agg #[.int .i64 5])) (.iface 55 (.agg #[.int .i64 5]))).run Try.prog w = .ok (.bool true) w := fun w => binop_src (s := (1, 5)) (u := (1, 5)) (by decide) (by decide) w
  have e3 : ∀ w, (binOp .eql 26 (.iface 53 (.agg #[.int .i64 1])) (.iface 53 (.agg #[.int .i64 1]))).run Try.prog w = .ok (.bool true) w := fun w => binop_src (s := (0, 1)) (u := (0, 1)) (by decide) (by decide) w
  have hm := fun (f : Nat) (w : World) => method_was f 1 w
  go_enter Try.func14, Try.ntmps14
  go_wp2_with (first
    | (go_at_call 15; refine (envNew_any _).mono ?_; rintro e w1 ⟨rfl, hn1⟩; have HT := Lib.hid (HasT.zero w1); have HN := Lib.hid (hn1.alloc (oT noT)); have HG := hn1.size; clear hn1)
    | (refine wpList_stTx rfl rfl (.tmp 1) _ rfl w1.heap.size rfl _ rfl HT.out HN.out HG ?_; clear HT HN; intro wx ht hn; have HT := Lib.hid ht; have HN := Lib.hid hn; clear ht hn)
    | (refine wpList_ldT rfl (.tmp 1) rfl w1.heap.size rfl HT.out ?_)
    | (go_at_call 16; refine (after_any _ ⟨_, _, _, _, _, _⟩ _).mono ?_; rintro e w2 ⟨rfl, hn2⟩; replace HT := Lib.hid (HT.out.new hn2); replace HN := Lib.hid (HN.out.trans hn2); clear hn2)
    | (go_at_call 21; refine (envGood_any k3T _).mono ?_; rw [k3_good]; rintro e w2 ⟨rfl, hn2⟩; replace HT := Lib.hid (HT.out.new hn2); replace HN := Lib.hid (HN.out.trans hn2); have HK : Hid (HasT w2 w1.heap.size k3T) := HT; have c8 := HK.out.cell (k := 8) (by decide); have c1 := HK.out.cell (k := 1) (by decide); have c2 := HK.out.cell (k := 2) (by decide); rw [k3_8, sv_was, wasV] at c8; rw [k3_1, sv_is, isV] at c1; rw [k3_2, sv_was, wasV] at c2; clear hn2)
    | (go_at_call 41; refine (wasText_any 1 _).mono ?_; rw [k_text]; rintro e w3 ⟨rfl, hn3⟩; replace HN := Lib.hid (HN.out.trans hn3); clear hn3))
  go_ret
  exact ⟨rfl, HN.out⟩
end Go.Proofs.Ythdbehalbcoibaa
