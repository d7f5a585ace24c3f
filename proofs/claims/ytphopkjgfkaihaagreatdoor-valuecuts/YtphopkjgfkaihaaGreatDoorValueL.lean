/-
  Layer 11: the contracts of the reference's Has and By.
-/
import Derived.Test.YtphopkjgfkaihaaGreatDoorValueWay
import Derived.Test.YtphopkjgfkaihaaGreatDoorSkelRefs
import Derived.Test.YtphopkjgfkaihaaGreatDoorRefTell
namespace Go.Proofs.YtphopkjgfkaihaaGreatDoor
open Go.RowKit

/-- The reference's skeleton, as it is read. -/
structure RefS (w : World) (s : Skl) (kt ct : Nat) (na : Option Addr) (nc N : Nat) : Prop where
  t : (tabA kt s.entry.2).rd w
  n : (rnodesO (.slice na N nc) s.nodes).rd w
  l : s.nodes.length = N
  l2 : N ≤ 200
  g : GoodS s
theorem RefS.new {w w' : World} {s : Skl} {kt ct : Nat} {na : Option Addr} {nc N : Nat} (h : RefS w s kt ct na nc N) (hn : New w w') : RefS w' s kt ct na nc N := ⟨h.t.new hn, h.n.new hn, h.l, h.l2, h.g⟩
abbrev rsV (s : Skl) (kt ct : Nat) (na : Option Addr) (nc N : Nat) : Value := .agg #[.int .i64 s.entry.1, .slice (some ⟨kt, 0, none⟩) 24 ct, .slice na N nc]
/-- A node of it, and its ways. -/
theorem RefS.node {w : World} {s : Skl} {kt ct : Nat} {na : Option Addr} {nc N : Nat} (h : RefS w s kt ct na nc N) {m : Nat} {x : Int × List Wyo} (hx : s.nodes[m]? = some x) :
    ∃ (b o : Nat) (oa : Option Addr) (oc : Nat), (∀ w', (Instr.indexAt 46 (.slice na N nc) (.int .i64 (m : Int))).run Tryz.prog w' = .ok (.pointer (some ⟨b, o, none⟩)) w') ∧ (∀ w', New w w' → w'.cell? ⟨b, o, none⟩ = some (.int .i64 x.1)) ∧ (∀ w', New w w' → w'.cell? ⟨b, o + 1, none⟩ = some (.slice oa x.2.length oc)) ∧ (routsO (.slice oa x.2.length oc) x.2).rd w := by
  obtain ⟨b, o, c, _, hix, hrg, hE⟩ := rowA_ix (P := Tryz.prog) h.n 46 Tryz.underlying46 sizeRnd hx
  obtain ⟨vo, rfl, hro⟩ := rnode_rd hE
  obtain ⟨oa, oc, rfl⟩ := rowA_form hro
  exact ⟨b, o, oa, oc, hix, fun w' hn => by have := hrg w' hn 0 _ rfl; rwa [Nat.add_zero] at this, fun w' hn => hrg w' hn 1 _ rfl, hro⟩
set_option maxHeartbeats 8000000 in
set_option maxRecDepth 100000 in
theorem has_ey {s : Skl} {kt ct : Nat} {na : Option Addr} {nc N : Nat} {w : World} (h : RefS w s kt ct na nc N) :
    Calls Tryz.prog 15 #[rsV s kt ct na nc N, .agg #[.int .i64 (-1), .int .i64 0]] w fun r w' => r = .returned (.bool true) ∧ New w w' := by
  have H := Lib.hid h
  have hN2 := h.l2
  have HS := Lib.hid (Sep.start w)
  clear h
  have T1 : Hid True := Lib.hid trivial
  have T2 : Hid True := Lib.hid trivial
  go_enter Tryz.func15, Tryz.ntmps15
  go_wp2_with (first
    | (clear T1; refine wpList_boxB rfl 48 (.tmp 0) rfl (rsC s.entry.1 (.slice (some ⟨kt, 0, none⟩) 24 ct) (.slice na N nc)) rfl HS.out ?_; intro wa gb hs; replace HS := Lib.hid hs; clear hs)
    | (clear T2; refine wpList_boxB rfl 42 (.tmp 1) rfl [.int .i64 (-1), .int .i64 0] rfl HS.out ?_; intro wb ge hs; replace HS := Lib.hid hs; have c0 := HS.out.cell 0 rfl (k := 0) rfl; have c1 := HS.out.cell 0 rfl (k := 1) rfl; have cn := HS.out.cell 1 rfl (k := 2) rfl; clear hs))
  go_ret
  exact ⟨rfl, HS.out.nw⟩
set_option maxHeartbeats 8000000 in
set_option maxRecDepth 100000 in
theorem has_en {s : Skl} {kt ct : Nat} {na : Option Addr} {nc N : Nat} (k : Int) {w : World} (h : RefS w s kt ct na nc N) (hk : k ≠ 0) :
    Calls Tryz.prog 15 #[rsV s kt ct na nc N, .agg #[.int .i64 (-1), .int .i64 k]] w fun r w' => r = .returned (.bool false) ∧ New w w' := by
  have H := Lib.hid h
  have hN2 := h.l2
  have HS := Lib.hid (Sep.start w)
  clear h
  have q : (k == 0) = false := bneq_of hk
  clear hk
  have T1 : Hid True := Lib.hid trivial
  have T2 : Hid True := Lib.hid trivial
  go_enter Tryz.func15, Tryz.ntmps15
  go_wp2_with (first
    | (clear T1; refine wpList_boxB rfl 48 (.tmp 0) rfl (rsC s.entry.1 (.slice (some ⟨kt, 0, none⟩) 24 ct) (.slice na N nc)) rfl HS.out ?_; intro wa gb hs; replace HS := Lib.hid hs; clear hs)
    | (clear T2; refine wpList_boxB rfl 42 (.tmp 1) rfl [.int .i64 (-1), .int .i64 k] rfl HS.out ?_; intro wb ge hs; replace HS := Lib.hid hs; have c0 := HS.out.cell 0 rfl (k := 0) rfl; have c1 := HS.out.cell 0 rfl (k := 1) rfl; have cn := HS.out.cell 1 rfl (k := 2) rfl; clear hs))
  go_ret
  exact ⟨rfl, HS.out.nw⟩
set_option maxHeartbeats 8000000 in
set_option maxRecDepth 100000 in
theorem has_m0 {s : Skl} {kt ct : Nat} {na : Option Addr} {nc N : Nat} (m k : Int) {w : World} (h : RefS w s kt ct na nc N) (hm : m ≠ -1) (h0 : m < 0) :
    Calls Tryz.prog 15 #[rsV s kt ct na nc N, .agg #[.int .i64 m, .int .i64 k]] w fun r w' => r = .returned (.bool false) ∧ New w w' := by
  have H := Lib.hid h
  have hN2 := h.l2
  have HS := Lib.hid (Sep.start w)
  clear h
  have q : (m == -1) = false := bneq_of hm
  have d0 : decide (0 ≤ m) = false := decide_eq_false (by omega)
  clear hm h0
  have T1 : Hid True := Lib.hid trivial
  have T2 : Hid True := Lib.hid trivial
  go_enter Tryz.func15, Tryz.ntmps15
  go_wp2_with (first
    | (clear T1; refine wpList_boxB rfl 48 (.tmp 0) rfl (rsC s.entry.1 (.slice (some ⟨kt, 0, none⟩) 24 ct) (.slice na N nc)) rfl HS.out ?_; intro wa gb hs; replace HS := Lib.hid hs; clear hs)
    | (clear T2; refine wpList_boxB rfl 42 (.tmp 1) rfl [.int .i64 m, .int .i64 k] rfl HS.out ?_; intro wb ge hs; replace HS := Lib.hid hs; have c0 := HS.out.cell 0 rfl (k := 0) rfl; have c1 := HS.out.cell 0 rfl (k := 1) rfl; have cn := HS.out.cell 1 rfl (k := 2) rfl; clear hs))
  have V0 : ∀ z : NewW wb, z.val.cell? ⟨ge, 0, none⟩ = some (.int .i64 m) := fun z => z.property.cell' c0
  have V1 : ∀ z : NewW wb, z.val.cell? ⟨ge, 1, none⟩ = some (.int .i64 k) := fun z => z.property.cell' c1
  have Vn : ∀ z : NewW wb, z.val.cell? ⟨gb, 2, none⟩ = some (.slice na N nc) := fun z => z.property.cell' cn
  clear c0 c1 cn
  have hne := newW_any wb
  refine wp_region_new (New.refl wb) (by kernel_rfl) (by kernel_rfl) ?_
  repeat (go_big_quiet_step (fail))
  refine wpQuiet_nil ?_
  intro w6 hn6
  go_wp2_with fail
  go_ret
  exact ⟨rfl, HS.out.nw.trans hn6⟩
set_option maxHeartbeats 8000000 in
set_option maxRecDepth 100000 in
theorem has_m1 {s : Skl} {kt ct : Nat} {na : Option Addr} {nc N : Nat} (m k : Int) {w : World} (h : RefS w s kt ct na nc N) (h0 : 0 ≤ m) (h1 : ¬ m < N) :
    Calls Tryz.prog 15 #[rsV s kt ct na nc N, .agg #[.int .i64 m, .int .i64 k]] w fun r w' => r = .returned (.bool false) ∧ New w w' := by
  have H := Lib.hid h
  have hN2 := h.l2
  have HS := Lib.hid (Sep.start w)
  clear h
  have q : (m == -1) = false := bneq_of (by omega)
  have d0 : decide (0 ≤ m) = true := decide_eq_true h0
  have d1 : decide (m < (N : Int)) = false := decide_eq_false h1
  clear h0 h1
  have T1 : Hid True := Lib.hid trivial
  have T2 : Hid True := Lib.hid trivial
  go_enter Tryz.func15, Tryz.ntmps15
  go_wp2_with (first
    | (clear T1; refine wpList_boxB rfl 48 (.tmp 0) rfl (rsC s.entry.1 (.slice (some ⟨kt, 0, none⟩) 24 ct) (.slice na N nc)) rfl HS.out ?_; intro wa gb hs; replace HS := Lib.hid hs; clear hs)
    | (clear T2; refine wpList_boxB rfl 42 (.tmp 1) rfl [.int .i64 m, .int .i64 k] rfl HS.out ?_; intro wb ge hs; replace HS := Lib.hid hs; have c0 := HS.out.cell 0 rfl (k := 0) rfl; have c1 := HS.out.cell 0 rfl (k := 1) rfl; have cn := HS.out.cell 1 rfl (k := 2) rfl; clear hs))
  have V0 : ∀ z : NewW wb, z.val.cell? ⟨ge, 0, none⟩ = some (.int .i64 m) := fun z => z.property.cell' c0
  have V1 : ∀ z : NewW wb, z.val.cell? ⟨ge, 1, none⟩ = some (.int .i64 k) := fun z => z.property.cell' c1
  have Vn : ∀ z : NewW wb, z.val.cell? ⟨gb, 2, none⟩ = some (.slice na N nc) := fun z => z.property.cell' cn
  clear c0 c1 cn
  have hne := newW_any wb
  refine wp_region_new (New.refl wb) (by kernel_rfl) (by kernel_rfl) ?_
  repeat (go_big_quiet_step (fail))
  refine wpQuiet_nil ?_
  intro w6 hn6
  go_wp2_with fail
  go_ret
  exact ⟨rfl, HS.out.nw.trans hn6⟩
set_option maxHeartbeats 8000000 in
set_option maxRecDepth 100000 in
theorem has_k0 {s : Skl} {kt ct : Nat} {na : Option Addr} {nc N : Nat} (m : Nat) (k : Int) (x : Int × List Wyo) {w : World} (h : RefS w s kt ct na nc N) (hx : s.nodes[m]? = some x) (hk : k < 0) :
    Calls Tryz.prog 15 #[rsV s kt ct na nc N, .agg #[.int .i64 (m : Int), .int .i64 k]] w fun r w' => r = .returned (.bool false) ∧ New w w' := by
  have H := Lib.hid h
  have hN2 := h.l2
  have HS := Lib.hid (Sep.start w)
  clear h
  have hmN : m < N := by rw [← H.out.l]; exact (List.getElem?_eq_some_iff.mp hx).1
  obtain ⟨b, o, oa, oc, hix, _, r1, _⟩ := H.out.node hx
  obtain ⟨K, HK⟩ : ∃ K, Hid (x.2.length = K) := ⟨_, Lib.hid rfl⟩
  have hK10 : K ≤ 10 := by rw [← HK.out]; exact H.out.g.b x (List.mem_of_getElem? hx)
  rw [HK.out] at r1
  have q : ((m : Int) == -1) = false := bneq_of (by omega)
  have d0 : decide (0 ≤ (m : Int)) = true := decide_eq_true (by omega)
  have d1 : decide ((m : Int) < (N : Int)) = true := decide_eq_true (by omega)
  clear hx
  have d2 : decide (0 ≤ k) = false := decide_eq_false (by omega)
  clear hk
  have T1 : Hid True := Lib.hid trivial
  have T2 : Hid True := Lib.hid trivial
  go_enter Tryz.func15, Tryz.ntmps15
  go_wp2_with (first
    | (clear T1; refine wpList_boxB rfl 48 (.tmp 0) rfl (rsC s.entry.1 (.slice (some ⟨kt, 0, none⟩) 24 ct) (.slice na N nc)) rfl HS.out ?_; intro wa gb hs; replace HS := Lib.hid hs; clear hs)
    | (clear T2; refine wpList_boxB rfl 42 (.tmp 1) rfl [.int .i64 (m : Int), .int .i64 k] rfl HS.out ?_; intro wb ge hs; replace HS := Lib.hid hs; have c0 := HS.out.cell 0 rfl (k := 0) rfl; have c1 := HS.out.cell 0 rfl (k := 1) rfl; have cn := HS.out.cell 1 rfl (k := 2) rfl; clear hs))
  have V0 : ∀ z : NewW wb, z.val.cell? ⟨ge, 0, none⟩ = some (.int .i64 (m : Int)) := fun z => z.property.cell' c0
  have V1 : ∀ z : NewW wb, z.val.cell? ⟨ge, 1, none⟩ = some (.int .i64 k) := fun z => z.property.cell' c1
  have Vn : ∀ z : NewW wb, z.val.cell? ⟨gb, 2, none⟩ = some (.slice na N nc) := fun z => z.property.cell' cn
  have Vo : ∀ z : NewW wb, z.val.cell? ⟨b, o + 1, none⟩ = some (.slice oa K oc) := fun z => r1 _ (HS.out.nw.trans z.property)
  clear r1
  clear c0 c1 cn
  have hne := newW_any wb
  refine wp_region_new (New.refl wb) (by kernel_rfl) (by kernel_rfl) ?_
  repeat (go_big_quiet_step (fail))
  refine wpQuiet_nil ?_
  intro w6 hn6
  go_wp2_with fail
  go_ret
  exact ⟨rfl, HS.out.nw.trans hn6⟩
set_option maxHeartbeats 8000000 in
set_option maxRecDepth 100000 in
theorem has_k1 {s : Skl} {kt ct : Nat} {na : Option Addr} {nc N : Nat} (m : Nat) (k : Int) (x : Int × List Wyo) {w : World} (h : RefS w s kt ct na nc N) (hx : s.nodes[m]? = some x) (h0 : 0 ≤ k) (hk : ¬ k < x.2.length) :
    Calls Tryz.prog 15 #[rsV s kt ct na nc N, .agg #[.int .i64 (m : Int), .int .i64 k]] w fun r w' => r = .returned (.bool false) ∧ New w w' := by
  have H := Lib.hid h
  have hN2 := h.l2
  have HS := Lib.hid (Sep.start w)
  clear h
  have hmN : m < N := by rw [← H.out.l]; exact (List.getElem?_eq_some_iff.mp hx).1
  obtain ⟨b, o, oa, oc, hix, _, r1, _⟩ := H.out.node hx
  obtain ⟨K, HK⟩ : ∃ K, Hid (x.2.length = K) := ⟨_, Lib.hid rfl⟩
  have hK10 : K ≤ 10 := by rw [← HK.out]; exact H.out.g.b x (List.mem_of_getElem? hx)
  rw [HK.out] at r1 hk
  have q : ((m : Int) == -1) = false := bneq_of (by omega)
  have d0 : decide (0 ≤ (m : Int)) = true := decide_eq_true (by omega)
  have d1 : decide ((m : Int) < (N : Int)) = true := decide_eq_true (by omega)
  clear hx
  have d2 : decide (0 ≤ k) = true := decide_eq_true h0
  have d3 : decide (k < (K : Int)) = false := decide_eq_false hk
  clear h0 hk
  have T1 : Hid True := Lib.hid trivial
  have T2 : Hid True := Lib.hid trivial
  go_enter Tryz.func15, Tryz.ntmps15
  go_wp2_with (first
    | (clear T1; refine wpList_boxB rfl 48 (.tmp 0) rfl (rsC s.entry.1 (.slice (some ⟨kt, 0, none⟩) 24 ct) (.slice na N nc)) rfl HS.out ?_; intro wa gb hs; replace HS := Lib.hid hs; clear hs)
    | (clear T2; refine wpList_boxB rfl 42 (.tmp 1) rfl [.int .i64 (m : Int), .int .i64 k] rfl HS.out ?_; intro wb ge hs; replace HS := Lib.hid hs; have c0 := HS.out.cell 0 rfl (k := 0) rfl; have c1 := HS.out.cell 0 rfl (k := 1) rfl; have cn := HS.out.cell 1 rfl (k := 2) rfl; clear hs))
  have V0 : ∀ z : NewW wb, z.val.cell? ⟨ge, 0, none⟩ = some (.int .i64 (m : Int)) := fun z => z.property.cell' c0
  have V1 : ∀ z : NewW wb, z.val.cell? ⟨ge, 1, none⟩ = some (.int .i64 k) := fun z => z.property.cell' c1
  have Vn : ∀ z : NewW wb, z.val.cell? ⟨gb, 2, none⟩ = some (.slice na N nc) := fun z => z.property.cell' cn
  have Vo : ∀ z : NewW wb, z.val.cell? ⟨b, o + 1, none⟩ = some (.slice oa K oc) := fun z => r1 _ (HS.out.nw.trans z.property)
  clear r1
  clear c0 c1 cn
  have hne := newW_any wb
  refine wp_region_new (New.refl wb) (by kernel_rfl) (by kernel_rfl) ?_
  repeat (go_big_quiet_step (fail))
  refine wpQuiet_nil ?_
  intro w6 hn6
  go_wp2_with fail
  go_ret
  exact ⟨rfl, HS.out.nw.trans hn6⟩
set_option maxHeartbeats 8000000 in
set_option maxRecDepth 100000 in
theorem has_ky {s : Skl} {kt ct : Nat} {na : Option Addr} {nc N : Nat} (m k : Nat) (x : Int × List Wyo) {w : World} (h : RefS w s kt ct na nc N) (hx : s.nodes[m]? = some x) (hk : k < x.2.length) :
    Calls Tryz.prog 15 #[rsV s kt ct na nc N, .agg #[.int .i64 (m : Int), .int .i64 (k : Int)]] w fun r w' => r = .returned (.bool true) ∧ New w w' := by
  have H := Lib.hid h
  have hN2 := h.l2
  have HS := Lib.hid (Sep.start w)
  clear h
  have hmN : m < N := by rw [← H.out.l]; exact (List.getElem?_eq_some_iff.mp hx).1
  obtain ⟨b, o, oa, oc, hix, _, r1, _⟩ := H.out.node hx
  obtain ⟨K, HK⟩ : ∃ K, Hid (x.2.length = K) := ⟨_, Lib.hid rfl⟩
  have hK10 : K ≤ 10 := by rw [← HK.out]; exact H.out.g.b x (List.mem_of_getElem? hx)
  rw [HK.out] at r1 hk
  have q : ((m : Int) == -1) = false := bneq_of (by omega)
  have d0 : decide (0 ≤ (m : Int)) = true := decide_eq_true (by omega)
  have d1 : decide ((m : Int) < (N : Int)) = true := decide_eq_true (by omega)
  clear hx
  have d2 : decide (0 ≤ (k : Int)) = true := decide_eq_true (by omega)
  have d3 : decide ((k : Int) < (K : Int)) = true := decide_eq_true (by omega)
  have T1 : Hid True := Lib.hid trivial
  have T2 : Hid True := Lib.hid trivial
  go_enter Tryz.func15, Tryz.ntmps15
  go_wp2_with (first
    | (clear T1; refine wpList_boxB rfl 48 (.tmp 0) rfl (rsC s.entry.1 (.slice (some ⟨kt, 0, none⟩) 24 ct) (.slice na N nc)) rfl HS.out ?_; intro wa gb hs; replace HS := Lib.hid hs; clear hs)
    | (clear T2; refine wpList_boxB rfl 42 (.tmp 1) rfl [.int .i64 (m : Int), .int .i64 (k : Int)] rfl HS.out ?_; intro wb ge hs; replace HS := Lib.hid hs; have c0 := HS.out.cell 0 rfl (k := 0) rfl; have c1 := HS.out.cell 0 rfl (k := 1) rfl; have cn := HS.out.cell 1 rfl (k := 2) rfl; clear hs))
  have V0 : ∀ z : NewW wb, z.val.cell? ⟨ge, 0, none⟩ = some (.int .i64 (m : Int)) := fun z => z.property.cell' c0
  have V1 : ∀ z : NewW wb, z.val.cell? ⟨ge, 1, none⟩ = some (.int .i64 (k : Int)) := fun z => z.property.cell' c1
  have Vn : ∀ z : NewW wb, z.val.cell? ⟨gb, 2, none⟩ = some (.slice na N nc) := fun z => z.property.cell' cn
  have Vo : ∀ z : NewW wb, z.val.cell? ⟨b, o + 1, none⟩ = some (.slice oa K oc) := fun z => r1 _ (HS.out.nw.trans z.property)
  clear r1
  clear c0 c1 cn
  have hne := newW_any wb
  refine wp_region_new (New.refl wb) (by kernel_rfl) (by kernel_rfl) ?_
  repeat (go_big_quiet_step (fail))
  refine wpQuiet_nil ?_
  intro w6 hn6
  go_wp2_with fail
  go_ret
  exact ⟨rfl, HS.out.nw.trans hn6⟩
theorem has_yes {s : Skl} {kt ct : Nat} {na : Option Addr} {nc N : Nat} {e : Ed} {w : World} (h : RefS w s kt ct na nc N) (he : hasE s e) :
    Calls Tryz.prog 15 #[rsV s kt ct na nc N, .agg #[.int .i64 e.1, .int .i64 e.2]] w fun r w' => r = .returned (.bool true) ∧ New w w' := by
  rcases he with ⟨h1, h2⟩ | ⟨j, k, x, rfl, h1, h2⟩
  · rw [h1, h2]
    exact has_ey h
  · exact has_ky j k x h h1 h2
theorem has_not {s : Skl} {kt ct : Nat} {na : Option Addr} {nc N : Nat} {e : Ed} {w : World} (h : RefS w s kt ct na nc N) (he : ¬ hasE s e) :
    Calls Tryz.prog 15 #[rsV s kt ct na nc N, .agg #[.int .i64 e.1, .int .i64 e.2]] w fun r w' => r = .returned (.bool false) ∧ New w w' := by
  by_cases h1 : e.1 = -1
  · rw [h1]
    exact has_en e.2 h fun h2 => he (.inl ⟨h1, h2⟩)
  · by_cases h0 : e.1 < 0
    · exact has_m0 e.1 e.2 h h1 h0
    · by_cases h2 : e.1 < N
      · obtain ⟨m, hm⟩ : ∃ m : Nat, e.1 = (m : Int) := ⟨e.1.toNat, by omega⟩
        have hl := h.l
        obtain ⟨x, hx⟩ : ∃ x, s.nodes[m]? = some x := ⟨_, List.getElem?_eq_getElem (by omega)⟩
        rw [hm]
        by_cases h3 : e.2 < 0
        · exact has_k0 m e.2 x h hx h3
        · exact has_k1 m e.2 x h hx (by omega) fun h4 => he (.inr ⟨m, e.2.toNat, x, Prod.ext hm (by show e.2 = _; omega), hx, by omega⟩)
      · exact has_m1 e.1 e.2 h (by omega) h2
theorem zeroSo_run (w : World) : (zeroValue 113).run Tryz.prog w = .ok (.agg #[.int .i64 0, .int .i64 0]) w := Tryz.zeroValue113 w
theorem infoSo : (Tryz.prog.info? 113).map (·.size) = some 2 := by kernel_rfl
set_option maxHeartbeats 8000000 in
set_option maxRecDepth 100000 in
theorem rby_e {fo : Option Addr} {n fc : Nat} {s : Skl} {kt ct : Nat} {na : Option Addr} {nc N : Nat} (l : Nat) (x : Sr) {w : World} (h : RefS w s kt ct na nc N) (hl : l < 24) (hx : okS x = true) (hxe : s.entry.2 l = x) :
    Calls Tryz.prog 16 #[.slice fo n fc, rsV s kt ct na nc N, .agg #[.int .i64 (-1), .int .i64 0], .int .i64 (l : Int)] w fun r w' => r = .returned (.agg (srcK (if x.1 = 1 then (2, x.2) else if x.2 < 8 then (1, x.2) else (0, 0))).toArray) ∧ New w w' := by
  have H := Lib.hid h
  have hN2 := h.l2
  have HS := Lib.hid (Sep.start w)
  obtain ⟨b1, o1, i1, r1⟩ := (tabA_el (cap := ct) h.t).ix 43 Tryz.underlying43 sizeR hl
  simp only [hxe] at r1
  have HG := Lib.hid r1
  obtain ⟨k, m⟩ := x
  clear h r1 hxe
  rcases ok_cases hx with h | ⟨h, hm0, hm1⟩
  · have h' : k = 1 := h
    subst h'
    clear h hx
    have e0 : (if ((1, m) : Sr).1 = 1 then ((2 : Int), ((1, m) : Sr).2) else if ((1, m) : Sr).2 < 8 then (1, ((1, m) : Sr).2) else (0, 0)) = (2, m) := rfl
    rw [e0]
    replace HG : Hid (∀ w', New w w' → w'.rangeAt b1 o1 [.int .i64 1, .int .i64 m]) := HG
    have T1 : Hid True := Lib.hid trivial
    have T2 : Hid True := Lib.hid trivial
    have T3 : Hid True := Lib.hid trivial
    have T4 : Hid True := Lib.hid trivial
    have T5 : Hid True := Lib.hid trivial
    have T6 : Hid True := Lib.hid trivial
    have T7 : Hid True := Lib.hid trivial
    have T8 : Hid True := Lib.hid trivial
    go_enter Tryz.func16, Tryz.ntmps16
    go_wp2_with (first
      | (clear T1; refine wpList_boxB rfl 48 (.tmp 1) rfl (rsC s.entry.1 (.slice (some ⟨kt, 0, none⟩) 24 ct) (.slice na N nc)) rfl HS.out ?_; intro wa gb hs; replace HS := Lib.hid hs; clear hs)
      | (clear T2; refine wpList_boxB rfl 42 (.tmp 2) rfl [.int .i64 (-1), .int .i64 0] rfl HS.out ?_; intro wb ge hs; replace HS := Lib.hid hs; clear hs)
      | (clear T3; refine wpList_alB rfl 39 rfl _ zeroSr_run _ rfl HS.out ?_; intro wc gr hs; replace HS := Lib.hid hs; have c0 := HS.out.cell 1 rfl (k := 0) rfl; have c1 := HS.out.cell 1 rfl (k := 1) rfl; have cn := HS.out.cell 2 rfl (k := 2) rfl; have ct1 := HS.out.cell 2 rfl (k := 1) rfl; clear hs)
      | (clear T4; refine wpList_load_mid rfl 113 (.tmp 20) rfl b1 o1 rfl [.int .i64 1, .int .i64 m] _ (HG.out _ HS.out.nw) Tryz.underlying113 rfl infoSo ?_)
      | (clear T5; refine wpList_alB rfl 113 rfl _ zeroSo_run _ rfl HS.out ?_; intro wd gx hs; replace HS := Lib.hid hs; clear hs c0 c1 cn ct1)
      | (clear T6; refine wpList_stSW 0 rfl rfl 113 (.tmp 9) (.tmp 21) rfl gx rfl _ rfl HS.out rfl [.int .i64 1, .int .i64 m] rfl rfl (by simp [Value.oneCell']) infoSo ?_; intro we hs; replace HS := Lib.hid hs; have x0 := HS.out.cell 0 rfl (k := 0) rfl; have x1 := HS.out.cell 0 rfl (k := 1) rfl; clear hs)
      | (clear T7; refine wpList_bd2 (a := .int .i64 2) (b := .int .i64 m) rfl 39 0 1 (.const (.int .i64 2)) (.tmp 26) rfl rfl rfl (build_Sr2 2 m) ?_)
      | (clear T8; refine wpList_stSW 1 rfl rfl 39 (.tmp 8) (.tmp 27) rfl gr rfl _ rfl HS.out rfl (srcK (2, m)) rfl rfl (srcK_one _) infoSr ?_; intro wf hs; replace HS := Lib.hid hs; clear hs x0 x1))
    exact bodyPost_ret (resSr _ rfl _ _ gr _ rfl (HS.out.has 1 rfl)) rfl ⟨rfl, HS.out.nw⟩
  · have h' : k = 0 := h
    subst h'
    clear h hx
    replace HG : Hid (∀ w', New w w' → w'.rangeAt b1 o1 [.int .i64 0, .int .i64 m]) := HG
    by_cases h8 : m < 8
    · have e0 : (if ((0, m) : Sr).1 = 1 then ((2 : Int), ((0, m) : Sr).2) else if ((0, m) : Sr).2 < 8 then (1, ((0, m) : Sr).2) else (0, 0)) = (1, m) := by
        show (if m < 8 then ((1 : Int), m) else (0, 0)) = _
        rw [if_pos h8]
      rw [e0]
      have d8 : decide (m < 8) = true := decide_eq_true h8
      clear h8 e0
      have T1 : Hid True := Lib.hid trivial
      have T2 : Hid True := Lib.hid trivial
      have T3 : Hid True := Lib.hid trivial
      have T4 : Hid True := Lib.hid trivial
      have T5 : Hid True := Lib.hid trivial
      have T6 : Hid True := Lib.hid trivial
      have T7 : Hid True := Lib.hid trivial
      have T8 : Hid True := Lib.hid trivial
      go_enter Tryz.func16, Tryz.ntmps16
      go_wp2_with (first
        | (clear T1; refine wpList_boxB rfl 48 (.tmp 1) rfl (rsC s.entry.1 (.slice (some ⟨kt, 0, none⟩) 24 ct) (.slice na N nc)) rfl HS.out ?_; intro wa gb hs; replace HS := Lib.hid hs; clear hs)
        | (clear T2; refine wpList_boxB rfl 42 (.tmp 2) rfl [.int .i64 (-1), .int .i64 0] rfl HS.out ?_; intro wb ge hs; replace HS := Lib.hid hs; clear hs)
        | (clear T3; refine wpList_alB rfl 39 rfl _ zeroSr_run _ rfl HS.out ?_; intro wc gr hs; replace HS := Lib.hid hs; have c0 := HS.out.cell 1 rfl (k := 0) rfl; have c1 := HS.out.cell 1 rfl (k := 1) rfl; have cn := HS.out.cell 2 rfl (k := 2) rfl; have ct1 := HS.out.cell 2 rfl (k := 1) rfl; clear hs)
        | (clear T4; refine wpList_load_mid rfl 113 (.tmp 20) rfl b1 o1 rfl [.int .i64 0, .int .i64 m] _ (HG.out _ HS.out.nw) Tryz.underlying113 rfl infoSo ?_)
        | (clear T5; refine wpList_alB rfl 113 rfl _ zeroSo_run _ rfl HS.out ?_; intro wd gx hs; replace HS := Lib.hid hs; clear hs c0 c1 cn ct1)
        | (clear T6; refine wpList_stSW 0 rfl rfl 113 (.tmp 9) (.tmp 21) rfl gx rfl _ rfl HS.out rfl [.int .i64 0, .int .i64 m] rfl rfl (by simp [Value.oneCell']) infoSo ?_; intro we hs; replace HS := Lib.hid hs; have x0 := HS.out.cell 0 rfl (k := 0) rfl; have x1 := HS.out.cell 0 rfl (k := 1) rfl; clear hs)
        | (clear T7; refine wpList_bd2 (a := .int .i64 1) (b := .int .i64 m) rfl 39 0 1 (.const (.int .i64 1)) (.tmp 32) rfl rfl rfl (build_Sr2 1 m) ?_)
        | (clear T8; refine wpList_stSW 1 rfl rfl 39 (.tmp 8) (.tmp 33) rfl gr rfl _ rfl HS.out rfl (srcK (1, m)) rfl rfl (srcK_one _) infoSr ?_; intro wf hs; replace HS := Lib.hid hs; clear hs x0 x1))
      exact bodyPost_ret (resSr _ rfl _ _ gr _ rfl (HS.out.has 1 rfl)) rfl ⟨rfl, HS.out.nw⟩
    · have e0 : (if ((0, m) : Sr).1 = 1 then ((2 : Int), ((0, m) : Sr).2) else if ((0, m) : Sr).2 < 8 then (1, ((0, m) : Sr).2) else (0, 0)) = (0, 0) := by
        show (if m < 8 then ((1 : Int), m) else (0, 0)) = _
        rw [if_neg h8]
      rw [e0]
      have d8 : decide (m < 8) = false := decide_eq_false h8
      clear h8 e0
      have T1 : Hid True := Lib.hid trivial
      have T2 : Hid True := Lib.hid trivial
      have T3 : Hid True := Lib.hid trivial
      have T4 : Hid True := Lib.hid trivial
      have T5 : Hid True := Lib.hid trivial
      have T6 : Hid True := Lib.hid trivial
      have T7 : Hid True := Lib.hid trivial
      have T8 : Hid True := Lib.hid trivial
      go_enter Tryz.func16, Tryz.ntmps16
      go_wp2_with (first
        | (clear T1; refine wpList_boxB rfl 48 (.tmp 1) rfl (rsC s.entry.1 (.slice (some ⟨kt, 0, none⟩) 24 ct) (.slice na N nc)) rfl HS.out ?_; intro wa gb hs; replace HS := Lib.hid hs; clear hs)
        | (clear T2; refine wpList_boxB rfl 42 (.tmp 2) rfl [.int .i64 (-1), .int .i64 0] rfl HS.out ?_; intro wb ge hs; replace HS := Lib.hid hs; clear hs)
        | (clear T3; refine wpList_alB rfl 39 rfl _ zeroSr_run _ rfl HS.out ?_; intro wc gr hs; replace HS := Lib.hid hs; have c0 := HS.out.cell 1 rfl (k := 0) rfl; have c1 := HS.out.cell 1 rfl (k := 1) rfl; have cn := HS.out.cell 2 rfl (k := 2) rfl; have ct1 := HS.out.cell 2 rfl (k := 1) rfl; clear hs)
        | (clear T4; refine wpList_load_mid rfl 113 (.tmp 20) rfl b1 o1 rfl [.int .i64 0, .int .i64 m] _ (HG.out _ HS.out.nw) Tryz.underlying113 rfl infoSo ?_)
        | (clear T5; refine wpList_alB rfl 113 rfl _ zeroSo_run _ rfl HS.out ?_; intro wd gx hs; replace HS := Lib.hid hs; clear hs c0 c1 cn ct1)
        | (clear T6; refine wpList_stSW 0 rfl rfl 113 (.tmp 9) (.tmp 21) rfl gx rfl _ rfl HS.out rfl [.int .i64 0, .int .i64 m] rfl rfl (by simp [Value.oneCell']) infoSo ?_; intro we hs; replace HS := Lib.hid hs; have x0 := HS.out.cell 0 rfl (k := 0) rfl; have x1 := HS.out.cell 0 rfl (k := 1) rfl; clear hs)
        | (clear T7; refine wpList_bd0 rfl 39 rfl build_Sr0 ?_)
        | (clear T8; refine wpList_stSW 1 rfl rfl 39 (.tmp 8) (.tmp 34) rfl gr rfl _ rfl HS.out rfl (srcK (0, 0)) rfl rfl (srcK_one _) infoSr ?_; intro wf hs; replace HS := Lib.hid hs; clear hs x0 x1))
      exact bodyPost_ret (resSr _ rfl _ _ gr _ rfl (HS.out.has 1 rfl)) rfl ⟨rfl, HS.out.nw⟩
set_option maxHeartbeats 8000000 in
set_option maxRecDepth 100000 in
theorem rby_n {fo : Option Addr} {n fc : Nat} {f : List I} {s : Skl} {kt ct : Nat} {na : Option Addr} {nc N : Nat} (j k : Nat) (y : Int × List Wyo) (z : Wyo) (p : Nat) (l : Nat) (x : Sr) {w : World} (h : RefS w s kt ct na nc N) (hl : l < 24) (hx : okS x = true) (hxe : z.2 l = x) (hy : s.nodes[j]? = some y) (hz : y.2[k]? = some z) (hp : y.1 = (p : Int)) (hpn : p < n) (hf : FunAt w (.slice fo n fc) f) :
    Calls Tryz.prog 16 #[.slice fo n fc, rsV s kt ct na nc N, .agg #[.int .i64 (j : Int), .int .i64 (k : Int)], .int .i64 (l : Int)] w fun r w' => r = .returned (.agg (srcK (if x.1 = 1 then (2, x.2) else if setsB (insA f (p : Int)).op = true ∧ (insA f (p : Int)).d = x.2 then (3, 0) else (4, x.2))).toArray) ∧ New w w' := by
  have H := Lib.hid h
  have hN2 := h.l2
  have HS := Lib.hid (Sep.start w)
  have hjN : j < N := by rw [← h.l]; exact (List.getElem?_eq_some_iff.mp hy).1
  obtain ⟨b1, o1, oa, oc, i1, r1, r2, ro⟩ := h.node hy
  obtain ⟨K, HK⟩ : ∃ K, Hid (y.2.length = K) := ⟨_, Lib.hid rfl⟩
  rw [HK.out] at r2 ro
  rw [hp] at r1
  obtain ⟨b2, o2, c2, _, i2, r3, e3⟩ := rowA_ix (P := Tryz.prog) ro 110 Tryz.underlying110 sizeRo hz
  obtain ⟨k2, cc2, rfl, ht⟩ := rout_rd e3
  obtain ⟨b3, o3, i3, r4⟩ := (tabA_el (cap := cc2) ht).ix 43 Tryz.underlying43 sizeR hl
  simp only [hxe] at r4
  have H1 := Lib.hid r1
  have H2 := Lib.hid r2
  have H3 := Lib.hid r3
  have H4 := Lib.hid r4
  obtain ⟨fb, fp, i0, hi0, i4, r5⟩ := hf.ix hpn
  have hii : insA f (p : Int) = i0 := by
    unfold insA
    rw [Int.toNat_natCast, List.getD_eq_getElem?_getD, hi0]
    rfl
  rw [hii]
  have H5 := Lib.hid r5
  have q : ((j : Int) == -1) = false := bneq_of (by omega)
  obtain ⟨kk, m⟩ := x
  clear h r1 r2 r3 r4 r5 ro e3 ht hxe hy hz hp hf hi0 hii
  rcases ok_cases hx with h | ⟨h, hm0, hm1⟩
  · have h' : kk = 1 := h
    subst h'
    clear h hx
    have e0 : (if ((1, m) : Sr).1 = 1 then ((2 : Int), ((1, m) : Sr).2) else if setsB i0.op = true ∧ i0.d = ((1, m) : Sr).2 then (3, 0) else (4, ((1, m) : Sr).2)) = (2, m) := rfl
    rw [e0]
    replace H4 : Hid (∀ w', New w w' → w'.rangeAt b3 o3 [.int .i64 1, .int .i64 m]) := H4
    clear e0
    have T1 : Hid True := Lib.hid trivial
    have T2 : Hid True := Lib.hid trivial
    have T3 : Hid True := Lib.hid trivial
    go_enter Tryz.func16, Tryz.ntmps16
    go_wp2_with (first
      | (clear T1; refine wpList_boxB rfl 48 (.tmp 1) rfl (rsC s.entry.1 (.slice (some ⟨kt, 0, none⟩) 24 ct) (.slice na N nc)) rfl HS.out ?_; intro wa gb hs; replace HS := Lib.hid hs; clear hs)
      | (clear T2; refine wpList_boxB rfl 42 (.tmp 2) rfl [.int .i64 (j : Int), .int .i64 (k : Int)] rfl HS.out ?_; intro wb ge hs; replace HS := Lib.hid hs; clear hs)
      | (clear T3; refine wpList_alB rfl 39 rfl _ zeroSr_run _ rfl HS.out ?_; intro wc gr hs; replace HS := Lib.hid hs; have c0 := HS.out.cell 1 rfl (k := 0) rfl; have c1 := HS.out.cell 1 rfl (k := 1) rfl; have cn := HS.out.cell 2 rfl (k := 2) rfl; have ct1 := HS.out.cell 2 rfl (k := 1) rfl; clear hs))
    have S0 : New wc wc.drew := (New.refl wc).drew
    have N0 : New w wc := HS.out.nw
    refine wp_region_noPanic ?_
    refine region_late (k := 16) (S := fun w' => New wc w') (by kernel_rfl) S0 (fun _ => ?_)
    refine late_take (i := 0) (v := .pointer (some ⟨gb, 2, none⟩)) rfl (by kernel_rfl) (by kernel_rfl) (by kernel_rfl) (by kernel_rfl) (fun _ _ _ h => h) (Or.inl ⟨rfl, fun _ _ => by go_simp⟩) S0 ?_
    simp only [List.getElem_toArray, List.getElem_cons_zero, Act.put, List.setIfInBounds_toArray, List.set_cons_zero, List.set_cons_succ]
    refine late_take (i := 1) (v := .slice na N nc) rfl (by kernel_rfl) (by kernel_rfl) (by kernel_rfl) (by kernel_rfl) (fun _ _ _ h => h) (ldV_if rfl 46 Tryz.isAgg46 (.tmp 35) rfl ⟨gb, 2, none⟩ rfl (fun w' h => h.cell' cn)) S0 ?_
    simp only [List.getElem_toArray, List.getElem_cons_zero, List.getElem_cons_succ, Act.put, List.setIfInBounds_toArray, List.set_cons_zero, List.set_cons_succ]
    refine late_take (i := 2) (v := .pointer (some ⟨ge, 0, none⟩)) rfl (by kernel_rfl) (by kernel_rfl) (by kernel_rfl) (by kernel_rfl) (fun _ _ _ h => h) (Or.inl ⟨rfl, fun _ _ => by go_simp⟩) S0 ?_
    simp only [List.getElem_toArray, List.getElem_cons_zero, List.getElem_cons_succ, Act.put, List.setIfInBounds_toArray, List.set_cons_zero, List.set_cons_succ]
    refine late_take (i := 3) (v := .int .i64 (j : Int)) rfl (by kernel_rfl) (by kernel_rfl) (by kernel_rfl) (by kernel_rfl) (fun _ _ _ h => h) (ldV_if rfl 3 Tryz.isAgg3 (.tmp 37) rfl ⟨ge, 0, none⟩ rfl (fun w' h => h.cell' c0)) S0 ?_
    simp only [List.getElem_toArray, List.getElem_cons_zero, List.getElem_cons_succ, Act.put, List.setIfInBounds_toArray, List.set_cons_zero, List.set_cons_succ]
    refine late_take (i := 4) (v := .pointer (some ⟨b1, o1, none⟩)) rfl (by kernel_rfl) (by kernel_rfl) (by kernel_rfl) (by kernel_rfl) (fun _ _ _ h => h) (ixV_if rfl 46 (.tmp 36) (.tmp 38) rfl _ _ _ rfl rfl i1) S0 ?_
    simp only [List.getElem_toArray, List.getElem_cons_zero, List.getElem_cons_succ, Act.put, List.setIfInBounds_toArray, List.set_cons_zero, List.set_cons_succ]
    refine late_take (i := 5) (v := .pointer (some ⟨b1, o1 + 1, none⟩)) rfl (by kernel_rfl) (by kernel_rfl) (by kernel_rfl) (by kernel_rfl) (fun _ _ _ h => h) (Or.inl ⟨rfl, fun _ _ => by go_simp⟩) S0 ?_
    simp only [List.getElem_toArray, List.getElem_cons_zero, List.getElem_cons_succ, Act.put, List.setIfInBounds_toArray, List.set_cons_zero, List.set_cons_succ]
    refine late_take (i := 6) (v := .slice oa K oc) rfl (by kernel_rfl) (by kernel_rfl) (by kernel_rfl) (by kernel_rfl) (fun _ _ _ h => h) (ldV_if rfl 110 Tryz.isAgg110 (.tmp 40) rfl ⟨b1, o1 + 1, none⟩ rfl (fun w' h => H2.out _ (N0.trans h))) S0 ?_
    simp only [List.getElem_toArray, List.getElem_cons_zero, List.getElem_cons_succ, Act.put, List.setIfInBounds_toArray, List.set_cons_zero, List.set_cons_succ]
    refine late_take (i := 7) (v := .pointer (some ⟨ge, 1, none⟩)) rfl (by kernel_rfl) (by kernel_rfl) (by kernel_rfl) (by kernel_rfl) (fun _ _ _ h => h) (Or.inl ⟨rfl, fun _ _ => by go_simp⟩) S0 ?_
    simp only [List.getElem_toArray, List.getElem_cons_zero, List.getElem_cons_succ, Act.put, List.setIfInBounds_toArray, List.set_cons_zero, List.set_cons_succ]
    refine late_take (i := 8) (v := .int .i64 (k : Int)) rfl (by kernel_rfl) (by kernel_rfl) (by kernel_rfl) (by kernel_rfl) (fun _ _ _ h => h) (ldV_if rfl 3 Tryz.isAgg3 (.tmp 42) rfl ⟨ge, 1, none⟩ rfl (fun w' h => h.cell' c1)) S0 ?_
    simp only [List.getElem_toArray, List.getElem_cons_zero, List.getElem_cons_succ, Act.put, List.setIfInBounds_toArray, List.set_cons_zero, List.set_cons_succ]
    refine late_take (i := 9) (v := .pointer (some ⟨b2, o2, none⟩)) rfl (by kernel_rfl) (by kernel_rfl) (by kernel_rfl) (by kernel_rfl) (fun _ _ _ h => h) (ixV_if rfl 110 (.tmp 41) (.tmp 43) rfl _ _ _ rfl rfl i2) S0 ?_
    simp only [List.getElem_toArray, List.getElem_cons_zero, List.getElem_cons_succ, Act.put, List.setIfInBounds_toArray, List.set_cons_zero, List.set_cons_succ]
    refine late_take (i := 10) (v := .pointer (some ⟨b2, o2 + 1, none⟩)) rfl (by kernel_rfl) (by kernel_rfl) (by kernel_rfl) (by kernel_rfl) (fun _ _ _ h => h) (Or.inl ⟨rfl, fun _ _ => by go_simp⟩) S0 ?_
    simp only [List.getElem_toArray, List.getElem_cons_zero, List.getElem_cons_succ, Act.put, List.setIfInBounds_toArray, List.set_cons_zero, List.set_cons_succ]
    refine late_take (i := 11) (v := .slice (some ⟨k2, 0, none⟩) 24 cc2) rfl (by kernel_rfl) (by kernel_rfl) (by kernel_rfl) (by kernel_rfl) (fun _ _ _ h => h) (ldV_if rfl 43 Tryz.isAgg43 (.tmp 45) rfl ⟨b2, o2 + 1, none⟩ rfl (fun w' h => H3.out _ (N0.trans h) 1 _ rfl)) S0 ?_
    simp only [List.getElem_toArray, List.getElem_cons_zero, List.getElem_cons_succ, Act.put, List.setIfInBounds_toArray, List.set_cons_zero, List.set_cons_succ]
    refine late_take (i := 12) (v := .int .i64 (l : Int)) rfl (by kernel_rfl) (by kernel_rfl) (by kernel_rfl) (by kernel_rfl) (fun _ _ _ h => h) (Or.inl ⟨rfl, fun _ _ => by go_simp⟩) S0 ?_
    simp only [List.getElem_toArray, List.getElem_cons_zero, List.getElem_cons_succ, Act.put, List.setIfInBounds_toArray, List.set_cons_zero, List.set_cons_succ]
    refine late_take (i := 13) (v := .pointer (some ⟨b3, o3, none⟩)) rfl (by kernel_rfl) (by kernel_rfl) (by kernel_rfl) (by kernel_rfl) (fun _ _ _ h => h) (ixV_if rfl 43 (.tmp 46) (.tmp 47) rfl _ _ _ rfl rfl i3) S0 ?_
    simp only [List.getElem_toArray, List.getElem_cons_zero, List.getElem_cons_succ, Act.put, List.setIfInBounds_toArray, List.set_cons_zero, List.set_cons_succ]
    refine late_take (i := 14) (v := .agg #[.int .i64 1, .int .i64 m]) rfl (by kernel_rfl) (by kernel_rfl) (by kernel_rfl) (by kernel_rfl) (fun _ _ _ h => h) (yieldsIf_load_mid (by rfl) _ _ rfl b3 o3 rfl [.int .i64 1, .int .i64 m] _ (fun w' h => H4.out _ (N0.trans h)) Tryz.underlying113 rfl infoSo) S0 ?_
    simp only [List.getElem_toArray, List.getElem_cons_zero, List.getElem_cons_succ, Act.put, List.setIfInBounds_toArray, List.set_cons_zero, List.set_cons_succ]
    refine late_forced [15, 16] _ _ _ (by kernel_rfl) ?_
    have hS := HS.out.go S0
    refine LL_val (v := .pointer (some ⟨wc.drew.heap.size, 0, none⟩)) rfl rfl (run_alO 113 rfl _ zeroSo_run _ _) (S0.trans (alloc_new _ _)) ?_
    simp only [List.getElem_toArray, List.getElem_cons_zero, List.getElem_cons_succ, Act.put, List.setIfInBounds_toArray, List.set_cons_zero, List.set_cons_succ]
    have hS2 := hS.new (g := wc.drew.heap.size) (ty := 113) (cs := [.int .i64 0, .int .i64 0]) (alloc_new wc.drew (.cells #[.int .i64 0, .int .i64 0] 113)) (Nat.le_refl _) (HasC.box wc.drew _ [.int .i64 0, .int .i64 0])
    obtain ⟨gx, hgx⟩ : ∃ gx, wc.drew.heap.size = gx := ⟨_, rfl⟩
    rw [hgx] at hS2
    have hcs : (Value.agg #[.int .i64 0, .int .i64 0]).cells = #[.int .i64 0, .int .i64 0] := rfl
    rw [hcs, hgx]
    generalize wc.drew.alloc (.cells #[.int .i64 0, .int .i64 0] 113) = wd at hS2 ⊢
    have hst : (Instr.storeAt 113 (.pointer (some ⟨gx, 0, none⟩)) (.agg #[.int .i64 1, .int .i64 m])).run Tryz.prog wd = .ok () (putO wd gx (.cells ([.int .i64 1, .int .i64 m] : List Value).toArray 113 (0, 0))) := HasC.store (hS2.has 0 rfl) 0 [.int .i64 1, .int .i64 m] 113 (.agg #[.int .i64 1, .int .i64 m]) rfl (by simp) (by simp [Value.oneCell']) infoSo
    refine LL_skip rfl rfl rfl (run_stO 113 (.tmp 10) (.tmp 49) rfl rfl rfl hst) (fun h => absurd rfl h) ?_
    have hfin := hS2.setAt 0 rfl (Kept.put wd gx (.cells ([.int .i64 1, .int .i64 m] : List Value).toArray 113 (0, 0))) (HasC.put (hS2.has 0 rfl) _)
    refine NoPanic.normal ?_
    clear hst
    generalize putO wd gx (.cells ([.int .i64 1, .int .i64 m] : List Value).toArray 113 (0, 0)) = we at hfin ⊢
    replace HS := Lib.hid hfin
    have x0 := HS.out.cell 0 rfl (k := 0) rfl
    have x1 := HS.out.cell 0 rfl (k := 1) rfl
    have c0 := HS.out.cell 2 rfl (k := 0) rfl
    have cn := HS.out.cell 3 rfl (k := 2) rfl
    have y1 := H1.out _ HS.out.nw
    clear hfin hS hS2 S0 N0 hgx hcs
    have V1 : Hid True := Lib.hid trivial
    have V2 : Hid True := Lib.hid trivial
    go_wp2_with (first
      | (clear V1; refine wpList_bd2 (a := .int .i64 2) (b := .int .i64 m) rfl 39 0 1 (.const (.int .i64 2)) (.tmp 54) rfl rfl rfl (build_Sr2 2 m) ?_)
      | (clear V2; refine wpList_stSW 1 rfl rfl 39 (.tmp 8) (.tmp 55) rfl gr rfl _ rfl HS.out rfl (srcK (2, m)) rfl rfl (srcK_one _) infoSr ?_; intro wg hs; replace HS := Lib.hid hs; clear hs))
    exact bodyPost_ret (resSr _ rfl _ _ gr _ rfl (HS.out.has 1 rfl)) rfl ⟨rfl, HS.out.nw⟩
  · have h' : kk = 0 := h
    subst h'
    clear h hx
    replace H4 : Hid (∀ w', New w w' → w'.rangeAt b3 o3 [.int .i64 0, .int .i64 m]) := H4
    have e0 : (if ((0, m) : Sr).1 = 1 then ((2 : Int), ((0, m) : Sr).2) else if setsB i0.op = true ∧ i0.d = ((0, m) : Sr).2 then (3, 0) else (4, ((0, m) : Sr).2)) = if setsB i0.op = true ∧ i0.d = m then (3, 0) else (4, m) := rfl
    rw [e0]
    have hse := fun w => refSets_any i0.op i0.d i0.a i0.b i0.n i0.t w
    have hv : setsV ⟨i0.op, i0.d, i0.a, i0.b, i0.n, i0.t⟩ = if setsB i0.op = true then i0.d else 0 := rfl
    rw [hv] at hse
    clear e0 hv
    cases hq : setsB i0.op with
    | false =>
      rw [if_neg (by simp)]
      rw [hq] at hse
      have HSE := Lib.hid hse
      clear hse
      have T1 : Hid True := Lib.hid trivial
      have T2 : Hid True := Lib.hid trivial
      have T3 : Hid True := Lib.hid trivial
      go_enter Tryz.func16, Tryz.ntmps16
      go_wp2_with (first
        | (clear T1; refine wpList_boxB rfl 48 (.tmp 1) rfl (rsC s.entry.1 (.slice (some ⟨kt, 0, none⟩) 24 ct) (.slice na N nc)) rfl HS.out ?_; intro wa gb hs; replace HS := Lib.hid hs; clear hs)
        | (clear T2; refine wpList_boxB rfl 42 (.tmp 2) rfl [.int .i64 (j : Int), .int .i64 (k : Int)] rfl HS.out ?_; intro wb ge hs; replace HS := Lib.hid hs; clear hs)
        | (clear T3; refine wpList_alB rfl 39 rfl _ zeroSr_run _ rfl HS.out ?_; intro wc gr hs; replace HS := Lib.hid hs; have c0 := HS.out.cell 1 rfl (k := 0) rfl; have c1 := HS.out.cell 1 rfl (k := 1) rfl; have cn := HS.out.cell 2 rfl (k := 2) rfl; have ct1 := HS.out.cell 2 rfl (k := 1) rfl; clear hs))
      have S0 : New wc wc.drew := (New.refl wc).drew
      have N0 : New w wc := HS.out.nw
      refine wp_region_noPanic ?_
      refine region_late (k := 16) (S := fun w' => New wc w') (by kernel_rfl) S0 (fun _ => ?_)
      refine late_take (i := 0) (v := .pointer (some ⟨gb, 2, none⟩)) rfl (by kernel_rfl) (by kernel_rfl) (by kernel_rfl) (by kernel_rfl) (fun _ _ _ h => h) (Or.inl ⟨rfl, fun _ _ => by go_simp⟩) S0 ?_
      simp only [List.getElem_toArray, List.getElem_cons_zero, Act.put, List.setIfInBounds_toArray, List.set_cons_zero, List.set_cons_succ]
      refine late_take (i := 1) (v := .slice na N nc) rfl (by kernel_rfl) (by kernel_rfl) (by kernel_rfl) (by kernel_rfl) (fun _ _ _ h => h) (ldV_if rfl 46 Tryz.isAgg46 (.tmp 35) rfl ⟨gb, 2, none⟩ rfl (fun w' h => h.cell' cn)) S0 ?_
      simp only [List.getElem_toArray, List.getElem_cons_zero, List.getElem_cons_succ, Act.put, List.setIfInBounds_toArray, List.set_cons_zero, List.set_cons_succ]
      refine late_take (i := 2) (v := .pointer (some ⟨ge, 0, none⟩)) rfl (by kernel_rfl) (by kernel_rfl) (by kernel_rfl) (by kernel_rfl) (fun _ _ _ h => h) (Or.inl ⟨rfl, fun _ _ => by go_simp⟩) S0 ?_
      simp only [List.getElem_toArray, List.getElem_cons_zero, List.getElem_cons_succ, Act.put, List.setIfInBounds_toArray, List.set_cons_zero, List.set_cons_succ]
      refine late_take (i := 3) (v := .int .i64 (j : Int)) rfl (by kernel_rfl) (by kernel_rfl) (by kernel_rfl) (by kernel_rfl) (fun _ _ _ h => h) (ldV_if rfl 3 Tryz.isAgg3 (.tmp 37) rfl ⟨ge, 0, none⟩ rfl (fun w' h => h.cell' c0)) S0 ?_
      simp only [List.getElem_toArray, List.getElem_cons_zero, List.getElem_cons_succ, Act.put, List.setIfInBounds_toArray, List.set_cons_zero, List.set_cons_succ]
      refine late_take (i := 4) (v := .pointer (some ⟨b1, o1, none⟩)) rfl (by kernel_rfl) (by kernel_rfl) (by kernel_rfl) (by kernel_rfl) (fun _ _ _ h => h) (ixV_if rfl 46 (.tmp 36) (.tmp 38) rfl _ _ _ rfl rfl i1) S0 ?_
      simp only [List.getElem_toArray, List.getElem_cons_zero, List.getElem_cons_succ, Act.put, List.setIfInBounds_toArray, List.set_cons_zero, List.set_cons_succ]
      refine late_take (i := 5) (v := .pointer (some ⟨b1, o1 + 1, none⟩)) rfl (by kernel_rfl) (by kernel_rfl) (by kernel_rfl) (by kernel_rfl) (fun _ _ _ h => h) (Or.inl ⟨rfl, fun _ _ => by go_simp⟩) S0 ?_
      simp only [List.getElem_toArray, List.getElem_cons_zero, List.getElem_cons_succ, Act.put, List.setIfInBounds_toArray, List.set_cons_zero, List.set_cons_succ]
      refine late_take (i := 6) (v := .slice oa K oc) rfl (by kernel_rfl) (by kernel_rfl) (by kernel_rfl) (by kernel_rfl) (fun _ _ _ h => h) (ldV_if rfl 110 Tryz.isAgg110 (.tmp 40) rfl ⟨b1, o1 + 1, none⟩ rfl (fun w' h => H2.out _ (N0.trans h))) S0 ?_
      simp only [List.getElem_toArray, List.getElem_cons_zero, List.getElem_cons_succ, Act.put, List.setIfInBounds_toArray, List.set_cons_zero, List.set_cons_succ]
      refine late_take (i := 7) (v := .pointer (some ⟨ge, 1, none⟩)) rfl (by kernel_rfl) (by kernel_rfl) (by kernel_rfl) (by kernel_rfl) (fun _ _ _ h => h) (Or.inl ⟨rfl, fun _ _ => by go_simp⟩) S0 ?_
      simp only [List.getElem_toArray, List.getElem_cons_zero, List.getElem_cons_succ, Act.put, List.setIfInBounds_toArray, List.set_cons_zero, List.set_cons_succ]
      refine late_take (i := 8) (v := .int .i64 (k : Int)) rfl (by kernel_rfl) (by kernel_rfl) (by kernel_rfl) (by kernel_rfl) (fun _ _ _ h => h) (ldV_if rfl 3 Tryz.isAgg3 (.tmp 42) rfl ⟨ge, 1, none⟩ rfl (fun w' h => h.cell' c1)) S0 ?_
      simp only [List.getElem_toArray, List.getElem_cons_zero, List.getElem_cons_succ, Act.put, List.setIfInBounds_toArray, List.set_cons_zero, List.set_cons_succ]
      refine late_take (i := 9) (v := .pointer (some ⟨b2, o2, none⟩)) rfl (by kernel_rfl) (by kernel_rfl) (by kernel_rfl) (by kernel_rfl) (fun _ _ _ h => h) (ixV_if rfl 110 (.tmp 41) (.tmp 43) rfl _ _ _ rfl rfl i2) S0 ?_
      simp only [List.getElem_toArray, List.getElem_cons_zero, List.getElem_cons_succ, Act.put, List.setIfInBounds_toArray, List.set_cons_zero, List.set_cons_succ]
      refine late_take (i := 10) (v := .pointer (some ⟨b2, o2 + 1, none⟩)) rfl (by kernel_rfl) (by kernel_rfl) (by kernel_rfl) (by kernel_rfl) (fun _ _ _ h => h) (Or.inl ⟨rfl, fun _ _ => by go_simp⟩) S0 ?_
      simp only [List.getElem_toArray, List.getElem_cons_zero, List.getElem_cons_succ, Act.put, List.setIfInBounds_toArray, List.set_cons_zero, List.set_cons_succ]
      refine late_take (i := 11) (v := .slice (some ⟨k2, 0, none⟩) 24 cc2) rfl (by kernel_rfl) (by kernel_rfl) (by kernel_rfl) (by kernel_rfl) (fun _ _ _ h => h) (ldV_if rfl 43 Tryz.isAgg43 (.tmp 45) rfl ⟨b2, o2 + 1, none⟩ rfl (fun w' h => H3.out _ (N0.trans h) 1 _ rfl)) S0 ?_
      simp only [List.getElem_toArray, List.getElem_cons_zero, List.getElem_cons_succ, Act.put, List.setIfInBounds_toArray, List.set_cons_zero, List.set_cons_succ]
      refine late_take (i := 12) (v := .int .i64 (l : Int)) rfl (by kernel_rfl) (by kernel_rfl) (by kernel_rfl) (by kernel_rfl) (fun _ _ _ h => h) (Or.inl ⟨rfl, fun _ _ => by go_simp⟩) S0 ?_
      simp only [List.getElem_toArray, List.getElem_cons_zero, List.getElem_cons_succ, Act.put, List.setIfInBounds_toArray, List.set_cons_zero, List.set_cons_succ]
      refine late_take (i := 13) (v := .pointer (some ⟨b3, o3, none⟩)) rfl (by kernel_rfl) (by kernel_rfl) (by kernel_rfl) (by kernel_rfl) (fun _ _ _ h => h) (ixV_if rfl 43 (.tmp 46) (.tmp 47) rfl _ _ _ rfl rfl i3) S0 ?_
      simp only [List.getElem_toArray, List.getElem_cons_zero, List.getElem_cons_succ, Act.put, List.setIfInBounds_toArray, List.set_cons_zero, List.set_cons_succ]
      refine late_take (i := 14) (v := .agg #[.int .i64 0, .int .i64 m]) rfl (by kernel_rfl) (by kernel_rfl) (by kernel_rfl) (by kernel_rfl) (fun _ _ _ h => h) (yieldsIf_load_mid (by rfl) _ _ rfl b3 o3 rfl [.int .i64 0, .int .i64 m] _ (fun w' h => H4.out _ (N0.trans h)) Tryz.underlying113 rfl infoSo) S0 ?_
      simp only [List.getElem_toArray, List.getElem_cons_zero, List.getElem_cons_succ, Act.put, List.setIfInBounds_toArray, List.set_cons_zero, List.set_cons_succ]
      refine late_forced [15, 16] _ _ _ (by kernel_rfl) ?_
      have hS := HS.out.go S0
      refine LL_val (v := .pointer (some ⟨wc.drew.heap.size, 0, none⟩)) rfl rfl (run_alO 113 rfl _ zeroSo_run _ _) (S0.trans (alloc_new _ _)) ?_
      simp only [List.getElem_toArray, List.getElem_cons_zero, List.getElem_cons_succ, Act.put, List.setIfInBounds_toArray, List.set_cons_zero, List.set_cons_succ]
      have hS2 := hS.new (g := wc.drew.heap.size) (ty := 113) (cs := [.int .i64 0, .int .i64 0]) (alloc_new wc.drew (.cells #[.int .i64 0, .int .i64 0] 113)) (Nat.le_refl _) (HasC.box wc.drew _ [.int .i64 0, .int .i64 0])
      obtain ⟨gx, hgx⟩ : ∃ gx, wc.drew.heap.size = gx := ⟨_, rfl⟩
      rw [hgx] at hS2
      have hcs : (Value.agg #[.int .i64 0, .int .i64 0]).cells = #[.int .i64 0, .int .i64 0] := rfl
      rw [hcs, hgx]
      generalize wc.drew.alloc (.cells #[.int .i64 0, .int .i64 0] 113) = wd at hS2 ⊢
      have hst : (Instr.storeAt 113 (.pointer (some ⟨gx, 0, none⟩)) (.agg #[.int .i64 0, .int .i64 m])).run Tryz.prog wd = .ok () (putO wd gx (.cells ([.int .i64 0, .int .i64 m] : List Value).toArray 113 (0, 0))) := HasC.store (hS2.has 0 rfl) 0 [.int .i64 0, .int .i64 m] 113 (.agg #[.int .i64 0, .int .i64 m]) rfl (by simp) (by simp [Value.oneCell']) infoSo
      refine LL_skip rfl rfl rfl (run_stO 113 (.tmp 10) (.tmp 49) rfl rfl rfl hst) (fun h => absurd rfl h) ?_
      have hfin := hS2.setAt 0 rfl (Kept.put wd gx (.cells ([.int .i64 0, .int .i64 m] : List Value).toArray 113 (0, 0))) (HasC.put (hS2.has 0 rfl) _)
      refine NoPanic.normal ?_
      clear hst
      generalize putO wd gx (.cells ([.int .i64 0, .int .i64 m] : List Value).toArray 113 (0, 0)) = we at hfin ⊢
      replace HS := Lib.hid hfin
      have x0 := HS.out.cell 0 rfl (k := 0) rfl
      have x1 := HS.out.cell 0 rfl (k := 1) rfl
      have c0 := HS.out.cell 2 rfl (k := 0) rfl
      have cn := HS.out.cell 3 rfl (k := 2) rfl
      have y1 := H1.out _ HS.out.nw
      clear hfin hS hS2 S0 N0 hgx hcs
      have V1 : Hid True := Lib.hid trivial
      have V2 : Hid True := Lib.hid trivial
      have V3 : Hid True := Lib.hid trivial
      have V4 : Hid True := Lib.hid trivial
      go_wp2_with (first
        | (clear V1; refine wpList_ldEG rfl (.tmp 65) rfl fb fp rfl (x := i0) (H5.out _ HS.out.nw) ?_)
        | (clear V2; go_at_call 42; refine (HSE.out _).mono ?_; rintro e w7 ⟨rfl, hn⟩; replace HS := Lib.hid (HS.out.go hn); clear hn x0 x1 c0 cn y1; have x1 := HS.out.cell 0 rfl (k := 1) rfl)
        | (clear V3; refine wpList_bd2 (a := .int .i64 4) (b := .int .i64 m) rfl 39 0 1 (.const (.int .i64 4)) (.tmp 79) rfl rfl rfl (build_Sr2 4 m) ?_)
        | (clear V4; refine wpList_stSW 1 rfl rfl 39 (.tmp 8) (.tmp 80) rfl gr rfl _ rfl HS.out rfl (srcK (4, m)) rfl rfl (srcK_one _) infoSr ?_; intro wg hs; replace HS := Lib.hid hs; clear hs))
      exact bodyPost_ret (resSr _ rfl _ _ gr _ rfl (HS.out.has 1 rfl)) rfl ⟨rfl, HS.out.nw⟩
    | true =>
      rw [hq] at hse
      have HSE := Lib.hid hse
      clear hse
      by_cases hd : i0.d = m
      · rw [if_pos ⟨rfl, hd⟩]
        have q2 : (i0.d == m) = true := beq_of hd
        clear hd
        have T1 : Hid True := Lib.hid trivial
        have T2 : Hid True := Lib.hid trivial
        have T3 : Hid True := Lib.hid trivial
        go_enter Tryz.func16, Tryz.ntmps16
        go_wp2_with (first
          | (clear T1; refine wpList_boxB rfl 48 (.tmp 1) rfl (rsC s.entry.1 (.slice (some ⟨kt, 0, none⟩) 24 ct) (.slice na N nc)) rfl HS.out ?_; intro wa gb hs; replace HS := Lib.hid hs; clear hs)
          | (clear T2; refine wpList_boxB rfl 42 (.tmp 2) rfl [.int .i64 (j : Int), .int .i64 (k : Int)] rfl HS.out ?_; intro wb ge hs; replace HS := Lib.hid hs; clear hs)
          | (clear T3; refine wpList_alB rfl 39 rfl _ zeroSr_run _ rfl HS.out ?_; intro wc gr hs; replace HS := Lib.hid hs; have c0 := HS.out.cell 1 rfl (k := 0) rfl; have c1 := HS.out.cell 1 rfl (k := 1) rfl; have cn := HS.out.cell 2 rfl (k := 2) rfl; have ct1 := HS.out.cell 2 rfl (k := 1) rfl; clear hs))
        have S0 : New wc wc.drew := (New.refl wc).drew
        have N0 : New w wc := HS.out.nw
        refine wp_region_noPanic ?_
        refine region_late (k := 16) (S := fun w' => New wc w') (by kernel_rfl) S0 (fun _ => ?_)
        refine late_take (i := 0) (v := .pointer (some ⟨gb, 2, none⟩)) rfl (by kernel_rfl) (by kernel_rfl) (by kernel_rfl) (by kernel_rfl) (fun _ _ _ h => h) (Or.inl ⟨rfl, fun _ _ => by go_simp⟩) S0 ?_
        simp only [List.getElem_toArray, List.getElem_cons_zero, Act.put, List.setIfInBounds_toArray, List.set_cons_zero, List.set_cons_succ]
        refine late_take (i := 1) (v := .slice na N nc) rfl (by kernel_rfl) (by kernel_rfl) (by kernel_rfl) (by kernel_rfl) (fun _ _ _ h => h) (ldV_if rfl 46 Tryz.isAgg46 (.tmp 35) rfl ⟨gb, 2, none⟩ rfl (fun w' h => h.cell' cn)) S0 ?_
        simp only [List.getElem_toArray, List.getElem_cons_zero, List.getElem_cons_succ, Act.put, List.setIfInBounds_toArray, List.set_cons_zero, List.set_cons_succ]
        refine late_take (i := 2) (v := .pointer (some ⟨ge, 0, none⟩)) rfl (by kernel_rfl) (by kernel_rfl) (by kernel_rfl) (by kernel_rfl) (fun _ _ _ h => h) (Or.inl ⟨rfl, fun _ _ => by go_simp⟩) S0 ?_
        simp only [List.getElem_toArray, List.getElem_cons_zero, List.getElem_cons_succ, Act.put, List.setIfInBounds_toArray, List.set_cons_zero, List.set_cons_succ]
        refine late_take (i := 3) (v := .int .i64 (j : Int)) rfl (by kernel_rfl) (by kernel_rfl) (by kernel_rfl) (by kernel_rfl) (fun _ _ _ h => h) (ldV_if rfl 3 Tryz.isAgg3 (.tmp 37) rfl ⟨ge, 0, none⟩ rfl (fun w' h => h.cell' c0)) S0 ?_
        simp only [List.getElem_toArray, List.getElem_cons_zero, List.getElem_cons_succ, Act.put, List.setIfInBounds_toArray, List.set_cons_zero, List.set_cons_succ]
        refine late_take (i := 4) (v := .pointer (some ⟨b1, o1, none⟩)) rfl (by kernel_rfl) (by kernel_rfl) (by kernel_rfl) (by kernel_rfl) (fun _ _ _ h => h) (ixV_if rfl 46 (.tmp 36) (.tmp 38) rfl _ _ _ rfl rfl i1) S0 ?_
        simp only [List.getElem_toArray, List.getElem_cons_zero, List.getElem_cons_succ, Act.put, List.setIfInBounds_toArray, List.set_cons_zero, List.set_cons_succ]
        refine late_take (i := 5) (v := .pointer (some ⟨b1, o1 + 1, none⟩)) rfl (by kernel_rfl) (by kernel_rfl) (by kernel_rfl) (by kernel_rfl) (fun _ _ _ h => h) (Or.inl ⟨rfl, fun _ _ => by go_simp⟩) S0 ?_
        simp only [List.getElem_toArray, List.getElem_cons_zero, List.getElem_cons_succ, Act.put, List.setIfInBounds_toArray, List.set_cons_zero, List.set_cons_succ]
        refine late_take (i := 6) (v := .slice oa K oc) rfl (by kernel_rfl) (by kernel_rfl) (by kernel_rfl) (by kernel_rfl) (fun _ _ _ h => h) (ldV_if rfl 110 Tryz.isAgg110 (.tmp 40) rfl ⟨b1, o1 + 1, none⟩ rfl (fun w' h => H2.out _ (N0.trans h))) S0 ?_
        simp only [List.getElem_toArray, List.getElem_cons_zero, List.getElem_cons_succ, Act.put, List.setIfInBounds_toArray, List.set_cons_zero, List.set_cons_succ]
        refine late_take (i := 7) (v := .pointer (some ⟨ge, 1, none⟩)) rfl (by kernel_rfl) (by kernel_rfl) (by kernel_rfl) (by kernel_rfl) (fun _ _ _ h => h) (Or.inl ⟨rfl, fun _ _ => by go_simp⟩) S0 ?_
        simp only [List.getElem_toArray, List.getElem_cons_zero, List.getElem_cons_succ, Act.put, List.setIfInBounds_toArray, List.set_cons_zero, List.set_cons_succ]
        refine late_take (i := 8) (v := .int .i64 (k : Int)) rfl (by kernel_rfl) (by kernel_rfl) (by kernel_rfl) (by kernel_rfl) (fun _ _ _ h => h) (ldV_if rfl 3 Tryz.isAgg3 (.tmp 42) rfl ⟨ge, 1, none⟩ rfl (fun w' h => h.cell' c1)) S0 ?_
        simp only [List.getElem_toArray, List.getElem_cons_zero, List.getElem_cons_succ, Act.put, List.setIfInBounds_toArray, List.set_cons_zero, List.set_cons_succ]
        refine late_take (i := 9) (v := .pointer (some ⟨b2, o2, none⟩)) rfl (by kernel_rfl) (by kernel_rfl) (by kernel_rfl) (by kernel_rfl) (fun _ _ _ h => h) (ixV_if rfl 110 (.tmp 41) (.tmp 43) rfl _ _ _ rfl rfl i2) S0 ?_
        simp only [List.getElem_toArray, List.getElem_cons_zero, List.getElem_cons_succ, Act.put, List.setIfInBounds_toArray, List.set_cons_zero, List.set_cons_succ]
        refine late_take (i := 10) (v := .pointer (some ⟨b2, o2 + 1, none⟩)) rfl (by kernel_rfl) (by kernel_rfl) (by kernel_rfl) (by kernel_rfl) (fun _ _ _ h => h) (Or.inl ⟨rfl, fun _ _ => by go_simp⟩) S0 ?_
        simp only [List.getElem_toArray, List.getElem_cons_zero, List.getElem_cons_succ, Act.put, List.setIfInBounds_toArray, List.set_cons_zero, List.set_cons_succ]
        refine late_take (i := 11) (v := .slice (some ⟨k2, 0, none⟩) 24 cc2) rfl (by kernel_rfl) (by kernel_rfl) (by kernel_rfl) (by kernel_rfl) (fun _ _ _ h => h) (ldV_if rfl 43 Tryz.isAgg43 (.tmp 45) rfl ⟨b2, o2 + 1, none⟩ rfl (fun w' h => H3.out _ (N0.trans h) 1 _ rfl)) S0 ?_
        simp only [List.getElem_toArray, List.getElem_cons_zero, List.getElem_cons_succ, Act.put, List.setIfInBounds_toArray, List.set_cons_zero, List.set_cons_succ]
        refine late_take (i := 12) (v := .int .i64 (l : Int)) rfl (by kernel_rfl) (by kernel_rfl) (by kernel_rfl) (by kernel_rfl) (fun _ _ _ h => h) (Or.inl ⟨rfl, fun _ _ => by go_simp⟩) S0 ?_
        simp only [List.getElem_toArray, List.getElem_cons_zero, List.getElem_cons_succ, Act.put, List.setIfInBounds_toArray, List.set_cons_zero, List.set_cons_succ]
        refine late_take (i := 13) (v := .pointer (some ⟨b3, o3, none⟩)) rfl (by kernel_rfl) (by kernel_rfl) (by kernel_rfl) (by kernel_rfl) (fun _ _ _ h => h) (ixV_if rfl 43 (.tmp 46) (.tmp 47) rfl _ _ _ rfl rfl i3) S0 ?_
        simp only [List.getElem_toArray, List.getElem_cons_zero, List.getElem_cons_succ, Act.put, List.setIfInBounds_toArray, List.set_cons_zero, List.set_cons_succ]
        refine late_take (i := 14) (v := .agg #[.int .i64 0, .int .i64 m]) rfl (by kernel_rfl) (by kernel_rfl) (by kernel_rfl) (by kernel_rfl) (fun _ _ _ h => h) (yieldsIf_load_mid (by rfl) _ _ rfl b3 o3 rfl [.int .i64 0, .int .i64 m] _ (fun w' h => H4.out _ (N0.trans h)) Tryz.underlying113 rfl infoSo) S0 ?_
        simp only [List.getElem_toArray, List.getElem_cons_zero, List.getElem_cons_succ, Act.put, List.setIfInBounds_toArray, List.set_cons_zero, List.set_cons_succ]
        refine late_forced [15, 16] _ _ _ (by kernel_rfl) ?_
        have hS := HS.out.go S0
        refine LL_val (v := .pointer (some ⟨wc.drew.heap.size, 0, none⟩)) rfl rfl (run_alO 113 rfl _ zeroSo_run _ _) (S0.trans (alloc_new _ _)) ?_
        simp only [List.getElem_toArray, List.getElem_cons_zero, List.getElem_cons_succ, Act.put, List.setIfInBounds_toArray, List.set_cons_zero, List.set_cons_succ]
        have hS2 := hS.new (g := wc.drew.heap.size) (ty := 113) (cs := [.int .i64 0, .int .i64 0]) (alloc_new wc.drew (.cells #[.int .i64 0, .int .i64 0] 113)) (Nat.le_refl _) (HasC.box wc.drew _ [.int .i64 0, .int .i64 0])
        obtain ⟨gx, hgx⟩ : ∃ gx, wc.drew.heap.size = gx := ⟨_, rfl⟩
        rw [hgx] at hS2
        have hcs : (Value.agg #[.int .i64 0, .int .i64 0]).cells = #[.int .i64 0, .int .i64 0] := rfl
        rw [hcs, hgx]
        generalize wc.drew.alloc (.cells #[.int .i64 0, .int .i64 0] 113) = wd at hS2 ⊢
        have hst : (Instr.storeAt 113 (.pointer (some ⟨gx, 0, none⟩)) (.agg #[.int .i64 0, .int .i64 m])).run Tryz.prog wd = .ok () (putO wd gx (.cells ([.int .i64 0, .int .i64 m] : List Value).toArray 113 (0, 0))) := HasC.store (hS2.has 0 rfl) 0 [.int .i64 0, .int .i64 m] 113 (.agg #[.int .i64 0, .int .i64 m]) rfl (by simp) (by simp [Value.oneCell']) infoSo
        refine LL_skip rfl rfl rfl (run_stO 113 (.tmp 10) (.tmp 49) rfl rfl rfl hst) (fun h => absurd rfl h) ?_
        have hfin := hS2.setAt 0 rfl (Kept.put wd gx (.cells ([.int .i64 0, .int .i64 m] : List Value).toArray 113 (0, 0))) (HasC.put (hS2.has 0 rfl) _)
        refine NoPanic.normal ?_
        clear hst
        generalize putO wd gx (.cells ([.int .i64 0, .int .i64 m] : List Value).toArray 113 (0, 0)) = we at hfin ⊢
        replace HS := Lib.hid hfin
        have x0 := HS.out.cell 0 rfl (k := 0) rfl
        have x1 := HS.out.cell 0 rfl (k := 1) rfl
        have c0 := HS.out.cell 2 rfl (k := 0) rfl
        have cn := HS.out.cell 3 rfl (k := 2) rfl
        have y1 := H1.out _ HS.out.nw
        clear hfin hS hS2 S0 N0 hgx hcs
        have V1 : Hid True := Lib.hid trivial
        have V2 : Hid True := Lib.hid trivial
        have V3 : Hid True := Lib.hid trivial
        have V4 : Hid True := Lib.hid trivial
        go_wp2_with (first
          | (clear V1; refine wpList_ldEG rfl (.tmp 65) rfl fb fp rfl (x := i0) (H5.out _ HS.out.nw) ?_)
          | (clear V2; go_at_call 42; refine (HSE.out _).mono ?_; rintro e w7 ⟨rfl, hn⟩; replace HS := Lib.hid (HS.out.go hn); clear hn x0 x1 c0 cn y1; have x1 := HS.out.cell 0 rfl (k := 1) rfl)
          | (clear V3; refine wpList_bd1 (a := .int .i64 3) rfl 39 0 (.const (.int .i64 3)) rfl rfl (build_Sr1 3) ?_)
          | (clear V4; refine wpList_stSW 1 rfl rfl 39 (.tmp 8) (.tmp 77) rfl gr rfl _ rfl HS.out rfl (srcK (3, 0)) rfl rfl (srcK_one _) infoSr ?_; intro wg hs; replace HS := Lib.hid hs; clear hs))
        exact bodyPost_ret (resSr _ rfl _ _ gr _ rfl (HS.out.has 1 rfl)) rfl ⟨rfl, HS.out.nw⟩
      · rw [if_neg (fun e => hd e.2)]
        have q2 : (i0.d == m) = false := bneq_of hd
        clear hd
        have T1 : Hid True := Lib.hid trivial
        have T2 : Hid True := Lib.hid trivial
        have T3 : Hid True := Lib.hid trivial
        go_enter Tryz.func16, Tryz.ntmps16
        go_wp2_with (first
          | (clear T1; refine wpList_boxB rfl 48 (.tmp 1) rfl (rsC s.entry.1 (.slice (some ⟨kt, 0, none⟩) 24 ct) (.slice na N nc)) rfl HS.out ?_; intro wa gb hs; replace HS := Lib.hid hs; clear hs)
          | (clear T2; refine wpList_boxB rfl 42 (.tmp 2) rfl [.int .i64 (j : Int), .int .i64 (k : Int)] rfl HS.out ?_; intro wb ge hs; replace HS := Lib.hid hs; clear hs)
          | (clear T3; refine wpList_alB rfl 39 rfl _ zeroSr_run _ rfl HS.out ?_; intro wc gr hs; replace HS := Lib.hid hs; have c0 := HS.out.cell 1 rfl (k := 0) rfl; have c1 := HS.out.cell 1 rfl (k := 1) rfl; have cn := HS.out.cell 2 rfl (k := 2) rfl; have ct1 := HS.out.cell 2 rfl (k := 1) rfl; clear hs))
        have S0 : New wc wc.drew := (New.refl wc).drew
        have N0 : New w wc := HS.out.nw
        refine wp_region_noPanic ?_
        refine region_late (k := 16) (S := fun w' => New wc w') (by kernel_rfl) S0 (fun _ => ?_)
        refine late_take (i := 0) (v := .pointer (some ⟨gb, 2, none⟩)) rfl (by kernel_rfl) (by kernel_rfl) (by kernel_rfl) (by kernel_rfl) (fun _ _ _ h => h) (Or.inl ⟨rfl, fun _ _ => by go_simp⟩) S0 ?_
        simp only [List.getElem_toArray, List.getElem_cons_zero, Act.put, List.setIfInBounds_toArray, List.set_cons_zero, List.set_cons_succ]
        refine late_take (i := 1) (v := .slice na N nc) rfl (by kernel_rfl) (by kernel_rfl) (by kernel_rfl) (by kernel_rfl) (fun _ _ _ h => h) (ldV_if rfl 46 Tryz.isAgg46 (.tmp 35) rfl ⟨gb, 2, none⟩ rfl (fun w' h => h.cell' cn)) S0 ?_
        simp only [List.getElem_toArray, List.getElem_cons_zero, List.getElem_cons_succ, Act.put, List.setIfInBounds_toArray, List.set_cons_zero, List.set_cons_succ]
        refine late_take (i := 2) (v := .pointer (some ⟨ge, 0, none⟩)) rfl (by kernel_rfl) (by kernel_rfl) (by kernel_rfl) (by kernel_rfl) (fun _ _ _ h => h) (Or.inl ⟨rfl, fun _ _ => by go_simp⟩) S0 ?_
        simp only [List.getElem_toArray, List.getElem_cons_zero, List.getElem_cons_succ, Act.put, List.setIfInBounds_toArray, List.set_cons_zero, List.set_cons_succ]
        refine late_take (i := 3) (v := .int .i64 (j : Int)) rfl (by kernel_rfl) (by kernel_rfl) (by kernel_rfl) (by kernel_rfl) (fun _ _ _ h => h) (ldV_if rfl 3 Tryz.isAgg3 (.tmp 37) rfl ⟨ge, 0, none⟩ rfl (fun w' h => h.cell' c0)) S0 ?_
        simp only [List.getElem_toArray, List.getElem_cons_zero, List.getElem_cons_succ, Act.put, List.setIfInBounds_toArray, List.set_cons_zero, List.set_cons_succ]
        refine late_take (i := 4) (v := .pointer (some ⟨b1, o1, none⟩)) rfl (by kernel_rfl) (by kernel_rfl) (by kernel_rfl) (by kernel_rfl) (fun _ _ _ h => h) (ixV_if rfl 46 (.tmp 36) (.tmp 38) rfl _ _ _ rfl rfl i1) S0 ?_
        simp only [List.getElem_toArray, List.getElem_cons_zero, List.getElem_cons_succ, Act.put, List.setIfInBounds_toArray, List.set_cons_zero, List.set_cons_succ]
        refine late_take (i := 5) (v := .pointer (some ⟨b1, o1 + 1, none⟩)) rfl (by kernel_rfl) (by kernel_rfl) (by kernel_rfl) (by kernel_rfl) (fun _ _ _ h => h) (Or.inl ⟨rfl, fun _ _ => by go_simp⟩) S0 ?_
        simp only [List.getElem_toArray, List.getElem_cons_zero, List.getElem_cons_succ, Act.put, List.setIfInBounds_toArray, List.set_cons_zero, List.set_cons_succ]
        refine late_take (i := 6) (v := .slice oa K oc) rfl (by kernel_rfl) (by kernel_rfl) (by kernel_rfl) (by kernel_rfl) (fun _ _ _ h => h) (ldV_if rfl 110 Tryz.isAgg110 (.tmp 40) rfl ⟨b1, o1 + 1, none⟩ rfl (fun w' h => H2.out _ (N0.trans h))) S0 ?_
        simp only [List.getElem_toArray, List.getElem_cons_zero, List.getElem_cons_succ, Act.put, List.setIfInBounds_toArray, List.set_cons_zero, List.set_cons_succ]
        refine late_take (i := 7) (v := .pointer (some ⟨ge, 1, none⟩)) rfl (by kernel_rfl) (by kernel_rfl) (by kernel_rfl) (by kernel_rfl) (fun _ _ _ h => h) (Or.inl ⟨rfl, fun _ _ => by go_simp⟩) S0 ?_
        simp only [List.getElem_toArray, List.getElem_cons_zero, List.getElem_cons_succ, Act.put, List.setIfInBounds_toArray, List.set_cons_zero, List.set_cons_succ]
        refine late_take (i := 8) (v := .int .i64 (k : Int)) rfl (by kernel_rfl) (by kernel_rfl) (by kernel_rfl) (by kernel_rfl) (fun _ _ _ h => h) (ldV_if rfl 3 Tryz.isAgg3 (.tmp 42) rfl ⟨ge, 1, none⟩ rfl (fun w' h => h.cell' c1)) S0 ?_
        simp only [List.getElem_toArray, List.getElem_cons_zero, List.getElem_cons_succ, Act.put, List.setIfInBounds_toArray, List.set_cons_zero, List.set_cons_succ]
        refine late_take (i := 9) (v := .pointer (some ⟨b2, o2, none⟩)) rfl (by kernel_rfl) (by kernel_rfl) (by kernel_rfl) (by kernel_rfl) (fun _ _ _ h => h) (ixV_if rfl 110 (.tmp 41) (.tmp 43) rfl _ _ _ rfl rfl i2) S0 ?_
        simp only [List.getElem_toArray, List.getElem_cons_zero, List.getElem_cons_succ, Act.put, List.setIfInBounds_toArray, List.set_cons_zero, List.set_cons_succ]
        refine late_take (i := 10) (v := .pointer (some ⟨b2, o2 + 1, none⟩)) rfl (by kernel_rfl) (by kernel_rfl) (by kernel_rfl) (by kernel_rfl) (fun _ _ _ h => h) (Or.inl ⟨rfl, fun _ _ => by go_simp⟩) S0 ?_
        simp only [List.getElem_toArray, List.getElem_cons_zero, List.getElem_cons_succ, Act.put, List.setIfInBounds_toArray, List.set_cons_zero, List.set_cons_succ]
        refine late_take (i := 11) (v := .slice (some ⟨k2, 0, none⟩) 24 cc2) rfl (by kernel_rfl) (by kernel_rfl) (by kernel_rfl) (by kernel_rfl) (fun _ _ _ h => h) (ldV_if rfl 43 Tryz.isAgg43 (.tmp 45) rfl ⟨b2, o2 + 1, none⟩ rfl (fun w' h => H3.out _ (N0.trans h) 1 _ rfl)) S0 ?_
        simp only [List.getElem_toArray, List.getElem_cons_zero, List.getElem_cons_succ, Act.put, List.setIfInBounds_toArray, List.set_cons_zero, List.set_cons_succ]
        refine late_take (i := 12) (v := .int .i64 (l : Int)) rfl (by kernel_rfl) (by kernel_rfl) (by kernel_rfl) (by kernel_rfl) (fun _ _ _ h => h) (Or.inl ⟨rfl, fun _ _ => by go_simp⟩) S0 ?_
        simp only [List.getElem_toArray, List.getElem_cons_zero, List.getElem_cons_succ, Act.put, List.setIfInBounds_toArray, List.set_cons_zero, List.set_cons_succ]
        refine late_take (i := 13) (v := .pointer (some ⟨b3, o3, none⟩)) rfl (by kernel_rfl) (by kernel_rfl) (by kernel_rfl) (by kernel_rfl) (fun _ _ _ h => h) (ixV_if rfl 43 (.tmp 46) (.tmp 47) rfl _ _ _ rfl rfl i3) S0 ?_
        simp only [List.getElem_toArray, List.getElem_cons_zero, List.getElem_cons_succ, Act.put, List.setIfInBounds_toArray, List.set_cons_zero, List.set_cons_succ]
        refine late_take (i := 14) (v := .agg #[.int .i64 0, .int .i64 m]) rfl (by kernel_rfl) (by kernel_rfl) (by kernel_rfl) (by kernel_rfl) (fun _ _ _ h => h) (yieldsIf_load_mid (by rfl) _ _ rfl b3 o3 rfl [.int .i64 0, .int .i64 m] _ (fun w' h => H4.out _ (N0.trans h)) Tryz.underlying113 rfl infoSo) S0 ?_
        simp only [List.getElem_toArray, List.getElem_cons_zero, List.getElem_cons_succ, Act.put, List.setIfInBounds_toArray, List.set_cons_zero, List.set_cons_succ]
        refine late_forced [15, 16] _ _ _ (by kernel_rfl) ?_
        have hS := HS.out.go S0
        refine LL_val (v := .pointer (some ⟨wc.drew.heap.size, 0, none⟩)) rfl rfl (run_alO 113 rfl _ zeroSo_run _ _) (S0.trans (alloc_new _ _)) ?_
        simp only [List.getElem_toArray, List.getElem_cons_zero, List.getElem_cons_succ, Act.put, List.setIfInBounds_toArray, List.set_cons_zero, List.set_cons_succ]
        have hS2 := hS.new (g := wc.drew.heap.size) (ty := 113) (cs := [.int .i64 0, .int .i64 0]) (alloc_new wc.drew (.cells #[.int .i64 0, .int .i64 0] 113)) (Nat.le_refl _) (HasC.box wc.drew _ [.int .i64 0, .int .i64 0])
        obtain ⟨gx, hgx⟩ : ∃ gx, wc.drew.heap.size = gx := ⟨_, rfl⟩
        rw [hgx] at hS2
        have hcs : (Value.agg #[.int .i64 0, .int .i64 0]).cells = #[.int .i64 0, .int .i64 0] := rfl
        rw [hcs, hgx]
        generalize wc.drew.alloc (.cells #[.int .i64 0, .int .i64 0] 113) = wd at hS2 ⊢
        have hst : (Instr.storeAt 113 (.pointer (some ⟨gx, 0, none⟩)) (.agg #[.int .i64 0, .int .i64 m])).run Tryz.prog wd = .ok () (putO wd gx (.cells ([.int .i64 0, .int .i64 m] : List Value).toArray 113 (0, 0))) := HasC.store (hS2.has 0 rfl) 0 [.int .i64 0, .int .i64 m] 113 (.agg #[.int .i64 0, .int .i64 m]) rfl (by simp) (by simp [Value.oneCell']) infoSo
        refine LL_skip rfl rfl rfl (run_stO 113 (.tmp 10) (.tmp 49) rfl rfl rfl hst) (fun h => absurd rfl h) ?_
        have hfin := hS2.setAt 0 rfl (Kept.put wd gx (.cells ([.int .i64 0, .int .i64 m] : List Value).toArray 113 (0, 0))) (HasC.put (hS2.has 0 rfl) _)
        refine NoPanic.normal ?_
        clear hst
        generalize putO wd gx (.cells ([.int .i64 0, .int .i64 m] : List Value).toArray 113 (0, 0)) = we at hfin ⊢
        replace HS := Lib.hid hfin
        have x0 := HS.out.cell 0 rfl (k := 0) rfl
        have x1 := HS.out.cell 0 rfl (k := 1) rfl
        have c0 := HS.out.cell 2 rfl (k := 0) rfl
        have cn := HS.out.cell 3 rfl (k := 2) rfl
        have y1 := H1.out _ HS.out.nw
        clear hfin hS hS2 S0 N0 hgx hcs
        have V1 : Hid True := Lib.hid trivial
        have V2 : Hid True := Lib.hid trivial
        have V3 : Hid True := Lib.hid trivial
        have V4 : Hid True := Lib.hid trivial
        go_wp2_with (first
          | (clear V1; refine wpList_ldEG rfl (.tmp 65) rfl fb fp rfl (x := i0) (H5.out _ HS.out.nw) ?_)
          | (clear V2; go_at_call 42; refine (HSE.out _).mono ?_; rintro e w7 ⟨rfl, hn⟩; replace HS := Lib.hid (HS.out.go hn); clear hn x0 x1 c0 cn y1; have x1 := HS.out.cell 0 rfl (k := 1) rfl)
          | (clear V3; refine wpList_bd2 (a := .int .i64 4) (b := .int .i64 m) rfl 39 0 1 (.const (.int .i64 4)) (.tmp 79) rfl rfl rfl (build_Sr2 4 m) ?_)
          | (clear V4; refine wpList_stSW 1 rfl rfl 39 (.tmp 8) (.tmp 80) rfl gr rfl _ rfl HS.out rfl (srcK (4, m)) rfl rfl (srcK_one _) infoSr ?_; intro wg hs; replace HS := Lib.hid hs; clear hs))
        exact bodyPost_ret (resSr _ rfl _ _ gr _ rfl (HS.out.has 1 rfl)) rfl ⟨rfl, HS.out.nw⟩
theorem rby_any {fv : Value} {f : List I} {s : Skl} {kt ct : Nat} {na : Option Addr} {nc N : Nat} {e : Ed} {l : Nat} {w : World} (h : RefS w s kt ct na nc N) (hf : FunAt w fv f) (hi : InS f s) (hl : l < 24) (he : hasE s e) :
    Calls Tryz.prog 16 #[fv, rsV s kt ct na nc N, .agg #[.int .i64 e.1, .int .i64 e.2], .int .i64 (l : Int)] w fun r w' => r = .returned (.agg (srcK (byA f s e l)).toArray) ∧ New w w' := by
  obtain ⟨fo, fc, rfl⟩ := hf.form
  rcases he with ⟨h1, h2⟩ | ⟨j, k, y, rfl, h1, h2⟩
  · unfold byA
    rw [if_pos h1, h1, h2]
    exact rby_e l _ h hl (good_at h.g.e hl) rfl
  · have hz : y.2[k]? = some y.2[k] := List.getElem?_eq_getElem h2
    have hm := List.mem_of_getElem? h1
    obtain ⟨p0, p1⟩ := hi y hm
    obtain ⟨p, hp⟩ : ∃ p : Nat, y.1 = (p : Int) := ⟨y.1.toNat, by omega⟩
    have hg := good_at (h.g.o y hm _ (List.getElem_mem h2)) hl
    have hb : byA f s ((j : Int), (k : Int)) l = if (y.2[k].2 l).1 = 1 then (2, (y.2[k].2 l).2) else if setsB (insA f (p : Int)).op = true ∧ (insA f (p : Int)).d = (y.2[k].2 l).2 then (3, 0) else (4, (y.2[k].2 l).2) := by
      have h3 : s.nodes.getD j (0, []) = y := by rw [List.getD_eq_getElem?_getD, h1]; rfl
      have ho : outN s j k = y.2[k] := by
        unfold outN
        rw [h3, List.getD_eq_getElem?_getD, hz]
        rfl
      have ha : atN s j = (p : Int) := by unfold atN; rw [h3, hp]
      unfold byA
      rw [if_neg (show ¬ ((j : Int), (k : Int)).1 = -1 by show ¬ (j : Int) = -1; omega)]
      simp only [Int.toNat_natCast, ho, ha]
    rw [hb]
    exact rby_n j k y y.2[k] p l _ h hl hg rfl h1 hz hp (by omega) hf
end Go.Proofs.YtphopkjgfkaihaaGreatDoor
