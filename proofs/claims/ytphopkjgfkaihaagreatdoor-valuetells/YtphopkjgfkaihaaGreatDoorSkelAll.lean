/-
  Layer 10: what a skeleton owns in memory; the contract of skel.nexts: the places from which a node's ways go.
  Layer 10: maps that number places; what a skeleton owns; the contract of Build's closure, which lays a way.
  Layer 10 in plain words: a skeleton while it is being built: nodes met so far, the first k of them with their ways. No program stands in this text.
  Layer 10: the contract of skel.Build where the function is right.
  Layer 10 in plain words: the ways to each node while they are being collected. No program stands in this text.
  Layer 10: the contract of skel.Build where the function isn't right; the contract of skel.Ways.
  Layer 10: the contract of skel.Ways.
  What is read of nodes, ways and edges; rows of Booleans of a call's own; edges that are the same.
-/
import Derived.Test.YtphopkjgfkaihaaGreatDoorSep
import Derived.Test.YtphopkjgfkaihaaGreatDoorSkelMath
import Derived.Test.YtphopkjgfkaihaaGreatDoorRowAt
import Derived.MapKept
import Derived.Carry
import Derived.Test.YtphopkjgfkaihaaGreatDoorHeld
import Derived.Test.YtphopkjgfkaihaaGreatDoorSepLate
import Derived.Test.YtphopkjgfkaihaaGreatDoorAsmAll
namespace Go.Proofs.YtphopkjgfkaihaaGreatDoor
open Go.RowKit

def intC (z : Int) : List Value := [.int .i64 z]
abbrev intsA (v : Value) (zs : List Int) : Asn := rowA 3 1 (leafE intC) v zs
theorem sizeInt : ∀ w, (sizeOf 3).run Tryz.prog w = .ok 1 w := Tryz.sizeOf3
theorem ct_no {cut : List Bool} {q : Nat} (h : ¬ q < cut.length) : ctA cut (q : Int) = false := by
  unfold ctA
  rw [decide_eq_false (by omega)]
  rfl
theorem ct_at {cut : List Bool} {q : Nat} {b : Bool} (h : q < cut.length) (hb : cut[q]? = some b) : ctA cut (q : Int) = b := by
  unfold ctA
  rw [decide_eq_true (by omega)]
  simp [List.getD_eq_getElem?_getD, hb]
set_option maxHeartbeats 4000000 in
set_option maxRecDepth 100000 in
theorem nexts_any (fa : Option Addr) (n fc : Nat) (f : List I) (ca : Option Addr) (m cc : Nat) (cut : List Bool) (q : Nat) (w : World) (hf : FunAt w (.slice fa n fc) f) (hc : RowAt w (.slice ca m cc) (cut.map .bool)) (hi : InF f (q : Int)) :
    Calls Tryz.prog 34 #[.slice fa n fc, .slice ca m cc, .int .i64 (q : Int)] w fun e w' => ∃ v, e = .returned v ∧ Sep w w' [intsA v (fromsA f cut (q : Int))] := by
  have hn := hf.len
  have HM : Hid (m = cut.length) := Lib.hid (by rw [hc.len, List.length_map])
  have hqn : q < n := by have := hi.2.2; omega
  have hq : q ≤ 200 := by have := chk_len hi.1; have := hi.2.2; omega
  obtain ⟨b, o, x, hx, hix, hrg⟩ := hf.ix hqn
  have HX : Hid (insA f (q : Int) = x) := Lib.hid (by
    unfold insA
    rw [Int.toNat_natCast, List.getD_eq_getElem?_getD, hx]
    rfl)
  have c0 : w.cell? ⟨b, o, none⟩ = some (.int .i64 x.op) := by have := hrg w (New.refl w) 0 _ rfl; simpa using this
  have c5 : w.cell? ⟨b, o + 5, none⟩ = some (.int .i64 x.t) := hrg w (New.refl w) 5 _ rfl
  clear hrg hx hn
  by_cases hqm : q < m
  · obtain ⟨a, y, hy0, hiy, hcy⟩ := hc.ix 23 Tryz.underlying23 Tryz.sizeOf4 hqm
    rw [List.getElem?_map] at hy0
    obtain ⟨y, hy, rfl⟩ := Option.map_eq_some_iff.mp hy0
    have cy := hcy w (New.refl w)
    clear hcy hy0
    cases y with
    | true =>
      have hz : fromsA f cut (q : Int) = [] := by unfold fromsA; rw [if_pos (.inr (ct_at (by rw [← HM.out]; exact hqm) hy))]
      rw [hz]
      clear hz hy
      go_enter Tryz.func34, Tryz.ntmps34
      go_wp2
      go_ret
      exact ⟨_, rfl, (Sep.start _).row0 _ _ _⟩
    | false =>
      have hz2 : ctA cut (q : Int) = false := ct_at (by rw [← HM.out]; exact hqm) hy
      clear hy
      by_cases h18 : x.op = 18
      · have q18 : (x.op == 18) = true := beq_of h18
        have hz : fromsA f cut (q : Int) = [] := by unfold fromsA; rw [HX.out, if_pos (.inl h18)]
        rw [hz]
        clear hz h18
        go_enter Tryz.func34, Tryz.ntmps34
        go_wp2
        go_ret
        exact ⟨_, rfl, (Sep.start _).row0 _ _ _⟩
      · have q18 : (x.op == 18) = false := bneq_of h18
        by_cases h17 : x.op = 17
        · have q17 : (x.op == 17) = true := beq_of h17
          have hz : fromsA f cut (q : Int) = [x.t, (q : Int) + 1] := by unfold fromsA; rw [HX.out, if_neg (by rw [hz2]; simp [h18]), if_pos h17]
          rw [hz]
          clear hz h17 h18 hz2
          go_enter Tryz.func34, Tryz.ntmps34
          go_wp2
          go_ret
          exact ⟨_, rfl, (Sep.start w).lit (alloc_new _ _) (Nat.le_refl _) (HasC.box w _ _) (fun _ => rfl) rfl (by unfold maxLen; simp)⟩
        · have q17 : (x.op == 17) = false := bneq_of h17
          have hz : fromsA f cut (q : Int) = [(q : Int) + 1] := by unfold fromsA; rw [HX.out, if_neg (by rw [hz2]; simp [h18]), if_neg h17]
          rw [hz]
          clear hz h17 h18 hz2
          go_enter Tryz.func34, Tryz.ntmps34
          go_wp2
          go_ret
          exact ⟨_, rfl, (Sep.start w).lit (alloc_new _ _) (Nat.le_refl _) (HasC.box w _ _) (fun _ => rfl) rfl (by unfold maxLen; simp)⟩
  · have hz2 : ctA cut (q : Int) = false := ct_no (by rw [← HM.out]; exact hqm)
    by_cases h18 : x.op = 18
    · have q18 : (x.op == 18) = true := beq_of h18
      have hz : fromsA f cut (q : Int) = [] := by unfold fromsA; rw [HX.out, if_pos (.inl h18)]
      rw [hz]
      clear hz h18
      go_enter Tryz.func34, Tryz.ntmps34
      go_wp2
      go_ret
      exact ⟨_, rfl, (Sep.start _).row0 _ _ _⟩
    · have q18 : (x.op == 18) = false := bneq_of h18
      by_cases h17 : x.op = 17
      · have q17 : (x.op == 17) = true := beq_of h17
        have hz : fromsA f cut (q : Int) = [x.t, (q : Int) + 1] := by unfold fromsA; rw [HX.out, if_neg (by rw [hz2]; simp [h18]), if_pos h17]
        rw [hz]
        clear hz h17 h18 hz2
        go_enter Tryz.func34, Tryz.ntmps34
        go_wp2
        go_ret
        exact ⟨_, rfl, (Sep.start w).lit (alloc_new _ _) (Nat.le_refl _) (HasC.box w _ _) (fun _ => rfl) rfl (by unfold maxLen; simp)⟩
      · have q17 : (x.op == 17) = false := bneq_of h17
        have hz : fromsA f cut (q : Int) = [(q : Int) + 1] := by unfold fromsA; rw [HX.out, if_neg (by rw [hz2]; simp [h18]), if_neg h17]
        rw [hz]
        clear hz h17 h18 hz2
        go_enter Tryz.func34, Tryz.ntmps34
        go_wp2
        go_ret
        exact ⟨_, rfl, (Sep.start w).lit (alloc_new _ _) (Nat.le_refl _) (HasC.box w _ _) (fun _ => rfl) rfl (by unfold maxLen; simp)⟩
end Go.Proofs.YtphopkjgfkaihaaGreatDoor
namespace Go.Proofs.YtphopkjgfkaihaaGreatDoor
open Go.RowKit

/-! A map of numbers that numbers a list: the i-th key has the value i. -/
def mpE : List Int → Nat → List MapEntry
  | [], _ => []
  | p :: ps, i => { key := .int .i64 p, val := .int .i64 (i : Int), born := i } :: mpE ps (i + 1)
def mpO (ps : List Int) : Obj := .map (mpE ps 0).toArray ps.length
theorem mp_find (p : Int) : ∀ (ps : List Int) (i : Nat), Instr.findNow (.int .i64) (.int .i64 p) (mpE ps i) i = some (if p ∈ ps then some (i + ps.idxOf p, .int .i64 ((i + ps.idxOf p : Nat) : Int)) else none)
  | [], i => by simp [mpE, Instr.findNow]
  | q :: ps, i => by
    by_cases h : p = q
    · subst h
      simp [mpE, Instr.findNow, Instr.sameNow]
    · have hb : (p == q) = false := by simpa using h
      have hq : (q == p) = false := by simpa using Ne.symm h
      simp only [mpE, Instr.findNow, Instr.sameNow, if_true, hb, mp_find p ps (i + 1), List.mem_cons, h, false_or, List.idxOf_cons, hq, cond_false]
      rw [show i + 1 + ps.idxOf p = i + (ps.idxOf p + 1) by omega]
theorem mpE_app : ∀ (ps : List Int) (p : Int) (i : Nat), mpE (ps ++ [p]) i = mpE ps i ++ [{ key := .int .i64 p, val := .int .i64 ((i + ps.length : Nat) : Int), born := i + ps.length }]
  | [], p, i => by simp [mpE]
  | q :: ps, p, i => by
    simp only [List.cons_append, mpE, mpE_app ps p (i + 1), List.length_cons]
    rw [show i + 1 + ps.length = i + (ps.length + 1) by omega]
theorem run_lookM {P : Program} {w : World} {g : Nat} {t kt et : TypeId} {ps : List Int} (p : Int) (ht : P.underlying t = some (.map kt et)) (hk : P.underlying kt = some (.int .i64)) (hz : ∀ w, (zeroValue et).run P w = .ok (.int .i64 0) w) (hb : w.heap[g]? = some (mpO ps)) :
    (Instr.lookup t (.map (some g)) (.int .i64 p) true).run P w = .ok (if p ∈ ps then .tuple #[.int .i64 (ps.idxOf p : Nat), .bool true] else .tuple #[.int .i64 0, .bool false]) w := by
  have hc : ∀ e, (Instr.checkKey e 10000 kt (.int .i64 p)).run P w = .ok () w := fun e => MapKept.run_checkKey (k := .int .i64 p) hk rfl e 9999
  have hf := mp_find p ps 0
  have hg : (getObj g).run P w = .ok (.map (mpE ps 0).toArray ps.length) w := MapKept.run_getObj_map hb
  have hfk : (Instr.findKey kt (.int .i64 p) (mpE ps 0)).run P w = .ok _ w := MapKept.run_findKey hk hf
  simp only [Nat.zero_add] at hfk
  by_cases h : p ∈ ps
  · simp only [if_pos h] at hfk ⊢
    simp [Instr.lookup, run_underlying ht, hg, hc, hfk, Result.andThen]
  · simp only [if_neg h] at hfk ⊢
    simp [Instr.lookup, run_underlying ht, hg, hc, hfk, hz, Result.andThen]
theorem run_numM {P : Program} {w : World} {g : Nat} {t kt et : TypeId} {ps : List Int} (p : Int) (ht : P.underlying t = some (.map kt et)) (hk : P.underlying kt = some (.int .i64)) (hb : w.heap[g]? = some (mpO ps)) (hp : p ∉ ps) :
    (Instr.mapUpdate t (.map (some g)) (.int .i64 p) (.int .i64 ((ps.length : Nat) : Int))).run P w = .ok () (putO w g (mpO (ps ++ [p]))) := by
  have hc : ∀ e, (Instr.checkKey e 10000 kt (.int .i64 p)).run P w = .ok () w := fun e => MapKept.run_checkKey (k := .int .i64 p) hk rfl e 9999
  have hf := mp_find p ps 0
  have hg : (getObj g).run P w = .ok (.map (mpE ps 0).toArray ps.length) w := MapKept.run_getObj_map hb
  have hfk : (Instr.findKey kt (.int .i64 p) (mpE ps 0)).run P w = .ok _ w := MapKept.run_findKey hk hf
  simp only [if_neg hp] at hfk
  have hs : ∀ o, (setObj g o).run P w = .ok () { w with heap := w.heap.setIfInBounds g o } := fun o => MapKept.run_setObj_map o hb
  have e : mpO (ps ++ [p]) = .map ((mpE ps 0).toArray.push { key := .int .i64 p, val := .int .i64 ((ps.length : Nat) : Int), born := ps.length }) (ps.length + 1) := by
    unfold mpO
    rw [mpE_app, Nat.zero_add, List.length_append]
    simp
  rw [e]
  simp [Instr.mapUpdate, run_underlying ht, hg, hc, hfk, hs, Result.andThen, putO]
/-! What a skeleton owns. -/
def outK (o : Wyo) : List Value := .int .i64 o.1 :: (cellsT o.2).toList
theorem outK_len (o : Wyo) : (outK o).length = 25 := by
  unfold outK
  rw [List.length_cons, cellsT_len]
theorem outK_one (o : Wyo) : ∀ v ∈ outK o, v.oneCell' = true := by
  intro v hv
  unfold outK at hv
  rw [List.mem_cons] at hv
  rcases hv with rfl | hv
  · rfl
  · exact cellsT_one o.2 v hv
abbrev outsA (v : Value) (os : List Wyo) : Asn := rowA 31 25 (leafE outK) v os
def nodeC (p : Int) (v : Value) : List Value := [.int .i64 p, v]
def nodeE (x : Int × List Wyo) (c : List Value) : Asn := Asn.ex fun v => (Asn.say (c = nodeC x.1 v)).star (outsA v x.2)
abbrev nodesO (v : Value) (xs : List (Int × List Wyo)) : Asn := rowA 82 2 nodeE v xs
def skC (o : Wyo) (v : Value) : List Value := outK o ++ [v]
theorem skC_len (o : Wyo) (v : Value) : (skC o v).length = 26 := by
  unfold skC
  rw [List.length_append, outK_len]
  rfl
theorem skC_nd (o : Wyo) (v : Value) : (skC o v)[25]? = some v := by
  unfold skC
  rw [List.getElem?_append_right (by rw [outK_len]; omega), outK_len]
  rfl
theorem skC_set (o : Wyo) (v u : Value) : (skC o v).set 25 u = skC o u := by
  unfold skC
  rw [List.set_append_right _ _ (by rw [outK_len]; omega), outK_len]
  rfl
theorem Sep.node {w0 w : World} {l : List Asn} {v : Value} {os : List Wyo} (h : Sep w0 w (outsA v os :: l)) (p : Int) : Sep w0 w (nodeE (p, os) (nodeC p v) :: l) :=
  h.as fun F hF => ⟨v, fun _ => False, F, rfl, hF, fun _ h _ => h, fun _ h => h.elim, fun _ h => h⟩
theorem infoO : (Tryz.prog.info? 31).map (·.size) = some 25 := by kernel_rfl
theorem infoSk : (Tryz.prog.info? 34).map (·.size) = some 26 := by kernel_rfl
theorem infoNs : (Tryz.prog.info? 32).map (·.size) = some 1 := by kernel_rfl
theorem infoNd3 : (Tryz.prog.info? 82).map (fun i => (i.zero, i.size, i.bytes)) = some (some (.agg #[.int .i64 0, .slice none 0 0]), 2, 32) := by kernel_rfl
theorem zeroOt_run (w : World) : (zeroValue 31).run Tryz.prog w = .ok (.agg (outK (0, noT)).toArray) w := Tryz.zeroValue31 w
theorem build_O (p : Int) (t : Tb) (w : World) : (Instr.build 31 #[(0, .int .i64 p), (1, .agg (cellsT t))]).run Tryz.prog w = .ok (.agg (outK (p, t)).toArray) w := run_build w _ _ _ (by kernel_rfl)
theorem build_Nd (p : Int) (w : World) : (Instr.build 82 #[(0, .int .i64 p)]).run Tryz.prog w = .ok (.agg (nodeC p (.slice none 0 0)).toArray) w := run_build w _ _ _ (by kernel_rfl)
theorem resO (fn : Func) {p : Tmp} (h : fn.results = #[.cell p 31]) (tmps : Array Value) (w : World) (g : Nat) (o : Wyo) (hp : tmps.getD p undef = .pointer (some ⟨g, 0, none⟩)) (hg : HasC w g 31 (outK o)) :
    (results fn tmps).run Tryz.prog w = .ok (.agg (outK o).toArray) w :=
  results_cell_row h tmps w g _ _ _ _ hp hg Tryz.underlying31 rfl (by rw [List.size_toArray, outK_len]; exact infoO)
theorem wpList_numM {ops : Array Oper} {rest : List Oper} {op : Oper} {act : Act} {w0 w : World} {Q : Exit → Act → World → Prop} {l : List Asn} (i : Nat) (hgd : op.guard = none) (hdst : op.dst = none) (t kt et : TypeId) (m k x : Operand) (ho : op.op = .mapUpdate t m k x) (mo : Nat) (hm : act.eval m = .map (some mo)) (p : Int) (hk : act.eval k = .int .i64 p) (n : Int) (hx : act.eval x = .int .i64 n)
    (ht : Tryz.prog.underlying t = some (.map kt et)) (hkt : Tryz.prog.underlying kt = some (.int .i64)) {ps : List Int} (h : Sep w0 w l) (hA : l[i]? = some (objA mo (mpO ps))) (hn : n = (ps.length : Nat)) (hp : p ∉ ps)
    (hw : ∀ w', Sep w0 w' (l.set i (objA mo (mpO (ps ++ [p])))) → wpList Tryz.prog ops Q rest act w') : wpList Tryz.prog ops Q (op :: rest) act w := by
  subst hn
  have hb := h.obj i hA
  have hr := run_numM (P := Tryz.prog) p ht hkt hb hp
  exact wpList_run hgd hdst (w' := putO w mo (mpO (ps ++ [p]))) (by unfold execOp; simp only [ho, hm, hk, hx, hr, Sem.run_bind, Sem.run_pure, Result.andThen_ok]) (hw _ (h.setOAt i hA (Kept.put w mo _) (putO_same hb)))
theorem Sep.node0 {w0 w : World} {l : List Asn} (h : Sep w0 w l) (p : Int) : Sep w0 w (nodeE (p, []) (nodeC p (.slice none 0 0)) :: l) := (h.row0 31 25 (leafE outK)).node p
set_option maxHeartbeats 8000000 in
set_option maxRecDepth 100000 in
theorem lay_no (fv : Value) (f : List I) (p : Int) (gm mo gs gf : Nat) (ps : List Int) (o : Wyo) (v : Value) (xs : List (Int × List Wyo)) {w1 w0 w : World} {l : List Asn} (hl : Laid w1) (h1 : New w1 w0) (hf : FunAt w1 fv f) (hi : InF f p) (ht : toA f p < 0)
    (hs : Sep w0 w (blk gm 94 [.map (some mo)] :: objA mo (mpO ps) :: blk gs 34 (skC o v) :: nodesO v xs :: blk gf 22 [fv] :: l)) :
    Calls Tryz.prog 32 #[.int .i64 p, .pointer (some ⟨gf, 0, none⟩), .pointer (some ⟨gm, 0, none⟩), .pointer (some ⟨gs, 0, none⟩)] w fun e w' => e = .returned (.agg (outK (-1, tblA f p)).toArray) ∧
      Sep w0 w' (blk gm 94 [.map (some mo)] :: objA mo (mpO ps) :: blk gs 34 (skC o v) :: nodesO v xs :: blk gf 22 [fv] :: l) := by
  have HL := Lib.hid hl
  have H1 := Lib.hid h1
  have HF := Lib.hid hf
  have HI := Lib.hid hi
  have HS := Lib.hid hs
  have HW := Lib.hid (pth_wy hi)
  obtain ⟨fo, fc, rfl⟩ := hf.form
  obtain ⟨to, hto⟩ : ∃ to, toA f p = to := ⟨_, rfl⟩
  obtain ⟨tb, HTB⟩ : ∃ tb, Hid (tblA f p = tb) := ⟨_, Lib.hid rfl⟩
  obtain ⟨st, HST⟩ : ∃ st, Hid (stP (pthA f p) = st) := ⟨_, Lib.hid rfl⟩
  rw [hto] at ht
  have HTO := Lib.hid hto
  rw [HTB.out]
  have d0 : decide (to < 0) = true := decide_eq_true ht
  have T1 : Hid True := Lib.hid trivial
  have T2 : Hid True := Lib.hid trivial
  have T3 : Hid True := Lib.hid trivial
  have T4 : Hid True := Lib.hid trivial
  have T5 : Hid True := Lib.hid trivial
  have T6 : Hid True := Lib.hid trivial
  have T7 : Hid True := Lib.hid trivial
  clear hl h1 hf hi hs hto
  go_enter Tryz.func32, Tryz.ntmps32
  go_wp2_with (first
    | (clear T1; refine wpList_alB rfl 31 rfl _ zeroOt_run _ rfl HS.out ?_; intro wa go hs; replace HS := Lib.hid hs; have cf := HS.out.cell 5 rfl (k := 0) rfl; clear hs)
    | (clear T2; go_at_call 33; refine (path_is (q := to) (t := tb) (k := st) HL.out (H1.out.trans HS.out.nw) (HF.out.new (H1.out.trans HS.out.nw)) HI.out HW.out HTO.out HTB.out HST.out).mono ?_; rintro e wb ⟨rfl, hn⟩; replace HS := Lib.hid (HS.out.go hn); clear hn cf)
    | (clear T3; refine wpList_alB rfl 96 rfl _ zeroP_run _ rfl HS.out ?_; intro wc gp hs; replace HS := Lib.hid hs; clear hs)
    | (clear T4; refine wpList_stSW 0 rfl rfl 96 (.tmp 6) (.tmp 14) rfl gp rfl _ rfl HS.out rfl (pathC to tb st) rfl (by rw [pathC_len, pathC_len]) (pathC_one to tb st) (by rw [pathC_len]; exact infoPa) ?_; intro wd hs; replace HS := Lib.hid hs; have cp := HS.out.cell 0 rfl (k := 0) rfl; clear hs)
    | (clear T5; refine wpList_ldPt (to := to) (t := tb) (n := st) rfl (.tmp 19) rfl gp rfl (HS.out.has 0 rfl) ?_)
    | (clear T6; refine wpList_bd2 (a := .int .i64 (-1)) (b := .agg (cellsT tb)) rfl 31 0 1 (.const (.int .i64 (-1))) (.tmp 20) rfl rfl rfl (build_O (-1) tb) ?_)
    | (clear T7; refine wpList_stSW 1 rfl rfl 31 (.tmp 5) (.tmp 21) rfl go rfl _ rfl HS.out rfl (outK (-1, tb)) rfl (by rw [outK_len, outK_len]) (outK_one _) (by rw [outK_len]; exact infoO) ?_; intro we hs; replace HS := Lib.hid hs; clear hs cp))
  exact bodyPost_ret (resO _ rfl _ _ go _ rfl (HS.out.has 1 rfl)) rfl ⟨rfl, HS.out.drop.drop⟩
set_option maxHeartbeats 8000000 in
set_option maxRecDepth 100000 in
theorem lay_met (fv : Value) (f : List I) (p : Int) (gm mo gs gf : Nat) (ps : List Int) (o : Wyo) (v : Value) (xs : List (Int × List Wyo)) {w1 w0 w : World} {l : List Asn} (hl : Laid w1) (h1 : New w1 w0) (hf : FunAt w1 fv f) (hi : InF f p) (ht : 0 ≤ toA f p) (hm : toA f p ∈ ps)
    (hs : Sep w0 w (blk gm 94 [.map (some mo)] :: objA mo (mpO ps) :: blk gs 34 (skC o v) :: nodesO v xs :: blk gf 22 [fv] :: l)) :
    Calls Tryz.prog 32 #[.int .i64 p, .pointer (some ⟨gf, 0, none⟩), .pointer (some ⟨gm, 0, none⟩), .pointer (some ⟨gs, 0, none⟩)] w fun e w' => e = .returned (.agg (outK ((ps.idxOf (toA f p) : Nat), tblA f p)).toArray) ∧
      Sep w0 w' (blk gm 94 [.map (some mo)] :: objA mo (mpO ps) :: blk gs 34 (skC o v) :: nodesO v xs :: blk gf 22 [fv] :: l) := by
  have HL := Lib.hid hl
  have H1 := Lib.hid h1
  have HF := Lib.hid hf
  have HI := Lib.hid hi
  have HS := Lib.hid hs
  have HW := Lib.hid (pth_wy hi)
  obtain ⟨fo, fc, rfl⟩ := hf.form
  obtain ⟨to, hto⟩ : ∃ to, toA f p = to := ⟨_, rfl⟩
  obtain ⟨tb, HTB⟩ : ∃ tb, Hid (tblA f p = tb) := ⟨_, Lib.hid rfl⟩
  obtain ⟨st, HST⟩ : ∃ st, Hid (stP (pthA f p) = st) := ⟨_, Lib.hid rfl⟩
  rw [hto] at ht
  have HTO := Lib.hid hto
  rw [HTB.out]
  rw [hto] at hm ⊢
  have d0 : decide (to < 0) = false := decide_eq_false (by omega)
  have HM := Lib.hid hm
  obtain ⟨ix, HX⟩ : ∃ ix : Int, Hid (((ps.idxOf to : Nat) : Int) = ix) := ⟨_, Lib.hid rfl⟩
  rw [HX.out]
  clear hm
  have T1 : Hid True := Lib.hid trivial
  have T2 : Hid True := Lib.hid trivial
  have T3 : Hid True := Lib.hid trivial
  have T4 : Hid True := Lib.hid trivial
  have T5 : Hid True := Lib.hid trivial
  have T6 : Hid True := Lib.hid trivial
  have T7 : Hid True := Lib.hid trivial
  clear hl h1 hf hi hs hto
  go_enter Tryz.func32, Tryz.ntmps32
  go_wp2_with (first
    | (clear T1; refine wpList_alB rfl 31 rfl _ zeroOt_run _ rfl HS.out ?_; intro wa go hs; replace HS := Lib.hid hs; have cf := HS.out.cell 5 rfl (k := 0) rfl; clear hs)
    | (clear T2; go_at_call 33; refine (path_is (q := to) (t := tb) (k := st) HL.out (H1.out.trans HS.out.nw) (HF.out.new (H1.out.trans HS.out.nw)) HI.out HW.out HTO.out HTB.out HST.out).mono ?_; rintro e wb ⟨rfl, hn⟩; replace HS := Lib.hid (HS.out.go hn); clear hn cf)
    | (clear T3; refine wpList_alB rfl 96 rfl _ zeroP_run _ rfl HS.out ?_; intro wc gp hs; replace HS := Lib.hid hs; clear hs)
    | (clear T4; refine wpList_stSW 0 rfl rfl 96 (.tmp 6) (.tmp 14) rfl gp rfl _ rfl HS.out rfl (pathC to tb st) rfl (by rw [pathC_len, pathC_len]) (pathC_one to tb st) (by rw [pathC_len]; exact infoPa) ?_; intro wd hs; replace HS := Lib.hid hs; have cp := HS.out.cell 0 rfl (k := 0) rfl; have cm := HS.out.cell 2 rfl (k := 0) rfl; have LK := run_lookM (P := Tryz.prog) (t := 94) (kt := 3) (et := 3) to (by kernel_rfl) (by kernel_rfl) Tryz.zeroValue3 (HS.out.obj 3 rfl); rw [if_pos HM.out, HX.out] at LK; clear hs)
    | (clear T5; refine wpList_ldPt (to := to) (t := tb) (n := st) rfl (.tmp 47) rfl gp rfl (HS.out.has 0 rfl) ?_)
    | (clear T6; refine wpList_bd2 (a := .int .i64 ix) (b := .agg (cellsT tb)) rfl 31 0 1 (.tmp 46) (.tmp 48) rfl rfl rfl (build_O ix tb) ?_)
    | (clear T7; refine wpList_stSW 1 rfl rfl 31 (.tmp 5) (.tmp 49) rfl go rfl _ rfl HS.out rfl (outK (ix, tb)) rfl (by rw [outK_len, outK_len]) (outK_one _) (by rw [outK_len]; exact infoO) ?_; intro we hs; replace HS := Lib.hid hs; clear hs cp cm))
  exact bodyPost_ret (resO _ rfl _ _ go _ rfl (HS.out.has 1 rfl)) rfl ⟨rfl, HS.out.drop.drop⟩
set_option maxHeartbeats 8000000 in
set_option maxRecDepth 100000 in
theorem lay_new (fv : Value) (f : List I) (p : Int) (gm mo gs gf : Nat) (ps : List Int) (o : Wyo) (v : Value) (xs : List (Int × List Wyo)) {w1 w0 w : World} {l : List Asn} (hl : Laid w1) (h1 : New w1 w0) (hf : FunAt w1 fv f) (hi : InF f p) (ht : 0 ≤ toA f p) (hm : toA f p ∉ ps) (hn : ps.length = xs.length) (hx : xs.length ≤ 100000)
    (hs : Sep w0 w (blk gm 94 [.map (some mo)] :: objA mo (mpO ps) :: blk gs 34 (skC o v) :: nodesO v xs :: blk gf 22 [fv] :: l)) :
    Calls Tryz.prog 32 #[.int .i64 p, .pointer (some ⟨gf, 0, none⟩), .pointer (some ⟨gm, 0, none⟩), .pointer (some ⟨gs, 0, none⟩)] w fun e w' => ∃ v', e = .returned (.agg (outK ((xs.length : Nat), tblA f p)).toArray) ∧
      Sep w0 w' (blk gm 94 [.map (some mo)] :: objA mo (mpO (ps ++ [toA f p])) :: blk gs 34 (skC o v') :: nodesO v' (xs ++ [(toA f p, [])]) :: blk gf 22 [fv] :: l) := by
  have HL := Lib.hid hl
  have H1 := Lib.hid h1
  have HF := Lib.hid hf
  have HI := Lib.hid hi
  have HS := Lib.hid hs
  have HW := Lib.hid (pth_wy hi)
  obtain ⟨fo, fc, rfl⟩ := hf.form
  obtain ⟨to, hto⟩ : ∃ to, toA f p = to := ⟨_, rfl⟩
  obtain ⟨tb, HTB⟩ : ∃ tb, Hid (tblA f p = tb) := ⟨_, Lib.hid rfl⟩
  obtain ⟨st, HST⟩ : ∃ st, Hid (stP (pthA f p) = st) := ⟨_, Lib.hid rfl⟩
  rw [hto] at ht
  have HTO := Lib.hid hto
  rw [HTB.out]
  rw [hto] at hm ⊢
  have d0 : decide (to < 0) = false := decide_eq_false (by omega)
  have HM := Lib.hid hm
  have HN := Lib.hid hn
  have HX := Lib.hid hx
  obtain ⟨na, nc, rfl⟩ := rowA_form (hs.rd 3 rfl)
  clear hm hn hx
  have T1 : Hid True := Lib.hid trivial
  have T2 : Hid True := Lib.hid trivial
  have T3 : Hid True := Lib.hid trivial
  have T4 : Hid True := Lib.hid trivial
  have T5 : Hid True := Lib.hid trivial
  have T6 : Hid True := Lib.hid trivial
  have T7 : Hid True := Lib.hid trivial
  have T8 : Hid True := Lib.hid trivial
  have T9 : Hid True := Lib.hid trivial
  have T10 : Hid True := Lib.hid trivial
  have T11 : Hid True := Lib.hid trivial
  clear hl h1 hf hi hs hto
  go_enter Tryz.func32, Tryz.ntmps32
  go_wp2_with (first
    | (clear T1; refine wpList_alB rfl 31 rfl _ zeroOt_run _ rfl HS.out ?_; intro wa go hs; replace HS := Lib.hid hs; have cf := HS.out.cell 5 rfl (k := 0) rfl; clear hs)
    | (clear T2; go_at_call 33; refine (path_is (q := to) (t := tb) (k := st) HL.out (H1.out.trans HS.out.nw) (HF.out.new (H1.out.trans HS.out.nw)) HI.out HW.out HTO.out HTB.out HST.out).mono ?_; rintro e wb ⟨rfl, hn⟩; replace HS := Lib.hid (HS.out.go hn); clear hn cf)
    | (clear T3; refine wpList_alB rfl 96 rfl _ zeroP_run _ rfl HS.out ?_; intro wc gp hs; replace HS := Lib.hid hs; clear hs)
    | (clear T4; refine wpList_stSW 0 rfl rfl 96 (.tmp 6) (.tmp 14) rfl gp rfl _ rfl HS.out rfl (pathC to tb st) rfl (by rw [pathC_len, pathC_len]) (pathC_one to tb st) (by rw [pathC_len]; exact infoPa) ?_; intro wd hs; replace HS := Lib.hid hs; have cp := HS.out.cell 0 rfl (k := 0) rfl; have cm := HS.out.cell 2 rfl (k := 0) rfl; have cn := HS.out.cell 4 rfl (skC_nd _ _); have LK := run_lookM (P := Tryz.prog) (t := 94) (kt := 3) (et := 3) to (by kernel_rfl) (by kernel_rfl) Tryz.zeroValue3 (HS.out.obj 3 rfl); rw [if_neg HM.out] at LK; clear hs)
    | (clear T8; refine wpList_numM 3 rfl rfl 94 3 3 (.tmp 34) (.tmp 36) (.tmp 37) rfl mo rfl to rfl _ rfl (by kernel_rfl) (by kernel_rfl) HS.out rfl (by rw [HN.out]) HM.out ?_; intro wx hs; replace HS := Lib.hid hs; have cp := HS.out.cell 0 rfl (k := 0) rfl; have cn := HS.out.cell 4 rfl (skC_nd _ _); clear hs LK cm)
    | (clear T9; refine wpList_bsB rfl 32 82 (.tmp 42) rfl Tryz.underlying32 infoNd3 (by decide) (by decide) (nodeC to (.slice none 0 0)) _ rfl rfl rfl HS.out ?_; intro wy b hs; replace HS := Lib.hid hs; clear hs)
    | (at_builtin; clear T10; refine wpList_appI 6 rfl (.tmp 39) (.tmp 43) 32 82 rfl Tryz.underlying32 infoNd3 rfl (by decide) (by decide) (y := (to, [])) (cs := nodeC to (.slice none 0 0)) (HS.out.node0 to) rfl HX.out rfl rfl (HS.out.has 0 rfl) rfl (by simp [nodeC, Value.oneCell']) ?_; intro v2 wz hs; obtain ⟨a2, c2, e2⟩ := rowA_form (hs.rd 6 rfl); rw [List.length_append, List.length_singleton] at e2; subst e2; replace HS := Lib.hid hs; clear hs)
    | (clear T11; refine wpList_stC1 5 rfl rfl 32 (.tmp 45) (.tmp 44) rfl gs 25 rfl (.slice a2 (xs.length + 1) c2) rfl HS.out rfl rfl (by rw [skC_len]; omega) rfl infoNs ?_; intro wt hs; rw [skC_set] at hs; replace HS := Lib.hid hs; clear hs cp cn; have cp := HS.out.cell 1 rfl (k := 0) rfl)
    | (clear T5; refine wpList_ldPt (to := to) (t := tb) (n := st) rfl (.tmp 47) rfl gp rfl (HS.out.has 1 rfl) ?_)
    | (clear T6; refine wpList_bd2 (a := .int .i64 ((xs.length : Nat) : Int)) (b := .agg (cellsT tb)) rfl 31 0 1 (.tmp 46) (.tmp 48) rfl rfl rfl (build_O ((xs.length : Nat) : Int) tb) ?_)
    | (clear T7; refine wpList_stSW 2 rfl rfl 31 (.tmp 5) (.tmp 49) rfl go rfl _ rfl HS.out rfl (outK (((xs.length : Nat) : Int), tb)) rfl (by rw [outK_len, outK_len]) (outK_one _) (by rw [outK_len]; exact infoO) ?_; intro we hs; replace HS := Lib.hid hs; clear hs cp))
  exact bodyPost_ret (resO _ rfl _ _ go _ rfl (HS.out.has 2 rfl)) rfl ⟨_, rfl, HS.out.drop.drop.drop⟩
end Go.Proofs.YtphopkjgfkaihaaGreatDoor
namespace Go.Proofs.YtphopkjgfkaihaaGreatDoor
open Go.RowKit

def outsOf (f : List I) (cut : List Bool) (p : Int) : List Wyo := (fromsA f cut p).map (wyA f (nodesA f cut))
def xsAt (f : List I) (cut : List Bool) (k : Nat) (ps : List Int) : List (Int × List Wyo) := ps.mapIdx fun i p => (p, if i < k then outsOf f cut p else [])
section
variable {f : List I} {cut : List Bool} {k : Nat} {ps : List Int}
theorem xs_len : (xsAt f cut k ps).length = ps.length := by simp [xsAt]
theorem xs_map : (xsAt f cut k ps).map (·.1) = ps := by
  unfold xsAt
  apply List.ext_getElem?
  intro i
  rw [List.getElem?_map, List.getElem?_mapIdx]
  cases ps[i]? <;> rfl
theorem xs_at (i : Nat) : (xsAt f cut k ps)[i]? = ps[i]?.map fun p => (p, if i < k then outsOf f cut p else []) := by simp [xsAt]
theorem xs_app (h : k ≤ ps.length) (q : Int) : xsAt f cut k (ps ++ [q]) = xsAt f cut k ps ++ [(q, [])] := by
  unfold xsAt
  rw [List.mapIdx_append]
  simp
  omega
theorem xs_set {p : Int} (h : ps[k]? = some p) : (xsAt f cut k ps).set k (p, outsOf f cut p) = xsAt f cut (k + 1) ps := by
  apply List.ext_getElem?
  intro i
  rw [List.getElem?_set, xs_at, xs_at, xs_len]
  have hk := (List.getElem?_eq_some_iff.mp h).1
  by_cases e : k = i
  · subst e
    rw [if_pos rfl, if_pos hk, h]
    simp
  · rw [if_neg e]
    cases ps[i]? with
    | none => rfl
    | some q =>
      simp only [Option.map_some]
      by_cases h1 : i < k
      · rw [if_pos h1, if_pos (by omega)]
      · rw [if_neg h1, if_neg (by omega)]
theorem xs_done (h : ps.length ≤ k) : xsAt f cut k ps = ps.map fun p => (p, outsOf f cut p) := by
  apply List.ext_getElem?
  intro i
  rw [xs_at, List.getElem?_map]
  by_cases hi : i < ps.length
  · rw [List.getElem?_eq_getElem hi]
    simp only [Option.map_some]
    rw [if_pos (by omega)]
  · rw [List.getElem?_eq_none (by omega)]
    rfl
theorem xs_zero : xsAt f cut 0 ps = ps.map fun p => (p, []) := by
  apply List.ext_getElem?
  intro i
  rw [xs_at, List.getElem?_map]
  cases ps[i]? <;> simp
end
theorem skl_nodes (f : List I) (cut : List Bool) : (sklA f cut).nodes = (nodesA f cut).map fun p => (p, outsOf f cut p) := rfl
theorem idx_app : ∀ {ps : List Int} (l : List Int) {q : Int}, q ∈ ps → (ps ++ l).idxOf q = ps.idxOf q
  | [], _, _, h => by simp at h
  | p :: ps, l, q, h => by
    rw [List.cons_append, List.idxOf_cons, List.idxOf_cons]
    cases hb : p == q with
    | true => rfl
    | false =>
      have hne : q ≠ p := fun e => by simp [e] at hb
      have : q ∈ ps := by simpa [hne] using h
      rw [cond_false, cond_false, idx_app l this]
/-- A way's number among the nodes met is that among all. -/
theorem wy_pre {f : List I} {ps l : List Int} {q : Int} (h : toA f q < 0 ∨ toA f q ∈ ps) : wyA f (ps ++ l) q = wyA f ps q := by
  unfold wyA
  rcases h with h | h
  · rw [if_pos h, if_pos h]
  · split
    · rfl
    · rw [idx_app l h]
theorem grow_at (f : List I) (ps : List Int) (p : Int) : toA f p < 0 ∨ toA f p ∈ growA f ps p := by
  rcases Int.lt_or_le (toA f p) 0 with h | h
  · exact .inl h
  · exact .inr (grow_has h)
theorem grows_snoc (f : List I) (ps qs : List Int) (q : Int) : growsA f ps (qs ++ [q]) = growA f (growsA f ps qs) q := by
  unfold growsA
  rw [List.foldl_append]
  rfl
/-- What a way adds to the nodes. -/
def addN (f : List I) (ps : List Int) (p : Int) : List (Int × List Wyo) := if 0 ≤ toA f p ∧ toA f p ∉ ps then [(toA f p, [])] else []
theorem grow_xs {f : List I} {cut : List Bool} {k : Nat} {ps : List Int} (h : k ≤ ps.length) (p : Int) : xsAt f cut k (growA f ps p) = xsAt f cut k ps ++ addN f ps p := by
  unfold growA addN
  split
  · exact xs_app h _
  · simp
theorem idx_new : ∀ {ps : List Int} {q : Int}, q ∉ ps → (ps ++ [q]).idxOf q = ps.length
  | [], q, _ => by simp
  | p :: ps, q, h => by
    simp only [List.mem_cons, not_or] at h
    have hb : (p == q) = false := by simpa using Ne.symm h.1
    rw [List.cons_append, List.idxOf_cons, hb, cond_false, idx_new h.2, List.length_cons]
theorem grow_len (f : List I) (ps : List Int) (p : Int) : ps.length ≤ (growA f ps p).length := by
  obtain ⟨l, h⟩ := grow_pre f ps p
  rw [h, List.length_append]
  omega
theorem grows_len (f : List I) (ps qs : List Int) : ps.length ≤ (growsA f ps qs).length := by
  obtain ⟨l, h⟩ := grows_pre f qs ps
  rw [h, List.length_append]
  omega
/-- Behind so many of node k's ways. -/
theorem mid_pre {f : List I} (h : (chkF f).2 = 0) {cut : List Bool} {k : Nat} (hk : k < (metA f cut k).length) (j : Nat) : ∃ l, nodesA f cut = growsA f (metA f cut k) ((fromsA f cut ((metA f cut k).getD k 0)).take j) ++ l := by
  obtain ⟨l, hl⟩ := met_nodes h cut (k + 1)
  have e : metA f cut (k + 1) = growsA f (metA f cut k) (fromsA f cut ((metA f cut k).getD k 0)) := by
    conv => lhs; unfold metA
    rw [if_pos hk]
    rfl
  rw [e] at hl
  conv at hl => rhs; lhs; rw [← List.take_append_drop j (fromsA f cut ((metA f cut k).getD k 0))]
  have e2 : ∀ a b, growsA f (metA f cut k) (a ++ b) = growsA f (growsA f (metA f cut k) a) b := fun a b => by unfold growsA; rw [List.foldl_append]
  rw [e2] at hl
  obtain ⟨m, hm⟩ := grows_pre f (List.drop j (fromsA f cut ((metA f cut k).getD k 0))) (growsA f (metA f cut k) ((fromsA f cut ((metA f cut k).getD k 0)).take j))
  rw [hm, List.append_assoc] at hl
  exact ⟨_, hl⟩
theorem mid_end {f : List I} {cut : List Bool} {k : Nat} (hk : k < (metA f cut k).length) : growsA f (metA f cut k) (fromsA f cut ((metA f cut k).getD k 0)) = metA f cut (k + 1) := by
  conv => rhs; unfold metA
  rw [if_pos hk]
  rfl
end Go.Proofs.YtphopkjgfkaihaaGreatDoor
namespace Go.Proofs.YtphopkjgfkaihaaGreatDoor
open Go.RowKit

theorem lay_is (fv : Value) (f : List I) (p : Int) (gm mo gs gf : Nat) (ps ps' : List Int) (o o' : Wyo) (v : Value) (xs xs' : List (Int × List Wyo)) {w1 w0 w : World} {l : List Asn} (hl : Laid w1) (h1 : New w1 w0) (hf : FunAt w1 fv f) (hi : InF f p) (hps : xs.map (·.1) = ps) (hx : xs.length ≤ 100000) (hG : growA f ps p = ps') (hX : xs ++ addN f ps p = xs') (hW : wyA f ps' p = o')
    (hs : Sep w0 w (blk gm 94 [.map (some mo)] :: objA mo (mpO ps) :: blk gs 34 (skC o v) :: nodesO v xs :: blk gf 22 [fv] :: l)) :
    Calls Tryz.prog 32 #[.int .i64 p, .pointer (some ⟨gf, 0, none⟩), .pointer (some ⟨gm, 0, none⟩), .pointer (some ⟨gs, 0, none⟩)] w fun e w' => ∃ v', e = .returned (.agg (outK o').toArray) ∧
      Sep w0 w' (blk gm 94 [.map (some mo)] :: objA mo (mpO ps') :: blk gs 34 (skC o v') :: nodesO v' xs' :: blk gf 22 [fv] :: l) := by
  subst hG hX hW
  have hlen : ps.length = xs.length := by rw [← hps, List.length_map]
  unfold growA addN wyA
  by_cases hc : 0 ≤ toA f p ∧ toA f p ∉ ps
  · rw [if_pos hc, if_pos hc, if_neg (show ¬ toA f p < 0 by omega), idx_new hc.2, hlen]
    exact lay_new fv f p gm mo gs gf ps o v xs hl h1 hf hi hc.1 hc.2 hlen hx hs
  · rw [if_neg hc, if_neg hc, List.append_nil]
    rcases Int.lt_or_le (toA f p) 0 with ht | ht
    · rw [if_pos ht]
      exact (lay_no fv f p gm mo gs gf ps o v xs hl h1 hf hi ht hs).mono fun _ _ h => ⟨v, h⟩
    · rw [if_neg (show ¬ toA f p < 0 by omega)]
      exact (lay_met fv f p gm mo gs gf ps o v xs hl h1 hf hi ht (Classical.byContradiction fun hm => hc ⟨ht, hm⟩) hs).mono fun _ _ h => ⟨v, h⟩
theorem first_is (f : List I) : growA f [] 0 = firstA f := by
  unfold growA firstA
  by_cases h : 0 ≤ toA f 0
  · rw [if_pos ⟨h, by simp⟩, if_pos h]
    rfl
  · rw [if_neg fun e => h e.1, if_neg h]
theorem zeroSk_run (w : World) : (zeroValue 34).run Tryz.prog w = .ok (.agg (skC (0, noT) (.slice none 0 0)).toArray) w := Tryz.zeroValue34 w
theorem skC_one (o : Wyo) {v : Value} (hv : v.oneCell' = true) : ∀ c ∈ skC o v, c.oneCell' = true := by
  intro c hc
  unfold skC at hc
  rw [List.mem_append] at hc
  rcases hc with hc | hc
  · exact outK_one o c hc
  · simp only [List.mem_cons, List.not_mem_nil, or_false] at hc
    rw [hc]
    exact hv
theorem skC_ent (o o' : Wyo) (v : Value) : (skC o v).take 0 ++ outK o' ++ (skC o v).drop (0 + (outK o').length) = skC o' v := by
  unfold skC
  rw [List.take_zero, List.nil_append, outK_len, Nat.zero_add, List.drop_append, List.drop_of_length_le (by rw [outK_len]; omega), outK_len, List.nil_append]
  rfl
theorem wpList_mkM {ops : Array Oper} {rest : List Oper} {op : Oper} {act : Act} {w0 w : World} {Q : Exit → Act → World → Prop} {l : List Asn} (hgd : op.guard = none) (t : TypeId) (ho : op.op = .makeMap t none) (h : Sep w0 w l)
    (hk : ∀ w' g, Sep w0 w' (objA g (mpO []) :: l) → wpList Tryz.prog ops Q rest (act.put op.dst (.map (some g))) w') : wpList Tryz.prog ops Q (op :: rest) act w :=
  wpList_val hgd (v := .map (some w.heap.size)) (w' := w.alloc (.map #[] 0)) (by unfold execOp; simp only [ho, Option.map_none, run_makeMap, Sem.run_bind, Sem.run_pure, Result.andThen_ok]) (hk _ _ (h.newO (alloc_new _ _) (Nat.le_refl _) (heap_alloc_new _ _)))
theorem infoMp : (Tryz.prog.info? 94).map (·.size) = some 1 := by kernel_rfl
theorem zeroMp_run (w : World) : (zeroValue 94).run Tryz.prog w = .ok (.map none) w := Tryz.zeroValue94 w
theorem infoOs : (Tryz.prog.info? 80).map (·.size) = some 1 := by kernel_rfl
theorem infoO3 : (Tryz.prog.info? 31).map (fun i => (i.zero, i.size, i.bytes)) = some (some (.agg (outK (0, noT)).toArray), 25, 392) := by kernel_rfl
theorem ixRow {P : Program} {T e : TypeId} {k : Nat} (hu : P.underlying T = some (.slice e)) (he : ∀ w, (sizeOf e).run P w = .ok k w) (b i n cap : Nat) (hi : i < n) (w : World) : (Instr.indexAt T (.slice (some ⟨b, 0, none⟩) n cap) (.int .i64 (i : Int))).run P w = .ok (.pointer (some ⟨b, i * k, none⟩)) w := by
  have ea : (⟨b, 0, none⟩ : Addr).add (i * k) = ⟨b, i * k, none⟩ := by rw [Addr.add_mid, Nat.zero_add]
  simp [Instr.indexAt, run_underlying hu, asIntOf, he, ea]
  intro
  omega
theorem sizeNd : ∀ w, (sizeOf 82).run Tryz.prog w = .ok 2 w := Tryz.sizeOf82
set_option maxHeartbeats 16000000 in
set_option maxRecDepth 100000 in
theorem build_in (fa : Option Addr) (n fc : Nat) (f : List I) (ca : Option Addr) (m cc : Nat) (cut : List Bool) (w : World) (hl : Laid w) (hf : FunAt w (.slice fa n fc) f) (hc : RowAt w (.slice ca m cc) (cut.map .bool)) (hr : (chkF f).2 = 0) :
    Calls Tryz.prog 12 #[.slice fa n fc, .slice ca m cc] w fun e w' => ∃ v, e = .returned (.tuple #[.agg (skC (sklA f cut).entry v).toArray, .int .i64 0]) ∧ Sep w w' [nodesO v (sklA f cut).nodes] := by
  have HL := Lib.hid hl
  have HF := Lib.hid hf
  have HC := Lib.hid hc
  have HR := Lib.hid hr
  have q1 : ((chkF f).2 == 0) = true := beq_of hr
  have HI0 : Hid (InF f 0) := Lib.hid ⟨hr, Int.le_refl 0, by have := (right_iff.mp hr).2.1; omega⟩
  have H200 : Hid (f.length ≤ 200) := Lib.hid (chk_len hr)
  have HML : ∀ k, Hid ((metA f cut k).length ≤ 200) := fun k => Lib.hid (Nat.le_trans (nds_len (met_nds hr cut k)) (chk_len hr))
  obtain ⟨E, HE⟩ : ∃ E, Hid ((sklA f cut).entry = E) := ⟨_, Lib.hid rfl⟩
  have HX0 : Hid ([] ++ addN f [] 0 = xsAt f cut 0 (metA f cut 0)) := Lib.hid ((grow_xs (cut := cut) (k := 0) (Nat.le_refl 0) (ps := []) 0).symm.trans (by rw [first_is]; rfl))
  have HE0 : Hid (wyA f (metA f cut 0) 0 = E) := Lib.hid (by
    obtain ⟨l, hl⟩ := met_nodes hr cut 0
    rw [← HE.out]
    show _ = wyA f (nodesA f cut) 0
    rw [hl]
    have := grow_at f [] 0
    rw [first_is] at this
    exact (wy_pre this).symm)
  have HS := Lib.hid (Sep.start w)
  rw [HE.out]
  clear hl hf hc hr
  have T1 : Hid True := Lib.hid trivial
  have T2 : Hid True := Lib.hid trivial
  have T3 : Hid True := Lib.hid trivial
  have T4 : Hid True := Lib.hid trivial
  have T5 : Hid True := Lib.hid trivial
  have T6 : Hid True := Lib.hid trivial
  have T7 : Hid True := Lib.hid trivial
  have T8 : Hid True := Lib.hid trivial
  have T9 : Hid True := Lib.hid trivial
  go_enter Tryz.func12, Tryz.ntmps12
  go_wp2_with (first
    | (clear T1; refine wpList_boxB rfl 22 (.tmp 0) rfl [.slice fa n fc] rfl HS.out ?_; intro wa gf hs; replace HS := Lib.hid hs; clear hs)
    | (clear T2; refine wpList_alB rfl 34 rfl _ zeroSk_run _ rfl HS.out ?_; intro wb gr hs; replace HS := Lib.hid hs; have cf := HS.out.cell 1 rfl (k := 0) rfl; clear hs)
    | (clear T3; go_at_call 31; refine (asmRight_any _ f _ (HL.out.new HS.out.nw) (HF.out.new HS.out.nw)).mono ?_; rw [q1]; rintro e wc ⟨rfl, hn⟩; replace HS := Lib.hid (((HS.out.go hn).pull 1 rfl).row0 82 2 nodeE); clear hn cf)
    | (clear T4; refine wpList_alB rfl 34 rfl _ zeroSk_run _ rfl HS.out ?_; intro wd gs hs; replace HS := Lib.hid hs; clear hs)
    | (clear T5; refine wpList_mkM rfl 94 rfl HS.out ?_; intro we mo hs; replace HS := Lib.hid hs; clear hs)
    | (clear T6; refine wpList_alB rfl 94 rfl _ zeroMp_run [.map none] rfl HS.out ?_; intro wf gm hs; replace HS := Lib.hid hs; clear hs)
    | (clear T7; refine wpList_stC1 0 rfl rfl 94 (.tmp 7) (.tmp 17) rfl gm 0 rfl (.map (some mo)) rfl HS.out rfl rfl (by simp) rfl infoMp ?_; intro wg hs; replace HS := Lib.hid hs; clear hs)
    | (clear T8; go_at_call 32; refine (lay_is (.slice fa n fc) f 0 gm mo gs gf [] (metA f cut 0) (0, noT) E (.slice none 0 0) [] (xsAt f cut 0 (metA f cut 0)) HL.out (New.refl w) HF.out HI0.out rfl (by simp) (first_is f) HX0.out HE0.out HS.out).mono ?_; rintro e wh ⟨v0, rfl, hs⟩; replace HS := Lib.hid hs; clear hs)
    | (clear T9; refine wpList_stSp 2 rfl rfl 31 (.tmp 21) (.tmp 20) rfl gs 0 rfl _ rfl HS.out rfl (outK E) rfl (by rw [outK_len, skC_len]; omega) (outK_one _) (by rw [outK_len]; exact infoO) (skC_ent _ _ _) ?_; intro wi hs; replace HS := Lib.hid hs; clear hs))
  go_loopw [9] (fun nv wr => ∃ (k : Nat) (v : Value), nv = .int .i64 (k : Int) ∧ k ≤ 200 ∧ Hid (Sep w wr [blk gm 94 [.map (some mo)], objA mo (mpO (metA f cut k)), blk gs 34 (skC E v), nodesO v (xsAt f cut k (metA f cut k)), blk gf 22 [.slice fa n fc], blk gr 34 (skC (0, noT) (.slice none 0 0))])) (fun nv _ => 201 - (intOf nv).toNat)
  case atStart => exact ⟨0, v0, rfl, by omega, HS⟩
  case round =>
    obtain ⟨k, v, rfl, hk, HT⟩ := hrel
    obtain ⟨na, nc, hv⟩ := rowA_form (HT.out.rd 3 rfl)
    rw [xs_len] at hv
    obtain ⟨L, HLn⟩ : ∃ L, Hid ((metA f cut k).length = L) := ⟨_, Lib.hid rfl⟩
    rw [HLn.out] at hv
    subst hv
    have cn := HT.out.cell 2 rfl (skC_nd _ _)
    by_cases hkl : k < L
    · have HKL : Hid (k < (metA f cut k).length) := Lib.hid (by rw [HLn.out]; exact hkl)
      obtain ⟨pz, hpz⟩ : ∃ pz, (metA f cut k)[k]? = some pz := ⟨_, List.getElem?_eq_getElem HKL.out⟩
      have hpn : InF f pz ∧ mvA f pz = false := (met_nds HR.out cut k).inf pz (List.mem_of_getElem? hpz)
      obtain ⟨q, rfl⟩ : ∃ q : Nat, pz = (q : Int) := ⟨pz.toNat, by have := hpn.1.2.1; omega⟩
      have HPQ := Lib.hid hpn.1
      have HPM := Lib.hid hpn.2
      have HPZ := Lib.hid hpz
      have hgd : (metA f cut k).getD k 0 = (q : Int) := by rw [List.getD_eq_getElem?_getD, hpz]; rfl
      have HGD := Lib.hid hgd
      have hxk : (xsAt f cut k (metA f cut k))[k]? = some ((q : Int), []) := by rw [xs_at, hpz]; simp
      obtain ⟨b0, o0, c, hlc, hix, hrg, hEr⟩ := rowA_ix (P := Tryz.prog) (HT.out.rd 3 rfl) 32 Tryz.underlying32 sizeNd hxk
      obtain ⟨vo0, hc0⟩ : ∃ vo0, c = nodeC (q : Int) vo0 := by
        obtain ⟨_, ⟨vo0, _, _, h, _⟩, _⟩ := hEr
        exact ⟨vo0, h⟩
      subst hc0
      have HRG := Lib.hid hrg
      have CN := Lib.hid cn
      have CF := Lib.hid (HT.out.cell 4 rfl (k := 0) rfl)
      clear hpn hpz hgd hxk hrg hEr hlc
      go_wp2_with fail
      clear cn
      have S0 : Hid (New wr wr.drew) := Lib.hid ((New.refl wr).drew)
      refine wp_region_noPanic ?_
      refine wp_region_held_drew (S := fun w' => New wr w') (by kernel_rfl) S0.out (fun _ => ?_)
      refine wpAnyH_take (i := 0) (v := .slice fa n fc) rfl (by kernel_rfl) (by kernel_rfl) (by kernel_rfl) (fun _ _ _ h => h) (ldV_if rfl 22 Tryz.isAgg22 (.tmp 2) rfl ⟨gf, 0, none⟩ rfl (fun w' h => h.cell' CF.out)) S0.out ?_
      simp only [List.getElem_toArray, List.getElem_cons_zero, Act.put, List.setIfInBounds_toArray, List.set_cons_zero, List.set_cons_succ]
      refine wpAnyH_take (i := 1) (v := .slice ca m cc) rfl (by kernel_rfl) (by kernel_rfl) (by kernel_rfl) (fun _ _ _ h => h) (Or.inl ⟨rfl, fun _ _ => by go_simp⟩) S0.out ?_
      simp only [List.getElem_toArray, List.getElem_cons_zero, List.getElem_cons_succ, Act.put, List.setIfInBounds_toArray, List.set_cons_zero, List.set_cons_succ]
      refine wpAnyH_take (i := 2) (v := .pointer (some ⟨gs, 25, none⟩)) rfl (by kernel_rfl) (by kernel_rfl) (by kernel_rfl) (fun _ _ _ h => h) (Or.inl ⟨rfl, fun _ _ => by go_simp⟩) S0.out ?_
      simp only [List.getElem_toArray, List.getElem_cons_zero, List.getElem_cons_succ, Act.put, List.setIfInBounds_toArray, List.set_cons_zero, List.set_cons_succ]
      refine wpAnyH_take (i := 3) (v := .slice na L nc) rfl (by kernel_rfl) (by kernel_rfl) (by kernel_rfl) (fun _ _ _ h => h) (ldV_if rfl 32 Tryz.isAgg32 (.tmp 31) rfl ⟨gs, 25, none⟩ rfl (fun w' h => h.cell' CN.out)) S0.out ?_
      simp only [List.getElem_toArray, List.getElem_cons_zero, List.getElem_cons_succ, Act.put, List.setIfInBounds_toArray, List.set_cons_zero, List.set_cons_succ]
      refine wpAnyH_take (i := 4) (v := .int .i64 (k : Int)) rfl (by kernel_rfl) (by kernel_rfl) (by kernel_rfl) (fun _ _ _ h => h) (Or.inl ⟨rfl, fun _ _ => by go_simp⟩) S0.out ?_
      simp only [List.getElem_toArray, List.getElem_cons_zero, List.getElem_cons_succ, Act.put, List.setIfInBounds_toArray, List.set_cons_zero, List.set_cons_succ]
      refine wpAnyH_take (i := 5) (v := .pointer (some ⟨b0, o0, none⟩)) rfl (by kernel_rfl) (by kernel_rfl) (by kernel_rfl) (fun _ _ _ h => h) (ixV_if rfl 32 (.tmp 32) (.tmp 33) rfl _ _ _ rfl rfl hix) S0.out ?_
      simp only [List.getElem_toArray, List.getElem_cons_zero, List.getElem_cons_succ, Act.put, List.setIfInBounds_toArray, List.set_cons_zero, List.set_cons_succ]
      refine wpAnyH_take (i := 6) (v := .pointer (some ⟨b0, o0, none⟩)) rfl (by kernel_rfl) (by kernel_rfl) (by kernel_rfl) (fun _ _ _ h => h) (Or.inl ⟨rfl, fun _ _ => by go_simp⟩) S0.out ?_
      simp only [List.getElem_toArray, List.getElem_cons_zero, List.getElem_cons_succ, Act.put, List.setIfInBounds_toArray, List.set_cons_zero, List.set_cons_succ]
      refine wpAnyH_take (i := 7) (v := .int .i64 (q : Int)) rfl (by kernel_rfl) (by kernel_rfl) (by kernel_rfl) (fun _ _ _ h => h) (ldV_if rfl 3 Tryz.isAgg3 (.tmp 35) rfl ⟨b0, o0, none⟩ rfl (fun w' h => HRG.out w' h 0 _ rfl)) S0.out ?_
      simp only [List.getElem_toArray, List.getElem_cons_zero, List.getElem_cons_succ, Act.put, List.setIfInBounds_toArray, List.set_cons_zero, List.set_cons_succ]
      refine wpAnyH_take (i := 10) (v := .int .i64 0) rfl (by kernel_rfl) (by kernel_rfl) (by kernel_rfl) (fun _ _ _ h => h) (Or.inl ⟨rfl, fun _ _ => by go_simp⟩) S0.out ?_
      simp only [List.getElem_toArray, List.getElem_cons_zero, List.getElem_cons_succ, Act.put, List.setIfInBounds_toArray, List.set_cons_zero, List.set_cons_succ]
      refine wpAnyH_forced [8, 9] _ _ _ S0.out (by kernel_rfl) (by simp) ?_
      simp only [List.map_cons, List.map_nil, Array.getD_eq_getD_getElem?, List.getElem?_toArray, List.getElem?_cons_succ, List.getElem?_cons_zero, Option.getD_some]
      refine wpLS_call rfl 34 #[.slice fa n fc, .slice ca m cc, .int .i64 (q : Int)] (by go_simp) ?_
      refine (nexts_any fa n fc f ca m cc cut q _ (HF.out.new (HT.out.nw.trans S0.out)) (HC.out.new (HT.out.nw.trans S0.out)) HPQ.out).mono ?_
      rintro e w1 ⟨vi, rfl, hs⟩
      obtain ⟨ia, ic, hvi⟩ := rowA_form (hs.rd 0 rfl)
      obtain ⟨J, HJ⟩ : ∃ J, Hid ((fromsA f cut (q : Int)).length = J) := ⟨_, Lib.hid rfl⟩
      rw [HJ.out] at hvi
      subst hvi
      have hJ2 : J ≤ 2 := by rw [← HJ.out]; unfold fromsA; split <;> (try split) <;> simp
      have N1 := Lib.hid (S0.out.trans hs.nw)
      have HS := Lib.hid (((((((((HT.out.go S0.out).call hs).row0 31 25 (leafE outK)).pull 7 rfl).pull 7 rfl).pull 7 rfl).pull 7 rfl).pull 7 rfl).pull 7 rfl)
      clear hs HT
      refine ⟨_, rfl, N1.out, ?_⟩
      simp only [Act.put, List.setIfInBounds_toArray, List.set_cons_zero, List.set_cons_succ]
      refine wpLS_value rfl (.int .i64 (J : Int)) N1.out (by go_simp) ?_
      simp only [Act.put, List.setIfInBounds_toArray, List.set_cons_zero, List.set_cons_succ]
      refine wpLS_nil ?_
      refine NoPanic.normal ?_
      clear hix HRG CN CF
      go_wp2_with fail
      go_loopw [10, 39] (fun ov jv wj => ∃ (j : Nat) (vo v2 : Value), ov = vo ∧ jv = .int .i64 (j : Int) ∧ j ≤ J ∧ Hid (Sep w wj [blk gm 94 [.map (some mo)], objA mo (mpO (growsA f (metA f cut k) ((fromsA f cut (q : Int)).take j))), blk gs 34 (skC E v2), nodesO v2 (xsAt f cut k (growsA f (metA f cut k) ((fromsA f cut (q : Int)).take j))), blk gf 22 [.slice fa n fc], blk gr 34 (skC (0, noT) (.slice none 0 0)), outsA vo (((fromsA f cut (q : Int)).take j).map (wyA f (nodesA f cut))), intsA (.slice ia J ic) (fromsA f cut (q : Int))])) (fun _ jv _ => J - (intOf jv).toNat)
      case atStart => exact ⟨0, .slice none 0 0, _, rfl, rfl, by omega, HS⟩
      case round =>
        obtain ⟨j, vo, v2, rfl, rfl, hj, HU⟩ := hrel
        by_cases hjJ : j < J
        · obtain ⟨r, hrj⟩ : ∃ r, (fromsA f cut (q : Int))[j]? = some r := ⟨_, List.getElem?_eq_getElem (by rw [HJ.out]; exact hjJ)⟩
          have HIR : Hid (InF f r) := Lib.hid (froms_in HPQ.out HPM.out r (List.mem_of_getElem? hrj))
          have htk : (fromsA f cut (q : Int)).take (j + 1) = (fromsA f cut (q : Int)).take j ++ [r] := by rw [List.take_add_one, hrj]; rfl
          have HG : Hid (growA f (growsA f (metA f cut k) ((fromsA f cut (q : Int)).take j)) r = growsA f (metA f cut k) ((fromsA f cut (q : Int)).take (j + 1))) := Lib.hid (by rw [htk, grows_snoc])
          have HX : Hid (xsAt f cut k (growsA f (metA f cut k) ((fromsA f cut (q : Int)).take j)) ++ addN f (growsA f (metA f cut k) ((fromsA f cut (q : Int)).take j)) r = xsAt f cut k (growsA f (metA f cut k) ((fromsA f cut (q : Int)).take (j + 1)))) := Lib.hid (by
            rw [← HG.out]
            exact (grow_xs (Nat.le_trans (Nat.le_of_lt HKL.out) (grows_len _ _ _)) r).symm)
          have HW : Hid (wyA f (growsA f (metA f cut k) ((fromsA f cut (q : Int)).take (j + 1))) r = wyA f (nodesA f cut) r) := Lib.hid (by
            obtain ⟨l, hl⟩ := mid_pre HR.out HKL.out (j + 1)
            rw [HGD.out] at hl
            rw [hl]
            refine (wy_pre ?_).symm
            rw [← HG.out]
            exact grow_at f _ r)
          have HO : Hid (((fromsA f cut (q : Int)).take j).map (wyA f (nodesA f cut)) ++ [wyA f (nodesA f cut) r] = ((fromsA f cut (q : Int)).take (j + 1)).map (wyA f (nodesA f cut))) := Lib.hid (by rw [htk, List.map_append]; rfl)
          have HLE : Hid ((growsA f (metA f cut k) ((fromsA f cut (q : Int)).take j)).length ≤ 200) := Lib.hid (by
            obtain ⟨l, hl⟩ := mid_pre HR.out HKL.out j
            rw [HGD.out] at hl
            have h1 := nds_len (nodes_nds HR.out cut)
            rw [hl, List.length_append] at h1
            have := H200.out
            omega)
          have HLO : Hid ((((fromsA f cut (q : Int)).take j).map (wyA f (nodesA f cut))).length ≤ 100000) := Lib.hid (by
            rw [List.length_map, List.length_take]
            have h2 : (fromsA f cut (q : Int)).length ≤ 2 := by unfold fromsA; split <;> (try split) <;> simp
            omega)
          obtain ⟨o', HO'⟩ : ∃ o', Hid (wyA f (nodesA f cut) r = o') := ⟨_, Lib.hid rfl⟩
          rw [HO'.out] at HW HO
          obtain ⟨b1, o1, hix1, hrg1⟩ := leaf_ix (P := Tryz.prog) (HU.out.rd 7 rfl) 101 Tryz.underlying101 sizeInt hrj
          have c1 := hrg1 _ (New.refl _) 0 _ rfl
          rw [Nat.add_zero] at c1
          clear htk hrj hrg1
          have U1 : Hid True := Lib.hid trivial
          have U2 : Hid True := Lib.hid trivial
          have U3 : Hid True := Lib.hid trivial
          go_wp2_with (first
            | (clear U1; go_at_call 32; refine (lay_is (.slice fa n fc) f r gm mo gs gf _ _ E o' v2 _ _ HL.out (New.refl w) HF.out HIR.out xs_map (by rw [xs_len]; have := HLE.out; omega) HG.out HX.out HW.out HU.out).mono ?_; rintro e w2 ⟨v3, rfl, hs⟩; replace HU := Lib.hid hs; clear hs c1)
            | (clear U2; refine wpList_bsB rfl 80 31 (.tmp 46) rfl Tryz.underlying80 infoO3 (by decide) (by decide) (outK o') _ rfl rfl (outK_len o') HU.out ?_; intro w3 b hs; replace HU := Lib.hid hs; clear hs)
            | (at_builtin; clear U3; refine wpList_appL 7 rfl (.tmp 43) (.tmp 47) 80 31 rfl Tryz.underlying80 infoO3 (outK_len _) (by decide) (by decide) (mk := outK) (y := o') HU.out rfl HLO.out rfl rfl (HU.out.has 0 rfl) (outK_len o') (outK_one o') ?_; intro vo2 w4 hs; rw [HO.out] at hs; replace HU := Lib.hid hs.drop; clear hs))
          go_roundw
          case rel => exact ⟨j + 1, vo2, v3, rfl, by go_num, by omega, HU⟩
          case measure => simp [intOf]; omega
        · have hjJ' : j = J := by omega
          have HFR : Hid ((fromsA f cut (q : Int)).take j = fromsA f cut (q : Int)) := Lib.hid (List.take_of_length_le (by rw [HJ.out]; omega))
          have HG : Hid (growsA f (metA f cut k) (fromsA f cut (q : Int)) = metA f cut (k + 1)) := Lib.hid (by have := mid_end (f := f) (cut := cut) HKL.out; rw [HGD.out] at this; exact this)
          rw [HFR.out, HG.out] at HU
          have hpz2 : (metA f cut (k + 1))[k]? = some (q : Int) := by
            obtain ⟨l, hl⟩ := met_pre f cut k
            rw [hl, List.getElem?_append_left HKL.out]
            exact HPZ.out
          have hxk : (xsAt f cut k (metA f cut (k + 1)))[k]? = some ((q : Int), []) := by rw [xs_at, hpz2]; simp
          have HXS : Hid ((xsAt f cut k (metA f cut (k + 1))).set k ((q : Int), outsOf f cut (q : Int)) = xsAt f cut (k + 1) (metA f cut (k + 1))) := Lib.hid (xs_set hpz2)
          obtain ⟨oa, oc, hvo⟩ := rowA_form (HU.out.rd 6 rfl)
          rw [List.length_map, HJ.out] at hvo
          subst hvo
          obtain ⟨b2, c2, cs, hv2, hcl, _, hs⟩ := HU.out.openAt 3 rfl hxk
          rw [xs_len] at hv2
          obtain ⟨M, HM⟩ : ∃ M, Hid ((metA f cut (k + 1)).length = M) := ⟨_, Lib.hid rfl⟩
          have hkM : k < M := by rw [← HM.out]; exact some_lt hpz2
          rw [HM.out] at hv2
          subst hv2
          obtain ⟨vo1, hs⟩ := hs.un
          obtain ⟨hcs, hs⟩ := hs.split.said
          subst hcs
          replace HU := Lib.hid ((hs.drop.pull 6 rfl).node (q : Int))
          have cn := HU.out.cell 3 rfl (skC_nd _ _)
          have hix3 := ixRow (P := Tryz.prog) Tryz.underlying32 sizeNd b2 k M c2 hkM
          have U1 : Hid True := Lib.hid trivial
          clear hs hpz2 hxk hcl
          go_wp2_with (first
            | (clear U1; refine wpList_stEl 3 rfl rfl 80 (.tmp 55) (.tmp 53) rfl b2 k 1 rfl (.slice oa J oc) rfl (y := ((q : Int), outsOf f cut (q : Int))) (c := nodeC (q : Int) vo1) HU.out rfl rfl (by decide) rfl rfl rfl infoOs ?_; intro w5 hs; rw [HXS.out] at hs; replace HU := Lib.hid (hs.dropAt 6 (by simp)); clear hs cn hix3))
          go_roundw
          case rel => exact ⟨k + 1, _, by go_num, by have := (HML (k + 1)).out; have := HM.out; omega, HU⟩
          case measure => simp [intOf]; omega
    · have HK : Hid (metA f cut k = nodesA f cut) := Lib.hid (nodes_is HR.out cut (by rw [HLn.out]; omega))
      have HX : Hid (xsAt f cut k (metA f cut k) = (sklA f cut).nodes) := Lib.hid (by rw [xs_done (by rw [HLn.out]; omega), HK.out, skl_nodes])
      rw [HX.out] at HT
      have U1 : Hid True := Lib.hid trivial
      have U2 : Hid True := Lib.hid trivial
      go_wp2_with (first
        | (clear U1; refine wpList_load_mid rfl 34 (.tmp 6) rfl gs 0 rfl (skC E (.slice na L nc)) _ (HasC.all (HT.out.has 2 rfl)) Tryz.underlying34 rfl (by rw [skC_len]; exact infoSk) ?_)
        | (clear U2; refine wpList_stSW 5 rfl rfl 34 (.tmp 4) (.tmp 56) rfl gr rfl _ rfl HT.out rfl (skC E (.slice na L nc)) rfl (by rw [skC_len, skC_len]) (skC_one _ rfl) (by rw [skC_len]; exact infoSk) ?_; intro w5 hs; replace HT := Lib.hid hs; clear hs cn))
      exact bodyPost_ret (results_ct (p := 4) (u := 5) rfl _ _ gr _ (.int .i64 0) rfl (loadVar_C (HT.out.has 5 rfl) Tryz.underlying34 rfl (by rw [skC_len]; exact infoSk)) rfl) rfl ⟨_, rfl, (((((HT.out.drop.drop.drop).dropAt 1 (by simp)).dropAt 1 (by simp))))⟩
end Go.Proofs.YtphopkjgfkaihaaGreatDoor
namespace Go.Proofs.YtphopkjgfkaihaaGreatDoor
open Go.RowKit

/-- The ways to node n out of the nodes ahead of m, and m's first k. -/
def edAt (s : Skl) (m k : Nat) (n : Int) : List (Int × Int) := (if s.entry.1 = n then [(-1, 0)] else []) ++ (allE n 0 (s.nodes.take m) ++ rowE n (m : Int) 0 (((s.nodes[m]?).map (·.2)).getD [] |>.take k))
def edTab (N : Nat) (g : Int → List (Int × Int)) : List (List (Int × Int)) := (List.range N).map fun (n : Nat) => g (n : Int)
theorem edTab_len (N : Nat) (g : Int → List (Int × Int)) : (edTab N g).length = N := by simp [edTab]
theorem edTab_at {N : Nat} (g : Int → List (Int × Int)) {i : Nat} (h : i < N) : (edTab N g)[i]? = some (g (i : Int)) := by simp [edTab, h]
theorem edTab_set {N : Nat} {g g' : Int → List (Int × Int)} {i : Nat} {e : Int × Int} (hi : i < N) (h : ∀ n : Nat, n < N → g' n = if n = i then g i ++ [e] else g n) : (edTab N g).set i (g (i : Int) ++ [e]) = edTab N g' := by
  apply List.ext_getElem?
  intro j
  rw [List.getElem?_set, edTab_len]
  by_cases hj : j < N
  · rw [edTab_at g' hj, edTab_at g hj, h j hj]
    by_cases e1 : i = j
    · subst e1
      simp [hi]
    · rw [if_neg e1, if_neg (Ne.symm e1)]
  · rw [List.getElem?_eq_none (l := edTab N g') (by rw [edTab_len]; omega)]
    split
    · omega
    · exact List.getElem?_eq_none (by rw [edTab_len]; omega)
theorem edTab_none {N : Nat} {g g' : Int → List (Int × Int)} (h : ∀ n : Nat, n < N → g' n = g n) : edTab N g = edTab N g' := by
  unfold edTab
  exact List.map_congr_left fun n hn => (h n (List.mem_range.mp hn)).symm
section
variable {s : Skl} {m k : Nat} {n : Int}
theorem ed_zero : edAt s 0 0 n = if s.entry.1 = n then [(-1, 0)] else [] := by simp [edAt, allE, rowE]
theorem ed_step {x : Int × List Wyo} {o : Wyo} (hx : s.nodes[m]? = some x) (ho : x.2[k]? = some o) : edAt s m (k + 1) n = edAt s m k n ++ if o.1 = n then [((m : Int), (k : Int))] else [] := by
  have hk := (List.getElem?_eq_some_iff.mp ho).1
  unfold edAt
  rw [hx]
  simp only [Option.map_some, Option.getD_some]
  rw [List.take_add_one, ho, Option.toList_some, rowE_app, List.length_take, Nat.min_eq_left (by omega), Nat.zero_add]
  simp [rowE]
theorem ed_next {x : Int × List Wyo} (hx : s.nodes[m]? = some x) (hk : x.2.length ≤ k) : edAt s m k n = edAt s (m + 1) 0 n := by
  have hm := (List.getElem?_eq_some_iff.mp hx).1
  unfold edAt
  rw [hx]
  simp only [Option.map_some, Option.getD_some, List.take_zero]
  rw [List.take_of_length_le hk, List.take_add_one, hx, Option.toList_some, allE_app, List.length_take, Nat.min_eq_left (by omega), Nat.zero_add]
  simp [allE, rowE]
theorem ed_done (hm : s.nodes.length ≤ m) : edAt s m 0 n = edgesA s n := by
  unfold edAt edgesA
  rw [List.take_of_length_le hm]
  simp [rowE]
theorem rowE_len (n m : Int) : ∀ (l : List Wyo) (k : Nat), (rowE n m k l).length ≤ l.length
  | [], _ => by simp [rowE]
  | o :: l, k => by
    have := rowE_len n m l (k + 1)
    rw [rowE, List.length_append, List.length_cons]
    split <;> simp <;> omega
theorem allE_len {B : Nat} (n : Int) : ∀ (l : List (Int × List Wyo)) (m : Nat), (∀ x ∈ l, x.2.length ≤ B) → (allE n m l).length ≤ l.length * B
  | [], _, _ => by simp [allE]
  | x :: l, m, h => by
    have h1 := allE_len n l (m + 1) fun y hy => h y (by simp [hy])
    have h2 := rowE_len n (m : Int) x.2 0
    have h3 := h x (by simp)
    rw [allE, List.length_append, List.length_cons, Nat.succ_mul]
    omega
theorem ed_len {B : Nat} (h : ∀ x ∈ s.nodes, x.2.length ≤ B) : (edAt s m k n).length ≤ 1 + (s.nodes.length * B + B) := by
  have h1 : (allE n 0 (s.nodes.take m)).length ≤ s.nodes.length * B := by
    refine Nat.le_trans (allE_len (B := B) n _ 0 fun x hx => h x (List.mem_of_mem_take hx)) (Nat.mul_le_mul_right B ?_)
    rw [List.length_take]
    omega
  have h2 : (rowE n (m : Int) 0 (((s.nodes[m]?).map (·.2)).getD [] |>.take k)).length ≤ B := by
    refine Nat.le_trans (rowE_len _ _ _ _) ?_
    rw [List.length_take]
    refine Nat.le_trans (Nat.min_le_right _ _) ?_
    cases hx : s.nodes[m]? with
    | none => simp
    | some x => simpa using h x (List.mem_of_getElem? hx)
  unfold edAt
  rw [List.length_append, List.length_append]
  split <;> simp <;> omega
end
end Go.Proofs.YtphopkjgfkaihaaGreatDoor
namespace Go.Proofs.YtphopkjgfkaihaaGreatDoor
open Go.RowKit

theorem wpList_bd0 {ops : Array Oper} {rest : List Oper} {op : Oper} {act : Act} {w : World} {Q : Exit → Act → World → Prop} (hgd : op.guard = none) (T : TypeId) (ho : op.op = .build T #[]) {v : Value} (hb : ∀ w, (Instr.build T #[]).run Tryz.prog w = .ok v w)
    (hk : wpList Tryz.prog ops Q rest (act.put op.dst v) w) : wpList Tryz.prog ops Q (op :: rest) act w :=
  wpList_val hgd (by unfold execOp; simp only [ho, List.map_toArray, List.map_nil, hb, Sem.run_bind, Sem.run_pure, Result.andThen_ok]) hk
theorem build_Sk0 (w : World) : (Instr.build 34 #[]).run Tryz.prog w = .ok (.agg (skC (0, noT) (.slice none 0 0)).toArray) w := run_build w _ _ _ (by kernel_rfl)
set_option maxHeartbeats 4000000 in
set_option maxRecDepth 100000 in
theorem build_out (fa : Option Addr) (n fc : Nat) (f : List I) (cv : Value) (w : World) (hl : Laid w) (hf : FunAt w (.slice fa n fc) f) (hr : (chkF f).2 ≠ 0) :
    Calls Tryz.prog 12 #[.slice fa n fc, cv] w fun e w' => e = .returned (.tuple #[.agg (skC (0, noT) (.slice none 0 0)).toArray, .int .i64 1]) ∧ New w w' := by
  have HL := Lib.hid hl
  have HF := Lib.hid hf
  have q1 : ((chkF f).2 == 0) = false := bneq_of hr
  have HS := Lib.hid (Sep.start w)
  clear hl hf hr
  have T1 : Hid True := Lib.hid trivial
  have T2 : Hid True := Lib.hid trivial
  have T3 : Hid True := Lib.hid trivial
  have T4 : Hid True := Lib.hid trivial
  have T5 : Hid True := Lib.hid trivial
  go_enter Tryz.func12, Tryz.ntmps12
  go_wp2_with (first
    | (clear T1; refine wpList_boxB rfl 22 (.tmp 0) rfl [.slice fa n fc] rfl HS.out ?_; intro wa gf hs; replace HS := Lib.hid hs; clear hs)
    | (clear T2; refine wpList_alB rfl 34 rfl _ zeroSk_run _ rfl HS.out ?_; intro wb gr hs; replace HS := Lib.hid hs; have cf := HS.out.cell 1 rfl (k := 0) rfl; clear hs)
    | (clear T3; go_at_call 31; refine (asmRight_any _ f _ (HL.out.new HS.out.nw) (HF.out.new HS.out.nw)).mono ?_; rw [q1]; rintro e wc ⟨rfl, hn⟩; replace HS := Lib.hid (HS.out.go hn); clear hn cf)
    | (clear T4; refine wpList_bd0 rfl 34 rfl build_Sk0 ?_)
    | (clear T5; refine wpList_stSW 0 rfl rfl 34 (.tmp 4) (.tmp 16) rfl gr rfl _ rfl HS.out rfl (skC (0, noT) (.slice none 0 0)) rfl rfl (skC_one _ rfl) (by rw [skC_len]; exact infoSk) ?_; intro w5 hs; replace HS := Lib.hid hs; clear hs))
  exact bodyPost_ret (results_ct (p := 4) (u := 5) rfl _ _ gr _ (.int .i64 1) rfl (loadVar_C (HS.out.has 0 rfl) Tryz.underlying34 rfl (by rw [skC_len]; exact infoSk)) rfl) rfl ⟨rfl, HS.out.nw⟩
/-! Ways. -/
abbrev Ed := Int × Int
def edK (e : Ed) : List Value := [.int .i64 e.1, .int .i64 e.2]
abbrev edgesO (v : Value) (es : List Ed) : Asn := rowA 42 2 (leafE edK) v es
def esE (es : List Ed) (c : List Value) : Asn := Asn.ex fun v => (Asn.say (c = [v])).star (edgesO v es)
abbrev waysO (v : Value) (W : List (List Ed)) : Asn := rowA 55 1 esE v W
theorem infoEd3 : (Tryz.prog.info? 42).map (fun i => (i.zero, i.size, i.bytes)) = some (some (.agg #[.int .i64 0, .int .i64 0]), 2, 16) := by kernel_rfl
theorem infoEs1 : (Tryz.prog.info? 55).map (·.size) = some 1 := by kernel_rfl
theorem sizeEs : ∀ w, (sizeOf 55).run Tryz.prog w = .ok 1 w := Tryz.sizeOf55
theorem infoEd2 : (Tryz.prog.info? 42).map (·.size) = some 2 := by kernel_rfl
theorem Sep.ways {w0 w : World} {l : List Asn} {v : Value} {es : List Ed} (h : Sep w0 w (edgesO v es :: l)) : Sep w0 w (esE es [v] :: l) :=
  h.as fun F hF => ⟨v, fun _ => False, F, rfl, hF, fun _ h _ => h, fun _ h => h.elim, fun _ h => h⟩
/-- An edge more, if it leads to a node. -/
def addE (W : List (List Ed)) (to : Int) (e : Ed) : List (List Ed) := if 0 ≤ to ∧ to < W.length then W.set to.toNat (W.getD to.toNat [] ++ [e]) else W
set_option maxHeartbeats 4000000 in
set_option maxRecDepth 100000 in
theorem add_no (to : Int) (e : Ed) (gw : Nat) (v : Value) (W : List (List Ed)) {w0 w : World} {l : List Asn} (ht : ¬ (0 ≤ to ∧ to < W.length)) (hs : Sep w0 w (blk gw 88 [v] :: waysO v W :: l)) :
    Calls Tryz.prog 54 #[.int .i64 to, .agg #[.int .i64 e.1, .int .i64 e.2], .pointer (some ⟨gw, 0, none⟩)] w fun r w' => r = .returned (.tuple #[]) ∧ Sep w0 w' (blk gw 88 [v] :: waysO v W :: l) := by
  obtain ⟨ao, cap, rfl⟩ := rowA_form (hs.rd 1 rfl)
  have HS := Lib.hid hs
  have T1 : Hid True := Lib.hid trivial
  clear hs
  by_cases h0 : 0 ≤ to
  · have d0 : decide (0 ≤ to) = true := decide_eq_true h0
    have h1 : ¬ to < W.length := fun h => ht ⟨h0, h⟩
    have d1 : decide (to < W.length) = false := decide_eq_false h1
    clear ht
    go_enter Tryz.func54, Tryz.ntmps54
    go_wp2_with (first
      | (clear T1; refine wpList_boxB rfl 42 (.tmp 1) rfl (edK e) rfl HS.out ?_; intro wa ge hs; replace HS := Lib.hid hs; have cw := HS.out.cell 1 rfl (k := 0) rfl; clear hs))
    exact bodyPost_end (results_none rfl _ _ _) rfl ⟨rfl, HS.out.drop⟩
  · have d0 : decide (0 ≤ to) = false := decide_eq_false h0
    clear ht
    go_enter Tryz.func54, Tryz.ntmps54
    go_wp2_with (first
      | (clear T1; refine wpList_boxB rfl 42 (.tmp 1) rfl (edK e) rfl HS.out ?_; intro wa ge hs; replace HS := Lib.hid hs; have cw := HS.out.cell 1 rfl (k := 0) rfl; clear hs))
    exact bodyPost_end (results_none rfl _ _ _) rfl ⟨rfl, HS.out.drop⟩
set_option maxHeartbeats 8000000 in
set_option maxRecDepth 100000 in
theorem add_yes (to : Nat) (e : Ed) (gw : Nat) (v : Value) (W : List (List Ed)) (es : List Ed) {w0 w : World} {l : List Asn} (ht : W[to]? = some es) (_hW : W.length ≤ 100000) (hes : es.length ≤ 100000) (hs : Sep w0 w (blk gw 88 [v] :: waysO v W :: l)) :
    Calls Tryz.prog 54 #[.int .i64 (to : Int), .agg #[.int .i64 e.1, .int .i64 e.2], .pointer (some ⟨gw, 0, none⟩)] w fun r w' => r = .returned (.tuple #[]) ∧ Sep w0 w' (blk gw 88 [v] :: waysO v (W.set to (es ++ [e])) :: l) := by
  have HS := Lib.hid hs
  have T1 : Hid True := Lib.hid trivial
  have HT := Lib.hid ht
  have hlt := some_lt ht
  have d1 : decide ((to : Int) < W.length) = true := decide_eq_true (by omega)
  have d0 : decide (0 ≤ (to : Int)) = true := decide_eq_true (by omega)
  obtain ⟨ao, cap, hv⟩ := rowA_form (hs.rd 1 rfl)
  subst hv
  clear hs ht
  go_enter Tryz.func54, Tryz.ntmps54
  go_wp2_with (first
    | (clear T1; refine wpList_boxB rfl 42 (.tmp 1) rfl (edK e) rfl HS.out ?_; intro wa ge hs; replace HS := Lib.hid hs; have cw := HS.out.cell 1 rfl (k := 0) rfl; clear hs))
  obtain ⟨b, cap', c, hv, hcl, hrg, hs⟩ := HS.out.openAt 2 rfl HT.out
  simp only [Value.slice.injEq, true_and] at hv
  obtain ⟨rfl, rfl⟩ := hv
  obtain ⟨vi, hs⟩ := hs.un
  obtain ⟨hc, hs⟩ := hs.split.said
  subst hc
  obtain ⟨ia, ic, hvi⟩ := rowA_form hs.hd
  subst hvi
  have S0 : (wa.drew.cell? ⟨gw, 0, none⟩ = some (.slice (some ⟨b, 0, none⟩) W.length cap) ∧ wa.drew.cell? ⟨b, to * 1, none⟩ = some (.slice ia es.length ic)) ∧ HasC wa.drew ge 42 (edK e) := ⟨⟨cw, by have := hrg 0 _ rfl; rw [Nat.add_zero] at this; exact this⟩, HasC.new (HS.out.has 0 rfl) ((New.refl wa).drew)⟩
  have hS := hs.go ((New.refl wa).drew)
  have hix := fun w => ixRow (P := Tryz.prog) Tryz.underlying88 sizeEs b to W.length cap hlt w
  refine wp_region_noPanic ?_
  refine region_late (k := 10) (S := fun w' => (w'.cell? ⟨gw, 0, none⟩ = some (.slice (some ⟨b, 0, none⟩) W.length cap) ∧ w'.cell? ⟨b, to * 1, none⟩ = some (.slice ia es.length ic)) ∧ HasC w' ge 42 (edK e)) (by kernel_rfl) S0 (fun _ => ?_)
  refine late_take (i := 0) (v := .slice (some ⟨b, 0, none⟩) W.length cap) rfl (by kernel_rfl) (by kernel_rfl) (by kernel_rfl) (by kernel_rfl) (fun _ _ _ h => h) (ldV_if rfl 88 Tryz.isAgg88 (.tmp 2) rfl ⟨gw, 0, none⟩ rfl (fun w' h => h.1.1)) S0 ?_
  simp only [List.getElem_toArray, List.getElem_cons_zero, Act.put, List.setIfInBounds_toArray, List.set_cons_zero, List.set_cons_succ]
  refine late_take (i := 1) (v := .int .i64 (to : Int)) rfl (by kernel_rfl) (by kernel_rfl) (by kernel_rfl) (by kernel_rfl) (fun _ _ _ h => h) (Or.inl ⟨rfl, fun _ _ => by go_simp⟩) S0 ?_
  simp only [List.getElem_toArray, List.getElem_cons_zero, List.getElem_cons_succ, Act.put, List.setIfInBounds_toArray, List.set_cons_zero, List.set_cons_succ]
  refine late_take (i := 2) (v := .slice (some ⟨b, 0, none⟩) W.length cap) rfl (by kernel_rfl) (by kernel_rfl) (by kernel_rfl) (by kernel_rfl) (fun _ _ _ h => h) (ldV_if rfl 88 Tryz.isAgg88 (.tmp 2) rfl ⟨gw, 0, none⟩ rfl (fun w' h => h.1.1)) S0 ?_
  simp only [List.getElem_toArray, List.getElem_cons_zero, List.getElem_cons_succ, Act.put, List.setIfInBounds_toArray, List.set_cons_zero, List.set_cons_succ]
  refine late_take (i := 3) (v := .int .i64 (to : Int)) rfl (by kernel_rfl) (by kernel_rfl) (by kernel_rfl) (by kernel_rfl) (fun _ _ _ h => h) (Or.inl ⟨rfl, fun _ _ => by go_simp⟩) S0 ?_
  simp only [List.getElem_toArray, List.getElem_cons_zero, List.getElem_cons_succ, Act.put, List.setIfInBounds_toArray, List.set_cons_zero, List.set_cons_succ]
  refine late_take (i := 4) (v := .pointer (some ⟨b, to * 1, none⟩)) rfl (by kernel_rfl) (by kernel_rfl) (by kernel_rfl) (by kernel_rfl) (fun _ _ _ h => h) (ixV_if rfl 88 (.tmp 15) (.tmp 16) rfl _ _ _ rfl rfl hix) S0 ?_
  simp only [List.getElem_toArray, List.getElem_cons_zero, List.getElem_cons_succ, Act.put, List.setIfInBounds_toArray, List.set_cons_zero, List.set_cons_succ]
  refine late_take (i := 5) (v := .slice ia es.length ic) rfl (by kernel_rfl) (by kernel_rfl) (by kernel_rfl) (by kernel_rfl) (fun _ _ _ h => h) (ldV_if rfl 55 Tryz.isAgg55 (.tmp 17) rfl ⟨b, to * 1, none⟩ rfl (fun w' h => h.1.2)) S0 ?_
  simp only [List.getElem_toArray, List.getElem_cons_zero, List.getElem_cons_succ, Act.put, List.setIfInBounds_toArray, List.set_cons_zero, List.set_cons_succ]
  refine late_take (i := 6) (v := .agg #[.int .i64 e.1, .int .i64 e.2]) rfl (by kernel_rfl) (by kernel_rfl) (by kernel_rfl) (by kernel_rfl) (fun _ _ _ h => h) (yieldsIf_load_mid (by rfl) _ _ rfl ge 0 rfl (edK e) _ (fun w' h => HasC.all h.2) Tryz.underlying42 rfl infoEd2) S0 ?_
  simp only [List.getElem_toArray, List.getElem_cons_zero, List.getElem_cons_succ, Act.put, List.setIfInBounds_toArray, List.set_cons_zero, List.set_cons_succ]
  refine late_forced [7, 8, 9, 10] _ _ _ (by kernel_rfl) ?_
  have hb := hS.new (g := wa.drew.heap.size) (cs := edK e) (ty := 42) (alloc_new _ _) (Nat.le_refl _) (HasC.box wa.drew _ _)
  have hbl := hb.has 0 rfl
  refine LL_val rfl rfl (run_bsB 55 42 (.tmp 19) rfl Tryz.underlying55 infoEd3 (by decide) (by decide) (edK e) (.agg #[.int .i64 e.1, .int .i64 e.2]) rfl rfl rfl) ⟨⟨(alloc_new _ _).cell' S0.1.1, (alloc_new _ _).cell' S0.1.2⟩, S0.2.new (alloc_new _ _)⟩ ?_
  simp only [Act.put, List.setIfInBounds_toArray]
  generalize wa.drew.alloc (.cells (edK e).toArray 42) = wb at hb hbl ⊢
  obtain ⟨v', wc, hr, hd⟩ := run_appA (ty := 55) (P := Tryz.prog) (T := 55) (e := 42) Tryz.underlying55 infoEd3 rfl (by decide) (by decide) (E := leafE edK) (y := e) ((hb.pull 1 rfl).say (p := edK e = edK e) rfl) hes hbl rfl (by simp [edK, Value.oneCell'])
  obtain ⟨oa, oc, hv'⟩ := rowA_form (hd.rd 0 rfl)
  rw [List.length_append, List.length_singleton] at hv'
  subst hv'
  have S1 : (wc.cell? ⟨gw, 0, none⟩ = some (.slice (some ⟨b, 0, none⟩) W.length cap) ∧ wc.cell? ⟨b, to * 1, none⟩ = some (.slice ia es.length ic)) ∧ HasC wc ge 42 (edK e) := ⟨⟨hd.cell 3 rfl rfl, by have := holeA_at (hd.rd 4 rfl) rfl 0 _ rfl; rw [Nat.add_zero] at this; exact this⟩, hd.has 2 rfl⟩
  refine LL_val rfl rfl (run_appO (.tmp 18) (.tmp 20) 55 rfl rfl rfl hr) S1 ?_
  simp only [Act.put]
  refine LL_val (v := .pointer (some ⟨b, to * 1, none⟩)) rfl rfl (by unfold execOp; simp only [Act.eval]; simp [hix]) S1 ?_
  simp only [Act.put]
  obtain ⟨wd, hr2, hs2⟩ := run_stEl 3 55 b to 0 (.slice oa (es.length + 1) oc) (y := es ++ [e]) (c := [.slice ia es.length ic]) hd.ways rfl rfl (by decide) rfl rfl rfl infoEs1
  refine LL_skip rfl rfl rfl (run_stO 55 (.tmp 22) (.tmp 21) rfl rfl rfl hr2) (fun h => absurd rfl h) ?_
  refine NoPanic.normal ?_
  have HX := Lib.hid hs2.drop.drop
  clear hs2 hr2 hr hd S1
  go_wp2
  exact bodyPost_end (results_none rfl _ _ _) rfl ⟨rfl, HX.out⟩
end Go.Proofs.YtphopkjgfkaihaaGreatDoor
namespace Go.Proofs.YtphopkjgfkaihaaGreatDoor
open Go.RowKit

theorem add_is (to : Int) (e : Ed) (gw : Nat) (v : Value) (N : Nat) (g g' : Int → List Ed) {w0 w : World} {l : List Asn} (hN : N ≤ 100000) (hlen : ∀ n, (g n).length ≤ 100000) (hg : ∀ n : Nat, n < N → g' n = g n ++ if to = n then [e] else []) (hs : Sep w0 w (blk gw 88 [v] :: waysO v (edTab N g) :: l)) :
    Calls Tryz.prog 54 #[.int .i64 to, .agg #[.int .i64 e.1, .int .i64 e.2], .pointer (some ⟨gw, 0, none⟩)] w fun r w' => r = .returned (.tuple #[]) ∧ Sep w0 w' (blk gw 88 [v] :: waysO v (edTab N g') :: l) := by
  by_cases h : 0 ≤ to ∧ to < N
  · obtain ⟨q, rfl⟩ : ∃ q : Nat, to = (q : Int) := ⟨to.toNat, by omega⟩
    have hq : q < N := by omega
    rw [← edTab_set (g := g) (g' := g') (e := e) hq fun n hn => by
      rw [hg n hn]
      by_cases e1 : n = q
      · subst e1
        rw [if_pos rfl, if_pos rfl]
      · rw [if_neg e1, if_neg (by omega), List.append_nil]]
    exact add_yes q e gw v _ _ (edTab_at g hq) (by rw [edTab_len]; exact hN) (hlen _) hs
  · rw [← edTab_none (g := g) (g' := g') fun n hn => by rw [hg n hn, if_neg (by omega), List.append_nil]]
    exact add_no to e gw v _ (by rw [edTab_len]; exact h) hs
theorem build_Ed1 (a : Int) (w : World) : (Instr.build 42 #[(0, .int .i64 a)]).run Tryz.prog w = .ok (.agg #[.int .i64 a, .int .i64 0]) w := run_build w _ _ _ (by kernel_rfl)
theorem build_Ed2 (a b : Int) (w : World) : (Instr.build 42 #[(0, .int .i64 a), (1, .int .i64 b)]).run Tryz.prog w = .ok (.agg #[.int .i64 a, .int .i64 b]) w := run_build w _ _ _ (by kernel_rfl)
theorem zeroWs_run (w : World) : (zeroValue 88).run Tryz.prog w = .ok (.slice none 0 0) w := Tryz.zeroValue88 w
theorem infoWs : (Tryz.prog.info? 88).map (·.size) = some 1 := by kernel_rfl
theorem infoEs3 : (Tryz.prog.info? 55).map (fun i => (i.zero, i.size, i.bytes)) = some (some (.slice none 0 0), 1, 24) := by kernel_rfl
theorem zeroNd_run (w : World) : (zeroValue 82).run Tryz.prog w = .ok (.agg (nodeC 0 (.slice none 0 0)).toArray) w := Tryz.zeroValue82 w
theorem infoNd : (Tryz.prog.info? 82).map (·.size) = some 2 := by kernel_rfl
theorem sizeOt : ∀ w, (sizeOf 31).run Tryz.prog w = .ok 25 w := Tryz.sizeOf31
theorem skC_to (o : Wyo) (v : Value) : (skC o v)[0]? = some (.int .i64 o.1) := rfl
theorem esE_nil (w : World) : (esE [] [.slice none 0 0]).on w (fun _ => False) :=
  ⟨.slice none 0 0, fun _ => False, fun _ => False, rfl, ⟨[], rfl, by simp, World.ownsRow_nil w 0 _ _, fun _ => False, fun _ => False, by simp [Value.ownBlock], trivial, fun _ h => h.elim, fun _ h => h, fun _ h => h⟩, fun _ h _ => h, fun _ h => h, fun _ h => h⟩
set_option maxHeartbeats 16000000 in
set_option maxRecDepth 100000 in
theorem ways_any (s : Skl) (v : Value) (w : World) (hs : (nodesO v s.nodes).rd w) (hN : s.nodes.length ≤ 1000) (hB : ∀ x ∈ s.nodes, x.2.length ≤ 10) :
    Calls Tryz.prog 28 #[.agg (skC s.entry v).toArray] w fun r w' => ∃ vw, r = .returned vw ∧ Sep w w' [waysO vw (edTab s.nodes.length (edgesA s))] := by
  have HR := Lib.hid hs
  have HB := Lib.hid hB
  obtain ⟨na, nc, hv⟩ := rowA_form hs
  obtain ⟨N, HN⟩ : ∃ N, Hid (s.nodes.length = N) := ⟨_, Lib.hid rfl⟩
  rw [HN.out] at hv hN ⊢
  subst hv
  have HLN : ∀ m k, Hid (∀ n, (edAt s m k n).length ≤ 100000) := fun m k => Lib.hid fun n => by
    have h1 := ed_len (m := m) (k := k) (n := n) hB
    rw [HN.out] at h1
    omega
  have HS := Lib.hid (Sep.start w)
  obtain ⟨E, HE⟩ : ∃ E, Hid (s.entry = E) := ⟨_, Lib.hid rfl⟩
  rw [HE.out]
  have HG0 : Hid (∀ n : Nat, n < N → edAt s 0 0 n = [] ++ if E.1 = (n : Int) then [(-1, 0)] else []) := Lib.hid fun n _ => by rw [ed_zero, HE.out, List.nil_append]
  have HW0 : Hid (List.replicate N ([] : List Ed) = edTab N fun _ => []) := Lib.hid (by unfold edTab; rw [List.map_const', List.length_range])
  clear hs hB
  have T1 : Hid True := Lib.hid trivial
  have T2 : Hid True := Lib.hid trivial
  have T3 : Hid True := Lib.hid trivial
  have T4 : Hid True := Lib.hid trivial
  have T5 : Hid True := Lib.hid trivial
  have T6 : Hid True := Lib.hid trivial
  go_enter Tryz.func28, Tryz.ntmps28
  go_wp2_with (first
    | (clear T1; refine wpList_boxB rfl 34 (.tmp 0) rfl (skC E (.slice na N nc)) rfl HS.out ?_; intro wa gb hs; replace HS := Lib.hid hs; have cn := HS.out.cell 0 rfl (skC_nd _ _); clear hs)
    | (clear T2; at_make; refine wpList_mk1 rfl (.tmp 11) (.tmp 11) 88 55 rfl Tryz.underlying88 infoEs3 rfl (by decide) N rfl rfl (by omega) HS.out (E := esE) (x0 := []) esE_nil ?_; intro wb vb hs; rw [HW0.out] at hs; replace HS := Lib.hid hs; clear hs cn)
    | (clear T3; refine wpList_alB rfl 88 rfl _ zeroWs_run [.slice none 0 0] rfl HS.out ?_; intro wc gw hs; replace HS := Lib.hid hs; clear hs)
    | (clear T4; refine wpList_stC1 0 rfl rfl 88 (.tmp 3) (.tmp 12) rfl gw 0 rfl (.slice (some ⟨vb, 0, none⟩) N N) rfl HS.out rfl rfl (by simp) rfl infoWs ?_; intro wd hs; replace HS := Lib.hid hs; have ce := HS.out.cell 2 rfl (skC_to _ _); clear hs)
    | (clear T5; refine wpList_bd1 (a := .int .i64 (-1)) rfl 42 0 (.const (.int .i64 (-1))) rfl rfl (build_Ed1 (-1)) ?_)
    | (clear T6; go_at_call 54; refine (add_is E.1 (-1, 0) gw (.slice (some ⟨vb, 0, none⟩) N N) N (fun _ => []) (edAt s 0 0) (by omega) (fun _ => by simp) HG0.out HS.out).mono ?_; rintro e we ⟨rfl, hs⟩; replace HS := Lib.hid hs; have cn := HS.out.cell 2 rfl (skC_nd _ _); clear hs ce))
  go_loopw [23] (fun iv wr => ∃ m : Nat, iv = .int .i64 (m : Int) ∧ m ≤ N ∧ Hid (Sep w wr [blk gw 88 [.slice (some ⟨vb, 0, none⟩) N N], waysO (.slice (some ⟨vb, 0, none⟩) N N) (edTab N (edAt s m 0))])) (fun iv _ => N - (intOf iv).toNat)
  case atStart => exact ⟨0, rfl, by omega, Lib.hid (HS.out.dropAt 2 (by simp))⟩
  case round =>
    obtain ⟨m, rfl, hm, HT⟩ := hrel
    clear HS cn
    by_cases hmN : m < N
    · obtain ⟨x, hx⟩ : ∃ x, s.nodes[m]? = some x := ⟨_, List.getElem?_eq_getElem (by rw [HN.out]; exact hmN)⟩
      have HX := Lib.hid hx
      obtain ⟨b0, o0, c, hlc, hix, hrg, hEr⟩ := rowA_ix (P := Tryz.prog) HR.out 32 Tryz.underlying32 sizeNd hx
      obtain ⟨vo, hc0, hro⟩ : ∃ vo, c = nodeC x.1 vo ∧ (outsA vo x.2).rd w := by
        obtain ⟨F, ⟨vo, F1, F2, h1, h2, _, _, h3⟩, h4⟩ := hEr
        exact ⟨vo, h1, F2, h2, fun g hg => h4 g (h3 g hg)⟩
      subst hc0
      obtain ⟨oa, oc, hvo⟩ := rowA_form hro
      obtain ⟨K, HK⟩ : ∃ K, Hid (x.2.length = K) := ⟨_, Lib.hid rfl⟩
      have hK10 : K ≤ 10 := by rw [← HK.out]; exact HB.out x (List.mem_of_getElem? hx)
      rw [HK.out] at hvo
      subst hvo
      have HRO := Lib.hid hro
      have HRG := Lib.hid hrg
      have U1 : Hid True := Lib.hid trivial
      have U2 : Hid True := Lib.hid trivial
      have U3 : Hid True := Lib.hid trivial
      clear hx hlc hrg hEr hro
      go_wp2_with (first
        | (clear U1; refine wpList_load_mid rfl 82 (.tmp 26) rfl b0 o0 rfl (nodeC x.1 (.slice oa K oc)) _ (HRG.out _ HT.out.nw) Tryz.underlying82 rfl infoNd ?_)
        | (clear U2; refine wpList_alB rfl 82 rfl _ zeroNd_run _ rfl HT.out ?_; intro wx gx hs; replace HT := Lib.hid hs; clear hs)
        | (clear U3; refine wpList_stSW 0 rfl rfl 82 (.tmp 6) (.tmp 27) rfl gx rfl _ rfl HT.out rfl (nodeC x.1 (.slice oa K oc)) rfl rfl (by simp [nodeC, Value.oneCell']) infoNd ?_; intro wy hs; replace HT := Lib.hid hs; have cx := HT.out.cell 0 rfl (k := 1) rfl; clear hs))
      go_loopw [31] (fun iv wr => ∃ k : Nat, iv = .int .i64 (k : Int) ∧ k ≤ K ∧ Hid (Sep w wr [blk gw 88 [.slice (some ⟨vb, 0, none⟩) N N], waysO (.slice (some ⟨vb, 0, none⟩) N N) (edTab N (edAt s m k))])) (fun iv _ => K - (intOf iv).toNat)
      case atStart => exact ⟨0, rfl, by omega, Lib.hid HT.out.drop⟩
      case round =>
        obtain ⟨k, rfl, hk, HU⟩ := hrel
        clear HT cx
        by_cases hkK : k < K
        · obtain ⟨o, ho⟩ : ∃ o, x.2[k]? = some o := ⟨_, List.getElem?_eq_getElem (by rw [HK.out]; exact hkK)⟩
          obtain ⟨b1, o1, hix1, hrg1⟩ := leaf_ix (P := Tryz.prog) HRO.out 80 Tryz.underlying80 sizeOt ho
          have HG : Hid (∀ n : Nat, n < N → edAt s m (k + 1) n = edAt s m k n ++ if o.1 = (n : Int) then [((m : Int), (k : Int))] else []) := Lib.hid fun n _ => ed_step HX.out ho
          have HRG1 := Lib.hid hrg1
          have V1 : Hid True := Lib.hid trivial
          have V2 : Hid True := Lib.hid trivial
          have V3 : Hid True := Lib.hid trivial
          have V4 : Hid True := Lib.hid trivial
          have V5 : Hid True := Lib.hid trivial
          clear ho hrg1 hix
          go_wp2_with (first
            | (clear V1; refine wpList_load_mid rfl 31 (.tmp 34) rfl b1 o1 rfl (outK o) _ (HRG1.out _ HU.out.nw) Tryz.underlying31 rfl (by rw [outK_len]; exact infoO) ?_)
            | (clear V2; refine wpList_alB rfl 31 rfl _ zeroOt_run _ rfl HU.out ?_; intro w1 g1 hs; replace HU := Lib.hid hs; clear hs)
            | (clear V3; refine wpList_stSW 0 rfl rfl 31 (.tmp 8) (.tmp 35) rfl g1 rfl _ rfl HU.out rfl (outK o) rfl (by rw [outK_len, outK_len]) (outK_one o) (by rw [outK_len]; exact infoO) ?_; intro w2 hs; replace HU := Lib.hid hs; have c1 := HU.out.cell 0 rfl (k := 0) rfl; replace HU := Lib.hid hs.drop; clear hs)
            | (clear V4; refine wpList_bd2 (a := .int .i64 (m : Int)) (b := .int .i64 (k : Int)) rfl 42 0 1 (.tmp 39) (.tmp 40) rfl rfl rfl (build_Ed2 m k) ?_)
            | (clear V5; go_at_call 54; refine (add_is o.1 (m, k) gw (.slice (some ⟨vb, 0, none⟩) N N) N (edAt s m k) (edAt s m (k + 1)) (by omega) (HLN m k).out HG.out HU.out).mono ?_; rintro e w3 ⟨rfl, hs⟩; replace HU := Lib.hid hs; clear hs c1))
          go_roundw
          case rel => exact ⟨k + 1, by go_num, by omega, HU⟩
          case measure => simp [intOf]; omega
        · have HG : Hid (edTab N (edAt s m k) = edTab N (edAt s (m + 1) 0)) := Lib.hid (edTab_none fun n _ => (ed_next HX.out (by rw [HK.out]; omega)).symm)
          rw [HG.out] at HU
          clear hix
          go_wp2
          go_roundw
          case rel => exact ⟨m + 1, by go_num, by omega, HU⟩
          case measure => simp [intOf]; omega
    · have HG : Hid (edTab N (edAt s m 0) = edTab N (edgesA s)) := Lib.hid (edTab_none fun n _ => (ed_done (by rw [HN.out]; omega)).symm)
      rw [HG.out] at HT
      have cw := HT.out.cell 0 rfl (k := 0) rfl
      go_wp2
      go_ret
      exact ⟨_, rfl, HT.out.drop⟩
end Go.Proofs.YtphopkjgfkaihaaGreatDoor
namespace Go.Proofs.YtphopkjgfkaihaaGreatDoor
open Go.RowKit

theorem row_none (w : World) : RowAt w (.slice none 0 0) (([] : List Bool).map .bool) := ⟨none, 0, rfl, fun _ hi => absurd hi (Nat.not_lt_zero _)⟩
theorem row_two (w : World) (a b : Bool) (T : TypeId) : RowAt (w.alloc (.cells #[.bool a, .bool b] T)) (.slice (some ⟨w.heap.size, 0, none⟩) 2 2) ([a, b].map .bool) := by
  have h := HasC.box w T [.bool a, .bool b]
  refine ⟨some ⟨w.heap.size, 0, none⟩, 2, rfl, fun i hi => ⟨w.heap.size, 0, rfl, ?_⟩⟩
  rw [Nat.zero_add]
  exact h.cell (List.getElem?_eq_getElem hi)
theorem wpList_ldAG {ops : Array Oper} {rest : List Oper} {op : Oper} {act : Act} {w : World} {Q : Exit → Act → World → Prop} (hw : Region.wanted op (yielded ops act.tmps) = true) (ty : TypeId) (x : Operand) (ho : op.op = .load ty x) (b o : Nat) (hx : act.eval x = .pointer (some ⟨b, o, none⟩)) (cs : List Value) (d : TypeDesc) (hc : w.rangeAt b o cs)
    (hu : Tryz.prog.underlying ty = some d) (hd : d.isRow = true) (hi : (Tryz.prog.info? ty).map (·.size) = some cs.length) (h : wpList Tryz.prog ops Q rest (act.put op.dst (.agg cs.toArray)) w) : wpList Tryz.prog ops Q (op :: rest) act w := by
  unfold wpList
  rw [if_pos hw]
  exact .inl (wp_load_mid ty x ho b o hx cs d hc hu hd hi h)
theorem node_rd {x : Int × List Wyo} {c : List Value} {w : World} (h : (nodeE x c).rd w) : ∃ v, c = nodeC x.1 v ∧ (outsA v x.2).rd w := by
  obtain ⟨F, ⟨v, F1, F2, h1, h2, _, _, h3⟩, h4⟩ := h
  exact ⟨v, h1, F2, h2, fun g hg => h4 g (h3 g hg)⟩
theorem es_rd {es : List Ed} {c : List Value} {w : World} (h : (esE es c).rd w) : ∃ v, c = [v] ∧ (edgesO v es).rd w := by
  obtain ⟨F, ⟨v, F1, F2, h1, h2, _, _, h3⟩, h4⟩ := h
  exact ⟨v, h1, F2, h2, fun g hg => h4 g (h3 g hg)⟩
theorem sizeEd : ∀ w, (sizeOf 42).run Tryz.prog w = .ok 2 w := Tryz.sizeOf42
theorem eqIn_ed (d : Nat) (x y : Int) (w : World) : (Op.equalIn (d + 2) 42 (.agg #[.int .i64 x, .int .i64 y]) (.agg #[.int .i64 x, .int .i64 y])).run Tryz.prog w = .ok true w := by
  have hS : Tryz.prog.underlying 42 = some (.struct (Tryz.prog.fieldsOf 42)) := by kernel_rfl
  rw [run_equalIn_agg w (d + 1) 42 _ _ hS (by kernel_rfl)]
  simp only [Program.fieldsOf, Tryz.underlying42]
  have u3 := Tryz.underlying3
  have a3 := Tryz.isAgg3
  go_simp
theorem eql_ed (x y : Int) (w : World) : (binOp .eql 42 (.agg #[.int .i64 x, .int .i64 y]) (.agg #[.int .i64 x, .int .i64 y])).run Tryz.prog w = .ok (.bool true) w := by
  rw [run_eql_struct, show (10000 : Nat) = 9998 + 2 from rfl, eqIn_ed 9998 _ _ w]
  simp
theorem neq_ed (x y : Int) (w : World) : (binOp .neq 42 (.agg #[.int .i64 x, .int .i64 y]) (.agg #[.int .i64 x, .int .i64 y])).run Tryz.prog w = .ok (.bool false) w := by
  rw [run_neq_struct, show (10000 : Nat) = 9998 + 2 from rfl, eqIn_ed 9998 _ _ w]
  simp
end Go.Proofs.YtphopkjgfkaihaaGreatDoor
