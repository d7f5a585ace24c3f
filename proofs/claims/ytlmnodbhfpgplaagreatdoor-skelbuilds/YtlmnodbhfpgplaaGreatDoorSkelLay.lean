/-
  Layer 10: maps that number places; what a skeleton owns; the contract of Build's closure, which lays a way.
-/
import Derived.Test.YtlmnodbhfpgplaaGreatDoorSkelOwn
import Derived.MapKept
import Derived.Carry
namespace Go.Proofs.YtlmnodbhfpgplaaGreatDoor
open Go.RowKit

/-! A map of numbers that numbers a list: the i-th key has the value i. -/
def mpE : List Int → Nat → List MapEntry
  | [], _ => []
  | p :: ps, i => { key := .int .i64 p, val := .int .i64 (i : Int), born := i } :: mpE ps (i + 1)
def mpO (ps : List Int) : Obj := .map (mpE ps 0).toArray ps.length
theorem mp_find (p : Int) : ∀ (ps : List Int) (i : Nat), Instr.findNow (.int .i64) (.int .i64 p) (mpE ps i) i = some (if p ∈ ps then some (i + ps.idxOf p, .int .i64 ((i + ps.idxOf p : Nat) : Int)) else none)
  | [], i => by simp [mpE, Instr.findNow]
  | q :: ps, i => by
    by_cases h : p = q
    · subst h
      simp [mpE, Instr.findNow, Instr.sameNow]
    · have hb : (p == q) = false := by simpa using h
      have hq : (q == p) = false := by simpa using Ne.symm h
      simp only [mpE, Instr.findNow, Instr.sameNow, if_true, hb, mp_find p ps (i + 1), List.mem_cons, h, false_or, List.idxOf_cons, hq, cond_false]
      rw [show i + 1 + ps.idxOf p = i + (ps.idxOf p + 1) by omega]
theorem mpE_app : ∀ (ps : List Int) (p : Int) (i : Nat), mpE (ps ++ [p]) i = mpE ps i ++ [{ key := .int .i64 p, val := .int .i64 ((i + ps.length : Nat) : Int), born := i + ps.length }]
  | [], p, i => by simp [mpE]
  | q :: ps, p, i => by
    simp only [List.cons_append, mpE, mpE_app ps p (i + 1), List.length_cons]
    rw [show i + 1 + ps.length = i + (ps.length + 1) by omega]
theorem run_lookM {P : Program} {w : World} {g : Nat} {t kt et : TypeId} {ps : List Int} (p : Int) (ht : P.underlying t = some (.map kt et)) (hk : P.underlying kt = some (.int .i64)) (hz : ∀ w, (zeroValue et).run P w = .ok (.int .i64 0) w) (hb : w.heap[g]? = some (mpO ps)) :
    (Instr.lookup t (.map (some g)) (.int .i64 p) true).run P w = .ok (if p ∈ ps then .tuple #[.int .i64 (ps.idxOf p : Nat), .bool true] else .tuple #[.int .i64 0, .bool false]) w := by
  have hc : ∀ e, (Instr.checkKey e 10000 kt (.int .i64 p)).run P w = .ok () w := fun e => MapKept.run_checkKey (k := .int .i64 p) hk rfl e 9999
  have hf := mp_find p ps 0
  have hg : (getObj g).run P w = .ok (.map (mpE ps 0).toArray ps.length) w := MapKept.run_getObj_map hb
  have hfk : (Instr.findKey kt (.int .i64 p) (mpE ps 0)).run P w = .ok _ w := MapKept.run_findKey hk hf
  simp only [Nat.zero_add] at hfk
  by_cases h : p ∈ ps
  · simp only [if_pos h] at hfk ⊢
    simp [Instr.lookup, run_underlying ht, hg, hc, hfk, Result.andThen]
  · simp only [if_neg h] at hfk ⊢
    simp [Instr.lookup, run_underlying ht, hg, hc, hfk, hz, Result.andThen]
theorem run_numM {P : Program} {w : World} {g : Nat} {t kt et : TypeId} {ps : List Int} (p : Int) (ht : P.underlying t = some (.map kt et)) (hk : P.underlying kt = some (.int .i64)) (hb : w.heap[g]? = some (mpO ps)) (hp : p ∉ ps) :
    (Instr.mapUpdate t (.map (some g)) (.int .i64 p) (.int .i64 ((ps.length : Nat) : Int))).run P w = .ok () (putO w g (mpO (ps ++ [p]))) := by
  have hc : ∀ e, (Instr.checkKey e 10000 kt (.int .i64 p)).run P w = .ok () w := fun e => MapKept.run_checkKey (k := .int .i64 p) hk rfl e 9999
  have hf := mp_find p ps 0
  have hg : (getObj g).run P w = .ok (.map (mpE ps 0).toArray ps.length) w := MapKept.run_getObj_map hb
  have hfk : (Instr.findKey kt (.int .i64 p) (mpE ps 0)).run P w = .ok _ w := MapKept.run_findKey hk hf
  simp only [if_neg hp] at hfk
  have hs : ∀ o, (setObj g o).run P w = .ok () { w with heap := w.heap.setIfInBounds g o } := fun o => MapKept.run_setObj_map o hb
  have e : mpO (ps ++ [p]) = .map ((mpE ps 0).toArray.push { key := .int .i64 p, val := .int .i64 ((ps.length : Nat) : Int), born := ps.length }) (ps.length + 1) := by
    unfold mpO
    rw [mpE_app, Nat.zero_add, List.length_append]
    simp
  rw [e]
  simp [Instr.mapUpdate, run_underlying ht, hg, hc, hfk, hs, Result.andThen, putO]
/-! What a skeleton owns. -/
def outK (o : Wyo) : List Value := .int .i64 o.1 :: (cellsT o.2).toList
theorem outK_len (o : Wyo) : (outK o).length = 25 := by
  unfold outK
  rw [List.length_cons, cellsT_len]
theorem outK_one (o : Wyo) : ∀ v ∈ outK o, v.oneCell' = true := by
  intro v hv
  unfold outK at hv
  rw [List.mem_cons] at hv
  rcases hv with rfl | hv
  · rfl
  · exact cellsT_one o.2 v hv
abbrev outsA (v : Value) (os : List Wyo) : Asn := rowA 58 25 (leafE outK) v os
def nodeC (p : Int) (v : Value) : List Value := [.int .i64 p, v]
def nodeE (x : Int × List Wyo) (c : List Value) : Asn := Asn.ex fun v => (Asn.say (c = nodeC x.1 v)).star (outsA v x.2)
abbrev nodesO (v : Value) (xs : List (Int × List Wyo)) : Asn := rowA 96 2 nodeE v xs
def skC (o : Wyo) (v : Value) : List Value := outK o ++ [v]
theorem skC_len (o : Wyo) (v : Value) : (skC o v).length = 26 := by
  unfold skC
  rw [List.length_append, outK_len]
  rfl
theorem skC_nd (o : Wyo) (v : Value) : (skC o v)[25]? = some v := by
  unfold skC
  rw [List.getElem?_append_right (by rw [outK_len]; omega), outK_len]
  rfl
theorem skC_set (o : Wyo) (v u : Value) : (skC o v).set 25 u = skC o u := by
  unfold skC
  rw [List.set_append_right _ _ (by rw [outK_len]; omega), outK_len]
  rfl
theorem Sep.node {w0 w : World} {l : List Asn} {v : Value} {os : List Wyo} (h : Sep w0 w (outsA v os :: l)) (p : Int) : Sep w0 w (nodeE (p, os) (nodeC p v) :: l) :=
  h.as fun F hF => ⟨v, fun _ => False, F, rfl, hF, fun _ h _ => h, fun _ h => h.elim, fun _ h => h⟩
theorem infoO : (Tryz.prog.info? 58).map (·.size) = some 25 := by kernel_rfl
theorem infoSk : (Tryz.prog.info? 61).map (·.size) = some 26 := by kernel_rfl
theorem infoNs : (Tryz.prog.info? 59).map (·.size) = some 1 := by kernel_rfl
theorem infoNd3 : (Tryz.prog.info? 96).map (fun i => (i.zero, i.size, i.bytes)) = some (some (.agg #[.int .i64 0, .slice none 0 0]), 2, 32) := by kernel_rfl
theorem zeroOt_run (w : World) : (zeroValue 58).run Tryz.prog w = .ok (.agg (outK (0, noT)).toArray) w := Tryz.zeroValue58 w
theorem build_O (p : Int) (t : Tb) (w : World) : (Instr.build 58 #[(0, .int .i64 p), (1, .agg (cellsT t))]).run Tryz.prog w = .ok (.agg (outK (p, t)).toArray) w := run_build w _ _ _ (by kernel_rfl)
theorem build_Nd (p : Int) (w : World) : (Instr.build 96 #[(0, .int .i64 p)]).run Tryz.prog w = .ok (.agg (nodeC p (.slice none 0 0)).toArray) w := run_build w _ _ _ (by kernel_rfl)
theorem resO (fn : Func) {p : Tmp} (h : fn.results = #[.cell p 58]) (tmps : Array Value) (w : World) (g : Nat) (o : Wyo) (hp : tmps.getD p undef = .pointer (some ⟨g, 0, none⟩)) (hg : HasC w g 58 (outK o)) :
    (results fn tmps).run Tryz.prog w = .ok (.agg (outK o).toArray) w :=
  results_cell_row h tmps w g _ _ _ _ hp hg Tryz.underlying58 rfl (by rw [List.size_toArray, outK_len]; exact infoO)
theorem wpList_numM {ops : Array Oper} {rest : List Oper} {op : Oper} {act : Act} {w0 w : World} {Q : Exit → Act → World → Prop} {l : List Asn} (i : Nat) (hgd : op.guard = none) (hdst : op.dst = none) (t kt et : TypeId) (m k x : Operand) (ho : op.op = .mapUpdate t m k x) (mo : Nat) (hm : act.eval m = .map (some mo)) (p : Int) (hk : act.eval k = .int .i64 p) (n : Int) (hx : act.eval x = .int .i64 n)
    (ht : Tryz.prog.underlying t = some (.map kt et)) (hkt : Tryz.prog.underlying kt = some (.int .i64)) {ps : List Int} (h : Sep w0 w l) (hA : l[i]? = some (objA mo (mpO ps))) (hn : n = (ps.length : Nat)) (hp : p ∉ ps)
    (hw : ∀ w', Sep w0 w' (l.set i (objA mo (mpO (ps ++ [p])))) → wpList Tryz.prog ops Q rest act w') : wpList Tryz.prog ops Q (op :: rest) act w := by
  subst hn
  have hb := h.obj i hA
  have hr := run_numM (P := Tryz.prog) p ht hkt hb hp
  exact wpList_run hgd hdst (w' := putO w mo (mpO (ps ++ [p]))) (by unfold execOp; simp only [ho, hm, hk, hx, hr, Sem.run_bind, Sem.run_pure, Result.andThen_ok]) (hw _ (h.setOAt i hA (Kept.put w mo _) (putO_same hb)))
theorem Sep.node0 {w0 w : World} {l : List Asn} (h : Sep w0 w l) (p : Int) : Sep w0 w (nodeE (p, []) (nodeC p (.slice none 0 0)) :: l) := (h.row0 58 25 (leafE outK)).node p
set_option maxHeartbeats 8000000 in
set_option maxRecDepth 100000 in
theorem lay_no (fv : Value) (f : List I) (p : Int) (gm mo gs gf : Nat) (ps : List Int) (o : Wyo) (v : Value) (xs : List (Int × List Wyo)) {w1 w0 w : World} {l : List Asn} (hl : Laid w1) (h1 : New w1 w0) (hf : FunAt w1 fv f) (hi : InF f p) (ht : toA f p < 0)
    (hs : Sep w0 w (blk gm 100 [.map (some mo)] :: objA mo (mpO ps) :: blk gs 61 (skC o v) :: nodesO v xs :: blk gf 22 [fv] :: l)) :
    Calls Tryz.prog 34 #[.int .i64 p, .pointer (some ⟨gf, 0, none⟩), .pointer (some ⟨gm, 0, none⟩), .pointer (some ⟨gs, 0, none⟩)] w fun e w' => e = .returned (.agg (outK (-1, tblA f p)).toArray) ∧
      Sep w0 w' (blk gm 100 [.map (some mo)] :: objA mo (mpO ps) :: blk gs 61 (skC o v) :: nodesO v xs :: blk gf 22 [fv] :: l) := by
  have HL := Lib.hid hl
  have H1 := Lib.hid h1
  have HF := Lib.hid hf
  have HI := Lib.hid hi
  have HS := Lib.hid hs
  have HW := Lib.hid (pth_wy hi)
  obtain ⟨fo, fc, rfl⟩ := hf.form
  obtain ⟨to, hto⟩ : ∃ to, toA f p = to := ⟨_, rfl⟩
  obtain ⟨tb, HTB⟩ : ∃ tb, Hid (tblA f p = tb) := ⟨_, Lib.hid rfl⟩
  obtain ⟨st, HST⟩ : ∃ st, Hid (stP (pthA f p) = st) := ⟨_, Lib.hid rfl⟩
  rw [hto] at ht
  have HTO := Lib.hid hto
  rw [HTB.out]
  have d0 : decide (to < 0) = true := decide_eq_true ht
  have T1 : Hid True := Lib.hid trivial
  have T2 : Hid True := Lib.hid trivial
  have T3 : Hid True := Lib.hid trivial
  have T4 : Hid True := Lib.hid trivial
  have T5 : Hid True := Lib.hid trivial
  have T6 : Hid True := Lib.hid trivial
  have T7 : Hid True := Lib.hid trivial
  clear hl h1 hf hi hs hto
  go_enter Tryz.func34, Tryz.ntmps34
  go_wp2_with (first
    | (clear T1; refine wpList_alB rfl 58 rfl _ zeroOt_run _ rfl HS.out ?_; intro wa go hs; replace HS := Lib.hid hs; have cf := HS.out.cell 5 rfl (k := 0) rfl; clear hs)
    | (clear T2; go_at_call 35; refine (path_is (q := to) (t := tb) (k := st) HL.out (H1.out.trans HS.out.nw) (HF.out.new (H1.out.trans HS.out.nw)) HI.out HW.out HTO.out HTB.out HST.out).mono ?_; rintro e wb ⟨rfl, hn⟩; replace HS := Lib.hid (HS.out.go hn); clear hn cf)
    | (clear T3; refine wpList_alB rfl 102 rfl _ zeroP_run _ rfl HS.out ?_; intro wc gp hs; replace HS := Lib.hid hs; clear hs)
    | (clear T4; refine wpList_stSW 0 rfl rfl 102 (.tmp 6) (.tmp 14) rfl gp rfl _ rfl HS.out rfl (pathC to tb st) rfl (by rw [pathC_len, pathC_len]) (pathC_one to tb st) (by rw [pathC_len]; exact infoPa) ?_; intro wd hs; replace HS := Lib.hid hs; have cp := HS.out.cell 0 rfl (k := 0) rfl; clear hs)
    | (clear T5; refine wpList_ldPt (to := to) (t := tb) (n := st) rfl (.tmp 19) rfl gp rfl (HS.out.has 0 rfl) ?_)
    | (clear T6; refine wpList_bd2 (a := .int .i64 (-1)) (b := .agg (cellsT tb)) rfl 58 0 1 (.const (.int .i64 (-1))) (.tmp 20) rfl rfl rfl (build_O (-1) tb) ?_)
    | (clear T7; refine wpList_stSW 1 rfl rfl 58 (.tmp 5) (.tmp 21) rfl go rfl _ rfl HS.out rfl (outK (-1, tb)) rfl (by rw [outK_len, outK_len]) (outK_one _) (by rw [outK_len]; exact infoO) ?_; intro we hs; replace HS := Lib.hid hs; clear hs cp))
  exact bodyPost_ret (resO _ rfl _ _ go _ rfl (HS.out.has 1 rfl)) rfl ⟨rfl, HS.out.drop.drop⟩
set_option maxHeartbeats 8000000 in
set_option maxRecDepth 100000 in
theorem lay_met (fv : Value) (f : List I) (p : Int) (gm mo gs gf : Nat) (ps : List Int) (o : Wyo) (v : Value) (xs : List (Int × List Wyo)) {w1 w0 w : World} {l : List Asn} (hl : Laid w1) (h1 : New w1 w0) (hf : FunAt w1 fv f) (hi : InF f p) (ht : 0 ≤ toA f p) (hm : toA f p ∈ ps)
    (hs : Sep w0 w (blk gm 100 [.map (some mo)] :: objA mo (mpO ps) :: blk gs 61 (skC o v) :: nodesO v xs :: blk gf 22 [fv] :: l)) :
    Calls Tryz.prog 34 #[.int .i64 p, .pointer (some ⟨gf, 0, none⟩), .pointer (some ⟨gm, 0, none⟩), .pointer (some ⟨gs, 0, none⟩)] w fun e w' => e = .returned (.agg (outK ((ps.idxOf (toA f p) : Nat), tblA f p)).toArray) ∧
      Sep w0 w' (blk gm 100 [.map (some mo)] :: objA mo (mpO ps) :: blk gs 61 (skC o v) :: nodesO v xs :: blk gf 22 [fv] :: l) := by
  have HL := Lib.hid hl
  have H1 := Lib.hid h1
  have HF := Lib.hid hf
  have HI := Lib.hid hi
  have HS := Lib.hid hs
  have HW := Lib.hid (pth_wy hi)
  obtain ⟨fo, fc, rfl⟩ := hf.form
  obtain ⟨to, hto⟩ : ∃ to, toA f p = to := ⟨_, rfl⟩
  obtain ⟨tb, HTB⟩ : ∃ tb, Hid (tblA f p = tb) := ⟨_, Lib.hid rfl⟩
  obtain ⟨st, HST⟩ : ∃ st, Hid (stP (pthA f p) = st) := ⟨_, Lib.hid rfl⟩
  rw [hto] at ht
  have HTO := Lib.hid hto
  rw [HTB.out]
  rw [hto] at hm ⊢
  have d0 : decide (to < 0) = false := decide_eq_false (by omega)
  have HM := Lib.hid hm
  obtain ⟨ix, HX⟩ : ∃ ix : Int, Hid (((ps.idxOf to : Nat) : Int) = ix) := ⟨_, Lib.hid rfl⟩
  rw [HX.out]
  clear hm
  have T1 : Hid True := Lib.hid trivial
  have T2 : Hid True := Lib.hid trivial
  have T3 : Hid True := Lib.hid trivial
  have T4 : Hid True := Lib.hid trivial
  have T5 : Hid True := Lib.hid trivial
  have T6 : Hid True := Lib.hid trivial
  have T7 : Hid True := Lib.hid trivial
  clear hl h1 hf hi hs hto
  go_enter Tryz.func34, Tryz.ntmps34
  go_wp2_with (first
    | (clear T1; refine wpList_alB rfl 58 rfl _ zeroOt_run _ rfl HS.out ?_; intro wa go hs; replace HS := Lib.hid hs; have cf := HS.out.cell 5 rfl (k := 0) rfl; clear hs)
    | (clear T2; go_at_call 35; refine (path_is (q := to) (t := tb) (k := st) HL.out (H1.out.trans HS.out.nw) (HF.out.new (H1.out.trans HS.out.nw)) HI.out HW.out HTO.out HTB.out HST.out).mono ?_; rintro e wb ⟨rfl, hn⟩; replace HS := Lib.hid (HS.out.go hn); clear hn cf)
    | (clear T3; refine wpList_alB rfl 102 rfl _ zeroP_run _ rfl HS.out ?_; intro wc gp hs; replace HS := Lib.hid hs; clear hs)
    | (clear T4; refine wpList_stSW 0 rfl rfl 102 (.tmp 6) (.tmp 14) rfl gp rfl _ rfl HS.out rfl (pathC to tb st) rfl (by rw [pathC_len, pathC_len]) (pathC_one to tb st) (by rw [pathC_len]; exact infoPa) ?_; intro wd hs; replace HS := Lib.hid hs; have cp := HS.out.cell 0 rfl (k := 0) rfl; have cm := HS.out.cell 2 rfl (k := 0) rfl; have LK := run_lookM (P := Tryz.prog) (t := 100) (kt := 3) (et := 3) to (by kernel_rfl) (by kernel_rfl) Tryz.zeroValue3 (HS.out.obj 3 rfl); rw [if_pos HM.out, HX.out] at LK; clear hs)
    | (clear T5; refine wpList_ldPt (to := to) (t := tb) (n := st) rfl (.tmp 47) rfl gp rfl (HS.out.has 0 rfl) ?_)
    | (clear T6; refine wpList_bd2 (a := .int .i64 ix) (b := .agg (cellsT tb)) rfl 58 0 1 (.tmp 46) (.tmp 48) rfl rfl rfl (build_O ix tb) ?_)
    | (clear T7; refine wpList_stSW 1 rfl rfl 58 (.tmp 5) (.tmp 49) rfl go rfl _ rfl HS.out rfl (outK (ix, tb)) rfl (by rw [outK_len, outK_len]) (outK_one _) (by rw [outK_len]; exact infoO) ?_; intro we hs; replace HS := Lib.hid hs; clear hs cp cm))
  exact bodyPost_ret (resO _ rfl _ _ go _ rfl (HS.out.has 1 rfl)) rfl ⟨rfl, HS.out.drop.drop⟩
set_option maxHeartbeats 8000000 in
set_option maxRecDepth 100000 in
theorem lay_new (fv : Value) (f : List I) (p : Int) (gm mo gs gf : Nat) (ps : List Int) (o : Wyo) (v : Value) (xs : List (Int × List Wyo)) {w1 w0 w : World} {l : List Asn} (hl : Laid w1) (h1 : New w1 w0) (hf : FunAt w1 fv f) (hi : InF f p) (ht : 0 ≤ toA f p) (hm : toA f p ∉ ps) (hn : ps.length = xs.length) (hx : xs.length ≤ 100000)
    (hs : Sep w0 w (blk gm 100 [.map (some mo)] :: objA mo (mpO ps) :: blk gs 61 (skC o v) :: nodesO v xs :: blk gf 22 [fv] :: l)) :
    Calls Tryz.prog 34 #[.int .i64 p, .pointer (some ⟨gf, 0, none⟩), .pointer (some ⟨gm, 0, none⟩), .pointer (some ⟨gs, 0, none⟩)] w fun e w' => ∃ v', e = .returned (.agg (outK ((xs.length : Nat), tblA f p)).toArray) ∧
      Sep w0 w' (blk gm 100 [.map (some mo)] :: objA mo (mpO (ps ++ [toA f p])) :: blk gs 61 (skC o v') :: nodesO v' (xs ++ [(toA f p, [])]) :: blk gf 22 [fv] :: l) := by
  have HL := Lib.hid hl
  have H1 := Lib.hid h1
  have HF := Lib.hid hf
  have HI := Lib.hid hi
  have HS := Lib.hid hs
  have HW := Lib.hid (pth_wy hi)
  obtain ⟨fo, fc, rfl⟩ := hf.form
  obtain ⟨to, hto⟩ : ∃ to, toA f p = to := ⟨_, rfl⟩
  obtain ⟨tb, HTB⟩ : ∃ tb, Hid (tblA f p = tb) := ⟨_, Lib.hid rfl⟩
  obtain ⟨st, HST⟩ : ∃ st, Hid (stP (pthA f p) = st) := ⟨_, Lib.hid rfl⟩
  rw [hto] at ht
  have HTO := Lib.hid hto
  rw [HTB.out]
  rw [hto] at hm ⊢
  have d0 : decide (to < 0) = false := decide_eq_false (by omega)
  have HM := Lib.hid hm
  have HN := Lib.hid hn
  have HX := Lib.hid hx
  obtain ⟨na, nc, rfl⟩ := rowA_form (hs.rd 3 rfl)
  clear hm hn hx
  have T1 : Hid True := Lib.hid trivial
  have T2 : Hid True := Lib.hid trivial
  have T3 : Hid True := Lib.hid trivial
  have T4 : Hid True := Lib.hid trivial
  have T5 : Hid True := Lib.hid trivial
  have T6 : Hid True := Lib.hid trivial
  have T7 : Hid True := Lib.hid trivial
  have T8 : Hid True := Lib.hid trivial
  have T9 : Hid True := Lib.hid trivial
  have T10 : Hid True := Lib.hid trivial
  have T11 : Hid True := Lib.hid trivial
  clear hl h1 hf hi hs hto
  go_enter Tryz.func34, Tryz.ntmps34
  go_wp2_with (first
    | (clear T1; refine wpList_alB rfl 58 rfl _ zeroOt_run _ rfl HS.out ?_; intro wa go hs; replace HS := Lib.hid hs; have cf := HS.out.cell 5 rfl (k := 0) rfl; clear hs)
    | (clear T2; go_at_call 35; refine (path_is (q := to) (t := tb) (k := st) HL.out (H1.out.trans HS.out.nw) (HF.out.new (H1.out.trans HS.out.nw)) HI.out HW.out HTO.out HTB.out HST.out).mono ?_; rintro e wb ⟨rfl, hn⟩; replace HS := Lib.hid (HS.out.go hn); clear hn cf)
    | (clear T3; refine wpList_alB rfl 102 rfl _ zeroP_run _ rfl HS.out ?_; intro wc gp hs; replace HS := Lib.hid hs; clear hs)
    | (clear T4; refine wpList_stSW 0 rfl rfl 102 (.tmp 6) (.tmp 14) rfl gp rfl _ rfl HS.out rfl (pathC to tb st) rfl (by rw [pathC_len, pathC_len]) (pathC_one to tb st) (by rw [pathC_len]; exact infoPa) ?_; intro wd hs; replace HS := Lib.hid hs; have cp := HS.out.cell 0 rfl (k := 0) rfl; have cm := HS.out.cell 2 rfl (k := 0) rfl; have cn := HS.out.cell 4 rfl (skC_nd _ _); have LK := run_lookM (P := Tryz.prog) (t := 100) (kt := 3) (et := 3) to (by kernel_rfl) (by kernel_rfl) Tryz.zeroValue3 (HS.out.obj 3 rfl); rw [if_neg HM.out] at LK; clear hs)
    | (clear T8; refine wpList_numM 3 rfl rfl 100 3 3 (.tmp 34) (.tmp 36) (.tmp 37) rfl mo rfl to rfl _ rfl (by kernel_rfl) (by kernel_rfl) HS.out rfl (by rw [HN.out]) HM.out ?_; intro wx hs; replace HS := Lib.hid hs; have cp := HS.out.cell 0 rfl (k := 0) rfl; have cn := HS.out.cell 4 rfl (skC_nd _ _); clear hs LK cm)
    | (clear T9; refine wpList_bsB rfl 59 96 (.tmp 42) rfl Tryz.underlying59 infoNd3 (by decide) (by decide) (nodeC to (.slice none 0 0)) _ rfl rfl rfl HS.out ?_; intro wy b hs; replace HS := Lib.hid hs; clear hs)
    | (at_builtin; clear T10; refine wpList_appI 6 rfl (.tmp 39) (.tmp 43) 59 96 rfl Tryz.underlying59 infoNd3 rfl (by decide) (by decide) (y := (to, [])) (cs := nodeC to (.slice none 0 0)) (HS.out.node0 to) rfl HX.out rfl rfl (HS.out.has 0 rfl) rfl (by simp [nodeC, Value.oneCell']) ?_; intro v2 wz hs; obtain ⟨a2, c2, e2⟩ := rowA_form (hs.rd 6 rfl); rw [List.length_append, List.length_singleton] at e2; subst e2; replace HS := Lib.hid hs; clear hs)
    | (clear T11; refine wpList_stC1 5 rfl rfl 59 (.tmp 45) (.tmp 44) rfl gs 25 rfl (.slice a2 (xs.length + 1) c2) rfl HS.out rfl rfl (by rw [skC_len]; omega) rfl infoNs ?_; intro wt hs; rw [skC_set] at hs; replace HS := Lib.hid hs; clear hs cp cn; have cp := HS.out.cell 1 rfl (k := 0) rfl)
    | (clear T5; refine wpList_ldPt (to := to) (t := tb) (n := st) rfl (.tmp 47) rfl gp rfl (HS.out.has 1 rfl) ?_)
    | (clear T6; refine wpList_bd2 (a := .int .i64 ((xs.length : Nat) : Int)) (b := .agg (cellsT tb)) rfl 58 0 1 (.tmp 46) (.tmp 48) rfl rfl rfl (build_O ((xs.length : Nat) : Int) tb) ?_)
    | (clear T7; refine wpList_stSW 2 rfl rfl 58 (.tmp 5) (.tmp 49) rfl go rfl _ rfl HS.out rfl (outK (((xs.length : Nat) : Int), tb)) rfl (by rw [outK_len, outK_len]) (outK_one _) (by rw [outK_len]; exact infoO) ?_; intro we hs; replace HS := Lib.hid hs; clear hs cp))
  exact bodyPost_ret (resO _ rfl _ _ go _ rfl (HS.out.has 2 rfl)) rfl ⟨_, rfl, HS.out.drop.drop.drop⟩
end Go.Proofs.YtlmnodbhfpgplaaGreatDoor
