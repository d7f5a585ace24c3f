/-
  Maps that number a list of keys, from a number on: what is looked up, what is stored; keys that are numbers, keys that are links.
-/
import Derived.Test.YtomclhbekmcaeaaRefRow
import Derived.MapKept
namespace Go.Proofs.Ytomclhbekmcaeaa
open Go.RowKit

section
variable {α : Type}
def mapE (K : α → Value) (B : Nat) : List α → Nat → List MapEntry
  | [], _ => []
  | p :: ps, i => { key := K p, val := .int .i64 ((B + i : Nat) : Int), born := i } :: mapE K B ps (i + 1)
def mapG (K : α → Value) (B : Nat) (ps : List α) : Obj := .map (mapE K B ps 0).toArray ps.length
theorem mapE_app (K : α → Value) (B : Nat) : ∀ (ps : List α) (p : α) (i : Nat), mapE K B (ps ++ [p]) i = mapE K B ps i ++ [{ key := K p, val := .int .i64 ((B + (i + ps.length) : Nat) : Int), born := i + ps.length }]
  | [], p, i => by simp [mapE]
  | q :: ps, p, i => by
    simp only [List.cons_append, mapE, mapE_app K B ps p (i + 1), List.length_cons]
    rw [show i + 1 + ps.length = i + (ps.length + 1) by omega]
theorem mapE_len (K : α → Value) (B : Nat) : ∀ (ps : List α) (i : Nat), (mapE K B ps i).length = ps.length
  | [], _ => rfl
  | _ :: ps, i => by rw [mapE, List.length_cons, List.length_cons, mapE_len K B ps (i + 1)]
variable [DecidableEq α] {P : Program} {w : World} {g : Nat} {t kt et : TypeId} {K : α → Value} {B : Nat} {ps : List α}
/-- What is found of a key. -/
def fndG (B : Nat) (p : α) (ps : List α) (i : Nat) : Option (Nat × Value) := if p ∈ ps then some (i + ps.idxOf p, .int .i64 ((B + (i + ps.idxOf p) : Nat) : Int)) else none
theorem fnd_cons {p q : α} (h : p ≠ q) (i : Nat) : fndG B p (q :: ps) i = fndG B p ps (i + 1) := by
  unfold fndG
  have hq : (q == p) = false := by simpa using Ne.symm h
  simp only [List.mem_cons, h, false_or, List.idxOf_cons, hq, cond_false]
  rw [show i + 1 + ps.idxOf p = i + (ps.idxOf p + 1) by omega]
theorem fnd_self (p : α) (i : Nat) : fndG B p (p :: ps) i = some (i, .int .i64 ((B + i : Nat) : Int)) := by simp [fndG]
theorem idx_mem {p : α} (h : p ∈ ps) : ps[ps.idxOf p]? = some p := by
  have hl := List.idxOf_lt_length_of_mem h
  rw [List.getElem?_eq_getElem hl, List.getElem_idxOf hl]
theorem ask_at (hE : ∀ x y : α, (Op.equal kt (K x) (K y)).run P w = .ok (decide (x = y)) w) (p : α) : ∀ (ps : List α) (i : Nat), (Instr.findAsking kt (K p) (mapE K B ps i) i).run P w = .ok (fndG B p ps i) w
  | [], i => by simp [mapE, fndG, Instr.findAsking]
  | q :: ps, i => by
    by_cases h : p = q
    · subst h
      rw [fnd_self]
      simp [mapE, Instr.findAsking, hE]
    · rw [fnd_cons h, ← ask_at hE p ps (i + 1)]
      simp [mapE, Instr.findAsking, hE, h]
theorem key_at {d : TypeDesc} (hk : P.underlying kt = some d) (hn : ∀ x y : α, Instr.sameNow d (K x) (K y) = none) (hE : ∀ x y : α, (Op.equal kt (K x) (K y)).run P w = .ok (decide (x = y)) w) (p : α) (ps : List α) :
    (Instr.findKey kt (K p) (mapE K B ps 0)).run P w = .ok (fndG B p ps 0) w := by
  cases ps with
  | nil => simp [Instr.findKey, mapE, run_underlying hk, Instr.findNow, fndG]
  | cons q ps =>
    have h := ask_at (B := B) hE p (q :: ps) 0
    have hf : Instr.findNow d (K p) (mapE K B (q :: ps) 0) 0 = none := by simp [mapE, Instr.findNow, hn]
    simp [Instr.findKey, run_underlying hk, hf, h]
theorem run_lookG (p : α) (ht : P.underlying t = some (.map kt et)) (hz : ∀ w, (zeroValue et).run P w = .ok (.int .i64 0) w) (hb : w.heap[g]? = some (mapG K B ps))
    (hC : ∀ e, (Instr.checkKey e 10000 kt (K p)).run P w = .ok () w) (hF : (Instr.findKey kt (K p) (mapE K B ps 0)).run P w = .ok (fndG B p ps 0) w) :
    (Instr.lookup t (.map (some g)) (K p) true).run P w = .ok (if p ∈ ps then .tuple #[.int .i64 ((B + ps.idxOf p : Nat) : Int), .bool true] else .tuple #[.int .i64 0, .bool false]) w := by
  have hg : (getObj g).run P w = .ok (.map (mapE K B ps 0).toArray ps.length) w := MapKept.run_getObj_map hb
  unfold fndG at hF
  simp only [Nat.zero_add] at hF
  by_cases h : p ∈ ps
  · simp only [if_pos h] at hF ⊢
    simp [Instr.lookup, run_underlying ht, hg, hC, hF, Result.andThen]
  · simp only [if_neg h] at hF ⊢
    simp [Instr.lookup, run_underlying ht, hg, hC, hF, hz, Result.andThen]
theorem run_numG (p : α) (ht : P.underlying t = some (.map kt et)) (hb : w.heap[g]? = some (mapG K B ps)) (hp : p ∉ ps)
    (hC : ∀ e, (Instr.checkKey e 10000 kt (K p)).run P w = .ok () w) (hF : (Instr.findKey kt (K p) (mapE K B ps 0)).run P w = .ok (fndG B p ps 0) w) :
    (Instr.mapUpdate t (.map (some g)) (K p) (.int .i64 ((B + ps.length : Nat) : Int))).run P w = .ok () (putO w g (mapG K B (ps ++ [p]))) := by
  have hg : (getObj g).run P w = .ok (.map (mapE K B ps 0).toArray ps.length) w := MapKept.run_getObj_map hb
  unfold fndG at hF
  simp only [if_neg hp] at hF
  have hs : ∀ o, (setObj g o).run P w = .ok () { w with heap := w.heap.setIfInBounds g o } := fun o => MapKept.run_setObj_map o hb
  have e : mapG K B (ps ++ [p]) = .map ((mapE K B ps 0).toArray.push { key := K p, val := .int .i64 ((B + ps.length : Nat) : Int), born := ps.length }) (ps.length + 1) := by
    unfold mapG
    rw [mapE_app, Nat.zero_add, List.length_append]
    simp
  rw [e]
  simp [Instr.mapUpdate, run_underlying ht, hg, hC, hF, hs, Result.andThen, putO]
end
/-! Keys that are numbers. -/
abbrev intV (p : Int) : Value := .int .i64 p
theorem int_key {P : Program} {w : World} {kt : TypeId} {B : Nat} (hk : P.underlying kt = some (.int .i64)) (p : Int) (ps : List Int) : (Instr.findKey kt (intV p) (mapE intV B ps 0)).run P w = .ok (fndG B p ps 0) w := by
  have hf : ∀ (ps : List Int) (i : Nat), Instr.findNow (.int .i64) (intV p) (mapE intV B ps i) i = some (fndG B p ps i) := by
    intro ps
    induction ps with
    | nil => intro i; simp [mapE, Instr.findNow, fndG]
    | cons q ps ih =>
      intro i
      by_cases h : p = q
      · subst h
        rw [fnd_self]
        simp [mapE, Instr.findNow, Instr.sameNow, intV]
      · have hb : (p == q) = false := by simpa using h
        rw [fnd_cons h, ← ih (i + 1)]
        simp [mapE, Instr.findNow, Instr.sameNow, intV, hb]
  exact MapKept.run_findKey hk (hf ps 0)
theorem int_chk {P : Program} {w : World} {kt : TypeId} (hk : P.underlying kt = some (.int .i64)) (p : Int) (e : Bool) : (Instr.checkKey e 10000 kt (intV p)).run P w = .ok () w := MapKept.run_checkKey (k := intV p) hk rfl e 9999
/-! Keys that are links. -/
abbrev Lk := Int × Rf
def lnkK (x : Lk) : List Value := [.int .i64 x.1, .int .i64 x.2.1, .int .i64 x.2.2]
abbrev lnkV (x : Lk) : Value := .agg (lnkK x).toArray
theorem eqIn_rf (d : Nat) (a b : Rf) (w : World) : (Op.equalIn (d + 2) 40 (.agg #[.int .i64 a.1, .int .i64 a.2]) (.agg #[.int .i64 b.1, .int .i64 b.2])).run Try.prog w = .ok (decide (a = b)) w := by
  have hS : Try.prog.underlying 40 = some (.struct (Try.prog.fieldsOf 40)) := by kernel_rfl
  rw [run_equalIn_agg w (d + 1) 40 _ _ hS (by kernel_rfl)]
  simp only [Program.fieldsOf, Try.underlying40]
  have u3 := Try.underlying3
  have a3 := Try.isAgg3
  have u4 := Try.underlying2
  have a4 := Try.isAgg2
  by_cases h1 : a.1 = b.1
  · by_cases h2 : a.2 = b.2
    · have q1 : (a.1 == b.1) = true := beq_of h1
      have q2 : (a.2 == b.2) = true := beq_of h2
      rw [decide_eq_true (Prod.ext h1 h2)]
      go_simp
    · have q1 : (a.1 == b.1) = true := beq_of h1
      have q2 : (a.2 == b.2) = false := bneq_of h2
      rw [decide_eq_false (fun e => h2 (by rw [e]))]
      go_simp
  · have q1 : (a.1 == b.1) = false := bneq_of h1
    rw [decide_eq_false (fun e => h1 (by rw [e]))]
    go_simp
theorem neq_rf (a b : Rf) (w : World) : (binOp .neq 40 (.agg #[.int .i64 a.1, .int .i64 a.2]) (.agg #[.int .i64 b.1, .int .i64 b.2])).run Try.prog w = .ok (.bool (!decide (a = b))) w := by
  rw [run_neq_struct, show (10000 : Nat) = 9998 + 2 from rfl, eqIn_rf 9998 _ _ w]
  simp
theorem eqIn_lk (d : Nat) (a b : Lk) (w : World) : (Op.equalIn (d + 3) 53 (lnkV a) (lnkV b)).run Try.prog w = .ok (decide (a = b)) w := by
  have hS : Try.prog.underlying 53 = some (.struct (Try.prog.fieldsOf 53)) := by kernel_rfl
  unfold lnkV lnkK
  rw [run_equalIn_agg w (d + 2) 53 _ _ hS (by kernel_rfl)]
  simp only [Program.fieldsOf, Try.underlying53]
  have u3 := Try.underlying3
  have a3 := Try.isAgg3
  have hR := eqIn_rf d a.2 b.2 w
  by_cases h1 : a.1 = b.1
  · have q1 : (a.1 == b.1) = true := beq_of h1
    by_cases h2 : a.2 = b.2
    · rw [decide_eq_true h2] at hR
      rw [decide_eq_true (Prod.ext h1 h2)]
      go_simp
    · rw [decide_eq_false h2] at hR
      rw [decide_eq_false (fun e => h2 (by rw [e]))]
      go_simp
      exact fun e1 e2 => h2 (Prod.ext e1 e2)
  · have q1 : (a.1 == b.1) = false := bneq_of h1
    rw [decide_eq_false (fun e => h1 (by rw [e]))]
    go_simp
theorem chk_lkN (n : Nat) (em : Bool) (x : Lk) (w : World) : (Instr.checkKey em (n + 3) 53 (lnkV x)).run Try.prog w = .ok () w := by
  unfold lnkV lnkK
  simp only [Instr.checkKey, run_underlying Try.underlying53, Sem.run_bind, Result.andThen_ok]
  go_simp
theorem chk_lk (em : Bool) (x : Lk) (w : World) : (Instr.checkKey em 10000 53 (lnkV x)).run Try.prog w = .ok () w := chk_lkN 9997 em x w
/-! How they are walked. -/
section
variable {α : Type} {K : α → Value} {B : Nat} {ps : List α} {ops : Array Oper} {rest : List Oper} {op : Oper} {act : Act} {w0 w : World} {Q : Exit → Act → World → Prop} {l : List Asn}
theorem lenG {g : Nat} (t ty : TypeId) (h : Try.prog.underlying t = some (.map (Try.prog.mapKeyOf t) (Try.prog.mapElemOf t))) (hb : w.heap[g]? = some (mapG K B ps)) :
    (Builtin.len_ #[t] ty #[.map (some g)]).run Try.prog w = .ok (.int .i64 (ps.length : Int)) w := by
  rw [run_len_map _ t ty g _ _ h hb]
  simp [goInt]
  rw [mapE_len]
theorem wpList_mkG (hgd : op.guard = none) (t : TypeId) (ho : op.op = .makeMap t none) (h : Sep w0 w l)
    (hk : ∀ w' g, Sep w0 w' (objA g (mapG K B []) :: l) → wpList Try.prog ops Q rest (act.put op.dst (.map (some g))) w') : wpList Try.prog ops Q (op :: rest) act w :=
  wpList_val hgd (v := .map (some w.heap.size)) (w' := w.alloc (.map #[] 0)) (by unfold execOp; simp only [ho, Option.map_none, run_makeMap, Sem.run_bind, Sem.run_pure, Result.andThen_ok]) (hk _ _ (h.newO (alloc_new _ _) (Nat.le_refl _) (heap_alloc_new _ _)))
theorem wpList_numG [DecidableEq α] (i : Nat) (hgd : op.guard = none) (hdst : op.dst = none) (t kt et : TypeId) (m k x : Operand) (ho : op.op = .mapUpdate t m k x) (mo : Nat) (hm : act.eval m = .map (some mo)) (p : α) (hk : act.eval k = K p) (n : Int) (hx : act.eval x = .int .i64 n)
    (ht : Try.prog.underlying t = some (.map kt et)) (h : Sep w0 w l) (hA : l[i]? = some (objA mo (mapG K B ps))) (hn : n = ((B + ps.length : Nat) : Int)) (hp : p ∉ ps)
    (hC : ∀ e w, (Instr.checkKey e 10000 kt (K p)).run Try.prog w = .ok () w) (hF : ∀ w, (Instr.findKey kt (K p) (mapE K B ps 0)).run Try.prog w = .ok (fndG B p ps 0) w)
    (hw : ∀ w', Sep w0 w' (l.set i (objA mo (mapG K B (ps ++ [p])))) → wpList Try.prog ops Q rest act w') : wpList Try.prog ops Q (op :: rest) act w := by
  subst hn
  have hb := h.obj i hA
  have hr := run_numG (P := Try.prog) p ht hb hp (fun e => hC e w) (hF w)
  exact wpList_run hgd hdst (w' := putO w mo (mapG K B (ps ++ [p]))) (by unfold execOp; simp only [ho, hm, hk, hx, hr, Sem.run_bind, Sem.run_pure, Result.andThen_ok]) (hw _ (h.setOAt i hA (Kept.put w mo _) (putO_same hb)))
end
theorem lk_key {B : Nat} (x : Lk) (ps : List Lk) (w : World) : (Instr.findKey 53 (lnkV x) (mapE lnkV B ps 0)).run Try.prog w = .ok (fndG B x ps 0) w := by
  have hS : Try.prog.underlying 53 = some (.struct (Try.prog.fieldsOf 53)) := by kernel_rfl
  exact key_at hS (fun _ _ => rfl) (fun a b => eqIn_lk 9997 a b w) x ps
end Go.Proofs.Ytomclhbekmcaeaa
