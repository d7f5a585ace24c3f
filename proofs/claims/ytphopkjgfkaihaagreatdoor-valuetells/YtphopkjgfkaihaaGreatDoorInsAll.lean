/-
  The contracts of num.Text and num.Parse, over strconv's: under what the packages' start-up lays ('Laid').
  The contracts of loc.Right and loc.Reg: for every number.
  The contract of loc.Parse: for every text; nothing that was in memory has turned.
  A block that holds an instruction: its load and store, at the operation.
  The contracts of ins's small functions: known, fields, fault, field, with, place: for every argument; nothing that was in memory has turned.
  The contracts of ins.spare and ins.Check: for every instruction and every number.
  The contracts of strings.Cut at one space, and of ins.piece, ins.read, ins.opOf.
  The contract of ins.Parse: for every text.
-/
import Derived.Test.YtphopkjgfkaihaaGreatDoorProg
import Derived.Test.YtphopkjgfkaihaaGreatDoorShelf
import Derived.Test.YtphopkjgfkaihaaGreatDoorPlain
import Derived.Lib.CutLaws
namespace Go.Proofs.YtphopkjgfkaihaaGreatDoor
open Go.RowKit

/-- The cells of the table of shapes. -/
def shpCells : Array Value := (tabL.map fun l => Value.string ⟨l.toArray⟩).toArray
/-- What strconv's variables hold, and the table of shapes. -/
structure Laid (w : World) : Prop where
  tab : Lib.TabIs Tryz.prog w "internal/strconv.uint64pow10" .u64 Lib.pow10Tab
  syn : ∃ tp p, w.var? Tryz.prog "strconv.ErrSyntax" = some #[.iface tp p]
  rng : ∃ tp p, w.var? Tryz.prog "strconv.ErrRange" = some #[.iface tp p]
  shp : w.var? Tryz.prog "joinery/ins.shapes" = some shpCells

theorem gTab : Tryz.prog.globalNamed "internal/strconv.uint64pow10" = some 4 := by kernel_rfl
theorem gSyn : Tryz.prog.globalNamed "strconv.ErrSyntax" = some 2 := by kernel_rfl
theorem gRng : Tryz.prog.globalNamed "strconv.ErrRange" = some 3 := by kernel_rfl

theorem gShp : Tryz.prog.globalNamed "joinery/ins.shapes" = some 0 := by kernel_rfl

theorem var_new {n : String} {g : Nat} {cs : Array Value} {w w' : World} (hg : Tryz.prog.globalNamed n = some g) (h : w.var? Tryz.prog n = some cs) (hn : New w w') : w'.var? Tryz.prog n = some cs := by
  simp only [World.var?, hg, Option.bind_some] at h ⊢
  by_cases hlt : g < w.heap.size
  · rw [hn.block g hlt]; exact h
  · rw [Array.getElem?_eq_none (by omega)] at h; cases h
theorem new_grow (w : World) (k : Nat) (os : Array Obj) : New w (Sort.grow (w.drewN k) os) := by
  refine ⟨rfl, rfl, rfl, ?_, fun j hj => ?_⟩
  · show w.heap.size ≤ (w.heap ++ os).size
    rw [Array.size_append]; omega
  · show (w.heap ++ os)[j]? = _
    rw [Array.getElem?_append_left hj]

theorem Laid.new {w w' : World} (h : Laid w) (n : New w w') : Laid w' := by
  obtain ⟨a, ⟨t1, p1, b⟩, ⟨t2, p2, c⟩, d⟩ := h
  exact ⟨var_new gTab a n, ⟨t1, p1, var_new gSyn b n⟩, ⟨t2, p2, var_new gRng c n⟩, var_new gShp d n⟩
theorem Laid.cell {w : World} (h : Laid w) (j : Nat) (hj : j < 38) : w.cell? ⟨0, j, none⟩ = some (.string ⟨(tabL.getD j []).toArray⟩) := by
  have hs := h.shp
  simp only [World.var?, gShp, Option.bind_some] at hs
  have hlen : j < tabL.length := by rw [show tabL.length = 38 from by decide]; exact hj
  have hc : shpCells[j]? = some (.string ⟨(tabL.getD j []).toArray⟩) := by
    unfold shpCells
    rw [List.getElem?_toArray, List.getElem?_map, List.getD_eq_getElem?_getD, List.getElem?_eq_getElem hlen]
    rfl
  cases e : w.heap[0]? with
  | none => rw [e] at hs; cases hs
  | some o =>
    rw [e] at hs
    cases o with
    | cells cs t fr =>
      have hs : cs = shpCells := by simpa using hs
      subst hs
      simp only [World.cell?, e]
      exact hc
    | _ => simp at hs
theorem Laid.alloc {w : World} (h : Laid w) (o : Obj) : Laid (w.alloc o) := h.new ((New.refl _).alloc o)


theorem numText_any (n : Int) (hn : In64 n) (w : World) (hl : Laid w) :
    Calls Tryz.prog 128 #[.int .i64 n] w fun e w' => e = .returned (.string (textB n)) ∧ New w w' := by
  have hc := Tryz.strconv_FormatInt_10 n hn.1 hn.2 w hl.tab
  have H := Lib.hid hc
  clear hc hn hl
  go_enter Tryz.func128, Tryz.ntmps128
  go_wp2_with (go_at_call 142; refine (H.out).mono ?_; rintro e w' ⟨rfl, k, os, rfl⟩)
  go_ret
  exact ⟨rfl, new_grow _ _ _⟩

/-- A text that strconv reads: the number, if the number has just this text. -/
theorem numParse_num (s : ByteArray) (hs : s.size ≤ 281474976710656) (v : Int) (h : Lib.parseIntB 64 s.data.toList = .ok v) (t : Bool) (ht : decide (Lib.itoa v = s.data.toList) = t) (w : World) (hl : Laid w) :
    Calls Tryz.prog 109 #[.string s] w fun e w' => e = .returned (.tuple #[.int .i64 (if t then v else 0), .int .i64 (if t then 0 else 2)]) ∧ New w w' := by
  have hv := parseIntB_in h
  have hc := Tryz.strconv_ParseInt_10_at64_ok s (by omega) v h w
  have hb : ((textB v).toList == s.toList) = t := str_beq (by rw [textB_toList]; exact ht)
  have H := Lib.hid hc
  have HV := Lib.hid hv
  have HL := Lib.hid hl
  clear hc hv hl h hs ht
  cases t <;> simp only [if_true, Bool.false_eq_true, if_false]
  all_goals
    go_enter Tryz.func109, Tryz.ntmps109
    go_wp2_with (go_at_call 127; refine (H.out).mono ?_; rintro e w1 ⟨rfl, hw⟩)
    have hn : New w w1 := by
      rcases hw with rfl | ⟨t, rfl⟩
      · exact New.refl _
      · exact Lib.bytesWorld_below _ _ _
    clear hw
    go_wp2_with (go_at_call 128; refine (numText_any v HV.out w1 (HL.out.new hn)).mono ?_; rintro e w2 ⟨rfl, hn2⟩)
    go_ret2
    exact ⟨rfl, hn.trans hn2⟩

/-- A text that is no numeral, or one beyond the size. -/
theorem numParse_bad (s : ByteArray) (hs : s.size ≤ 281474976710656) (h : ∀ v, Lib.parseIntB 64 s.data.toList ≠ .ok v) (w : World) (hl : Laid w) :
    ∃ sat tp, Calls Tryz.prog 127 #[.string s, .int .i64 10, .int .i64 64] w fun e w' => ∃ N, e = .returned (.tuple #[.int .i64 sat, .iface tp (.pointer (some ⟨N, 0, none⟩))]) ∧ New w w' := by
  obtain ⟨tp, p, hv⟩ := hl.syn
  obtain ⟨tq, q, hr⟩ := hl.rng
  cases e : Lib.parseIntB 64 s.data.toList
  · exact absurd e (h _)
  · exact ⟨0, 228, (Any.strconv_ParseInt_10_at64_syntax_var Tryz.laysC174 s hs e tp p w hv).mono fun _ _ ⟨N, h1, _, _, h2⟩ => ⟨N, h1, h2⟩⟩
  · exact ⟨Lib.intSat 64 s.data.toList, 228, (Any.strconv_ParseInt_10_at64_range_var Tryz.laysC174 s hs e tq q w hr).mono fun _ _ ⟨N, h1, _, _, h2⟩ => ⟨N, h1, h2⟩⟩
theorem numParse_no (s : ByteArray) (hs : s.size ≤ 281474976710656) (h : ∀ v, Lib.parseIntB 64 s.data.toList ≠ .ok v) (w : World) (hl : Laid w) :
    Calls Tryz.prog 109 #[.string s] w fun e w' => e = .returned (.tuple #[.int .i64 0, .int .i64 2]) ∧ New w w' := by
  obtain ⟨sat, tp, hc⟩ := numParse_bad s hs h w hl
  have H := Lib.hid hc
  clear hc hl h hs
  go_enter Tryz.func109, Tryz.ntmps109
  go_wp2_with (go_at_call 127; refine (H.out).mono ?_; rintro e w1 ⟨N, rfl, hn⟩)
  go_ret2
  exact ⟨rfl, hn⟩


/-- num.Parse, at every text: the number and 0, or 0 and 2. -/
theorem numParse_any (s : ByteArray) (hs : s.size ≤ 281474976710656) (w : World) (hl : Laid w) :
    Calls Tryz.prog 109 #[.string s] w fun e w' => e = .returned (.tuple #[.int .i64 (parN s.data.toList), .int .i64 (parE s.data.toList)]) ∧ New w w' := by
  by_cases hv : ∃ v, Lib.parseIntB 64 s.data.toList = .ok v
  · obtain ⟨v, h⟩ := hv
    have := numParse_num s hs v h _ rfl w hl
    have e1 : parN s.data.toList = (if decide (Lib.itoa v = s.data.toList) = true then v else 0) := by
      unfold parN parseV; rw [h]; by_cases e : Lib.itoa v = s.data.toList <;> simp [e]
    have e2 : parE s.data.toList = (if decide (Lib.itoa v = s.data.toList) = true then 0 else 2) := by
      unfold parE parseV; rw [h]; by_cases e : Lib.itoa v = s.data.toList <;> simp [e]
    rw [e1, e2]
    exact this
  · have hn : ∀ v, Lib.parseIntB 64 s.data.toList ≠ .ok v := fun v e => hv ⟨v, e⟩
    have e0 : parseV s.data.toList = none := by
      unfold parseV
      split
      · rename_i v e; exact absurd e (hn v)
      · rfl
    have e1 : parN s.data.toList = 0 := by unfold parN; rw [e0]; rfl
    have e2 : parE s.data.toList = 2 := by unfold parE; rw [e0]; rfl
    rw [e1, e2]
    exact numParse_no s hs hn w hl

end Go.Proofs.YtphopkjgfkaihaaGreatDoor
namespace Go.Proofs.YtphopkjgfkaihaaGreatDoor
open Go.RowKit

theorem right_any (l : Int) (w : World) :
    Calls Tryz.prog 36 #[.int .i64 l] w fun e w' => e = .returned (.bool (rightB l)) ∧ w' = w := by
  by_cases h0 : 0 ≤ l
  · by_cases h1 : l < 24
    · have e : rightB l = true := by simp [rightB, h0, h1]
      rw [e]
      go_enter Tryz.func36, Tryz.ntmps36
      go_wp2
      go_ret
      simp [*]
    · have e : rightB l = false := by simp [rightB, h1]
      rw [e]
      go_enter Tryz.func36, Tryz.ntmps36
      go_wp2
      go_ret
      simp [*]
  · have e : rightB l = false := by simp [rightB, h0]
    rw [e]
    go_enter Tryz.func36, Tryz.ntmps36
    go_wp2
    go_ret
    simp [*]
theorem reg_any (l : Int) (w : World) :
    Calls Tryz.prog 99 #[.int .i64 l] w fun e w' => e = .returned (.bool (regB l)) ∧ w' = w := by
  by_cases h0 : 0 ≤ l
  · by_cases h1 : l < 8
    · have e : regB l = true := by simp [regB, h0, h1]
      rw [e]
      go_enter Tryz.func99, Tryz.ntmps99
      go_wp2
      go_ret
      simp [*]
    · have e : regB l = false := by simp [regB, h1]
      rw [e]
      go_enter Tryz.func99, Tryz.ntmps99
      go_wp2
      go_ret
      simp [*]
  · have e : regB l = false := by simp [regB, h0]
    rw [e]
    go_enter Tryz.func99, Tryz.ntmps99
    go_wp2
    go_ret
    simp [*]
end Go.Proofs.YtphopkjgfkaihaaGreatDoor
namespace Go.Proofs.YtphopkjgfkaihaaGreatDoor
open Go.RowKit

theorem group_any (r : Int) (w : World) :
    Calls Tryz.prog 129 #[.int .i32 r] w fun e w' => e = .returned (.tuple #[.int .i64 (grpF r), .int .i64 (grpC r)]) ∧ w' = w := by
  unfold grpF grpC
  by_cases h1 : r = 114
  · subst h1
    go_enter Tryz.func129, Tryz.ntmps129
    go_wp2
    go_ret2
    exact ⟨rfl, rfl⟩
  · have e1 := bneq_of h1
    rw [if_neg h1, if_neg h1]
    by_cases h2 : r = 115
    · subst h2
      go_enter Tryz.func129, Tryz.ntmps129
      go_wp2
      go_ret2
      exact ⟨rfl, rfl⟩
    · have e2 := bneq_of h2
      rw [if_neg h2, if_neg h2]
      clear h1 h2
      go_enter Tryz.func129, Tryz.ntmps129
      go_wp2
      go_ret2
      exact ⟨rfl, rfl⟩

set_option maxHeartbeats 1000000 in
theorem appended_any (n r : Int) (hn : -1 ≤ n ∧ n < 16) (hr : 0 ≤ r ∧ r ≤ 2147483647) (w : World) :
    Calls Tryz.prog 130 #[.int .i64 n, .int .i32 r] w fun e w' => e = .returned (.tuple #[.int .i64 (appV n r), .bool (appB n r)]) ∧ w' = w := by
  by_cases h : 48 ≤ r ∧ r ≤ 57 ∧ n ≠ 0
  · have e1 : appB n r = true := by simp only [appB, decide_eq_true_iff]; exact h
    have e2 : appV n r = max n 0 * 10 + (r - 48) := if_pos h
    rw [e1, e2]
    clear e1 e2
    obtain ⟨h1, h2, h3⟩ := h
    have h3' := bneq_of h3
    go_enter Tryz.func130, Tryz.ntmps130
    go_wp2
    go_ret2
    exact ⟨rfl, rfl⟩
  · have e1 : appB n r = false := by simp only [appB, decide_eq_false_iff_not]; exact h
    have e2 : appV n r = 0 := if_neg h
    rw [e1, e2]
    clear e1 e2
    have h' : ¬ ((48 ≤ r ∧ r ≤ 57) ∧ (n == 0) = false) := fun k => h ⟨k.1.1, k.1.2, by simpa using k.2⟩
    have H := Lib.hid h'
    clear h h'
    go_enter Tryz.func130, Tryz.ntmps130
    go_wp2
    all_goals first | (go_ret2; exact ⟨rfl, rfl⟩) | (exfalso; exact H.out (by simp_all)) | trace_state

theorem width_pos (s : ByteArray) (pos : Nat) (h : pos < s.size) : 1 ≤ (Utf8.decode s pos).2 := by
  by_cases hb : (s[pos]'h).toNat < 128
  · rw [decode_ascii s pos h hb]; exact Nat.le_refl _
  · exact (decode_high s pos h (by omega)).2

set_option maxHeartbeats 2000000 in
set_option maxRecDepth 100000 in
theorem parse_scan (s : ByteArray) (_hs : s.size ≤ 281474976710656) (w : World) :
    Calls Tryz.prog 110 #[.string s] w fun e w' => e = .returned (.tuple #[.int .i64 (scan s s.size 0 0 0 (-1)).1, .int .i64 (scan s s.size 0 0 0 (-1)).2]) ∧ New w w' := by
  go_enter Tryz.func110, Tryz.ntmps110
  go_wp2
  go_loopw [4, 5, 6] (fun fv cv nv wr => ∃ (pos fuel : Nat) (f c n : Int), wr = w.iter s pos ∧ fv = .int .i64 f ∧ cv = .int .i64 c ∧ nv = .int .i64 n ∧ Hid (scan s fuel pos f c n = scan s s.size 0 0 0 (-1)) ∧ s.size ≤ pos + fuel ∧ Hid ((0 ≤ f ∧ f ≤ 8) ∧ (0 ≤ c ∧ c ≤ 16) ∧ (-1 ≤ n ∧ n < 16))) (fun _ _ _ wr => s.size - wr.iterPos w.heap.size)
  case atStart => exact ⟨0, s.size, 0, 0, -1, rfl, rfl, rfl, rfl, Lib.hid rfl, by omega, Lib.hid (by omega)⟩
  case round =>
    obtain ⟨pos, fuel, f, c, n, rfl, rfl, rfl, rfl, HS, hb, HB⟩ := hrel
    by_cases hp : pos < s.size
    · have hnx : ∀ ty, (Instr.next (.pointer (some ⟨w.heap.size, 0, none⟩)) true ty).run Tryz.prog (w.iter s pos) = _ := fun ty => run_next_any w s pos ty hp
      have hwd := width_pos s pos hp
      have hle := decode_le s pos
      obtain ⟨fuel, rfl⟩ : ∃ f', fuel = f' + 1 := ⟨fuel - 1, by omega⟩
      go_wp2_with (first | (go_at_call 129; refine (group_any _ _).mono ?_; rintro e w1 ⟨rfl, rfl⟩) | (go_at_call 130; refine (appended_any _ _ HB.out.2.2 ⟨by omega, by omega⟩ _).mono ?_; rintro e w1 ⟨rfl, rfl⟩))
      · go_roundw
        case rel => exact ⟨_, fuel, _, _, n, rfl, rfl, rfl, rfl, Lib.hid ((scan_first hp (by assumption)).symm.trans HS.out), by omega, Lib.hid ⟨(grp_in _).1, (grp_in _).2, HB.out.2.2⟩⟩
        case measure => simp; omega
      · have e : scan s s.size 0 0 0 (-1) = (0, 2) := HS.out.symm.trans (scan_bad hp (by assumption) (fun h => by have h2 := h.2; omega))
        rw [e]
        go_ret2
        exact ⟨rfl, New.iter _ _ _⟩
      · go_roundw
        case rel =>
          have hv : appV n (Utf8.decode s pos).1 < c := by omega
          exact ⟨_, fuel, f, c, _, rfl, rfl, rfl, rfl, Lib.hid ((scan_more hp (by assumption) (by assumption) hv).symm.trans HS.out), by omega, Lib.hid ⟨HB.out.1, HB.out.2.1, appV_in HB.out.2.2.1, by have := HB.out.2.1.2; omega⟩⟩
        case measure => simp; omega
      · have hf : ¬ appB n (Utf8.decode s pos).1 = true := by assumption
        have e : scan s s.size 0 0 0 (-1) = (0, 2) := HS.out.symm.trans (scan_bad hp (by assumption) (fun h => hf h.1))
        rw [e]
        go_ret2
        exact ⟨rfl, New.iter _ _ _⟩
    · have hnx : ∀ ty, (Instr.next (.pointer (some ⟨w.heap.size, 0, none⟩)) true ty).run Tryz.prog (w.iter s pos) = _ := fun ty => run_next_end w s pos ty hp
      have e : scan s s.size 0 0 0 (-1) = fin f n := HS.out.symm.trans (scan_end s _ _ f c n hp)
      have HB' := HB.out
      by_cases hn : n < 0
      · have ef : fin f n = (0, 2) := if_pos hn
        rw [ef] at e
        go_wp2
        try rw [e]
        go_ret2
        exact ⟨rfl, New.iter _ _ _⟩
      · have ef : fin f n = (f + n, 0) := if_neg hn
        rw [ef] at e
        go_wp2
        try rw [e]
        go_ret2
        exact ⟨rfl, New.iter _ _ _⟩
/-- loc.Parse, at every text: the place whose text it is, and 0; or 0 and 2. -/
theorem parse_any (s : ByteArray) (hs : s.size ≤ 281474976710656) (w : World) :
    Calls Tryz.prog 110 #[.string s] w fun e w' => e = .returned (.tuple #[.int .i64 (locN s.data.toList), .int .i64 (locE s.data.toList)]) ∧ New w w' := by
  have h := parse_scan s hs w
  rw [scan_is] at h
  exact h

theorem parse_from {w0 : World} (s : ByteArray) (hs : s.size ≤ 281474976710656) (w : World) (h : New w0 w) :
    Calls Tryz.prog 110 #[.string s] w fun e w' => e = .returned (.tuple #[.int .i64 (locN s.data.toList), .int .i64 (locE s.data.toList)]) ∧ New w0 w' :=
  (parse_any s hs w).mono fun _ _ ⟨he, hw⟩ => ⟨he, h.trans hw⟩
theorem parse_is {w0 : World} (l : List UInt8) (hs : l.length ≤ 1000) (n e : Int) (hn : locN l = n) (he : locE l = e) (w : World) (h : New w0 w) :
    Calls Tryz.prog 110 #[.string ⟨l.toArray⟩] w fun x w' => x = .returned (.tuple #[.int .i64 n, .int .i64 e]) ∧ New w0 w' := by
  have := parse_from (w0 := w0) ⟨l.toArray⟩ (by show l.toArray.size ≤ _; simp; omega) w h
  rw [show (⟨l.toArray⟩ : ByteArray).data.toList = l from by simp, hn, he] at this
  exact this
end Go.Proofs.YtphopkjgfkaihaaGreatDoor
namespace Go.Proofs.YtphopkjgfkaihaaGreatDoor
open Go.RowKit

/-- A block holds an instruction. -/
def Has (w : World) (g : Nat) (x : I) : Prop := w.heap[g]? = some (.cells #[.int .i64 x.op, .int .i64 x.d, .int .i64 x.a, .int .i64 x.b, .int .i64 x.n, .int .i64 x.t] 79 (0, 0))
theorem infoI : (Tryz.prog.info? 79).map (·.size) = some 6 := by kernel_rfl
theorem Has.ld {w : World} {g : Nat} {x : I} (h : Has w g x) :
    (Instr.loadAt 79 (.pointer (some ⟨g, 0, none⟩))).run Tryz.prog w = .ok (.agg #[.int .i64 (x).op, .int .i64 (x).d, .int .i64 (x).a, .int .i64 (x).b, .int .i64 (x).n, .int .i64 (x).t]) w := by
  simp only [Instr.loadAt, Instr.sureAddr, Sem.run_bind, Sem.run_pure, Result.andThen_ok]
  exact run_loadVar_row w g _ _ _ _ _ h Tryz.underlying79 rfl infoI
theorem Has.cell {w : World} {g : Nat} {x : I} (h : Has w g x) :
    w.cell? ⟨g, 0, none⟩ = some (.int .i64 x.op) ∧ w.cell? ⟨g, 1, none⟩ = some (.int .i64 x.d) ∧ w.cell? ⟨g, 2, none⟩ = some (.int .i64 x.a) ∧ w.cell? ⟨g, 3, none⟩ = some (.int .i64 x.b) := by
  refine ⟨?_, ?_, ?_, ?_⟩ <;> exact cell_of_row w g _ _ _ _ h
theorem Has.new {w w' : World} {g : Nat} {x : I} (h : Has w g x) (n : New w w') : Has w' g x := n.heap h
theorem Has.put {w : World} {g k : Nat} {x : I} (h : Has w g x) (o : Obj) (hk : g ≠ k) : Has (putO w k o) g x := by
  unfold Has; rw [putO_other hk]; exact h
theorem Has.box (w : World) (x : I) : Has (w.alloc (.cells #[.int .i64 x.op, .int .i64 x.d, .int .i64 x.a, .int .i64 x.b, .int .i64 x.n, .int .i64 x.t] 79)) w.heap.size x := heap_alloc_new _ _
/-- Another instruction is stored into its block. -/
theorem Has.store {w : World} {g : Nat} {x : I} (h : Has w g x) (y : I) :
    (Instr.storeAt 79 (.pointer (some ⟨g, 0, none⟩)) (.agg #[.int .i64 (y).op, .int .i64 (y).d, .int .i64 (y).a, .int .i64 (y).b, .int .i64 (y).n, .int .i64 (y).t])).run Tryz.prog w = .ok () (putO w g (.cells #[.int .i64 y.op, .int .i64 y.d, .int .i64 y.a, .int .i64 y.b, .int .i64 y.n, .int .i64 y.t] 79 (0, 0))) := by
  exact store_row w g 79 _ _ h rfl infoI (by simp [Value.oneCell'])
/-- The load of an instruction, at the operation. -/
theorem wpList_ldI {ops : Array Oper} {rest : List Oper} {op : Oper} {act : Act} {w : World} {Q : Exit → Act → World → Prop} (hgd : op.guard = none) (p : Operand) (ho : op.op = .load 79 p)
    (g : Nat) (hx : act.eval p = .pointer (some ⟨g, 0, none⟩)) {x : I} (h : Has w g x)
    (hk : wpList Tryz.prog ops Q rest (act.put op.dst (.agg #[.int .i64 (x).op, .int .i64 (x).d, .int .i64 (x).a, .int .i64 (x).b, .int .i64 (x).n, .int .i64 (x).t])) w) : wpList Tryz.prog ops Q (op :: rest) act w :=
  wpList_load_row hgd _ p ho g hx _ _ _ _ h Tryz.underlying79 rfl infoI hk
/-- The store of an instruction, at the operation. -/
theorem wpList_stI {ops : Array Oper} {rest : List Oper} {op : Oper} {act : Act} {w : World} {Q : Exit → Act → World → Prop} (hgd : op.guard = none) (hdst : op.dst = none) (p q : Operand) (ho : op.op = .store 79 p q)
    (g : Nat) (hx : act.eval p = .pointer (some ⟨g, 0, none⟩)) (y : I) (hy : act.eval q = .agg #[.int .i64 (y).op, .int .i64 (y).d, .int .i64 (y).a, .int .i64 (y).b, .int .i64 (y).n, .int .i64 (y).t]) {x : I} (h : Has w g x)
    (hk : wpList Tryz.prog ops Q rest act (putO w g (.cells #[.int .i64 y.op, .int .i64 y.d, .int .i64 y.a, .int .i64 y.b, .int .i64 y.n, .int .i64 y.t] 79 (0, 0)))) : wpList Tryz.prog ops Q (op :: rest) act w :=
  wpList_plain hgd fun _ hK => by
    unfold Oper.wp execOp
    simp only [ho, hx, hy, Has.store h y, Sem.run_bind, Sem.run_pure, Result.andThen_ok]
    refine hK _ _ ?_
    rw [hdst]
    exact hk
theorem Has.stored {w : World} {g : Nat} {x : I} (h : Has w g x) (y : I) : Has (putO w g (.cells #[.int .i64 y.op, .int .i64 y.d, .int .i64 y.a, .int .i64 y.b, .int .i64 y.n, .int .i64 y.t] 79 (0, 0))) g y := putO_same h
theorem Has.cell4 {w : World} {g : Nat} {x : I} (h : Has w g x) : w.cell? ⟨g, 4, none⟩ = some (.int .i64 x.n) := cell_of_row w g _ _ _ _ h
end Go.Proofs.YtphopkjgfkaihaaGreatDoor
namespace Go.Proofs.YtphopkjgfkaihaaGreatDoor
open Go.RowKit

theorem known_any (op : Int) (w : World) :
    Calls Tryz.prog 89 #[.int .i64 op] w fun e w' => e = .returned (.bool (knownB op)) ∧ w' = w := by
  by_cases h0 : 1 ≤ op
  · by_cases h1 : op ≤ 18
    · have e : knownB op = true := by simp [knownB, h0, h1]
      rw [e]
      go_enter Tryz.func89, Tryz.ntmps89
      go_wp2
      go_ret
      simp [*]
    · have e : knownB op = false := by simp [knownB, h1]
      rw [e]
      go_enter Tryz.func89, Tryz.ntmps89
      go_wp2
      go_ret
      simp [*]
  · have e : knownB op = false := by simp [knownB, h0]
    rw [e]
    go_enter Tryz.func89, Tryz.ntmps89
    go_wp2
    go_ret
    simp [*]

theorem place_any (c : Int) (w : World) :
    Calls Tryz.prog 108 #[.int .i32 c] w fun e w' => e = .returned (.bool (placeB c)) ∧ w' = w := by
  go_enter Tryz.func108, Tryz.ntmps108
  go_wp2
  all_goals
    go_ret
    exact ⟨by simp_all [placeB], rfl⟩

theorem field_any (o d a b n t c : Int) (w : World) :
    Calls Tryz.prog 112 #[.agg #[.int .i64 o, .int .i64 d, .int .i64 a, .int .i64 b, .int .i64 n, .int .i64 t], .int .i32 c] w fun e w' => e = .returned (.int .i64 (fieldV ⟨o, d, a, b, n, t⟩ c)) ∧ New w w' := by
  go_enter Tryz.func112, Tryz.ntmps112
  go_wp2
  all_goals
    go_ret
    exact ⟨by simp_all [fieldV], (New.refl _).alloc _⟩

theorem fault_any (c v n : Int) (w : World) :
    Calls Tryz.prog 92 #[.int .i32 c, .int .i64 v, .int .i64 n] w fun e w' => e = .returned (.int .i64 (faultV c v n)) ∧ w' = w := by
  go_enter Tryz.func92, Tryz.ntmps92
  go_wp2_with (first | (go_at_call 36; refine (right_any _ _).mono ?_; rintro e w1 ⟨rfl, rfl⟩) | (go_at_call 99; refine (reg_any _ _).mono ?_; rintro e w1 ⟨rfl, rfl⟩))
  all_goals
    go_ret
    exact ⟨by first | (simp_all [faultV, rightB, regB]; done) | (simp_all [faultV, rightB, regB]; omega), rfl⟩

theorem with_any (o d a b n t c v : Int) (w : World) :
    Calls Tryz.prog 93 #[.agg #[.int .i64 o, .int .i64 d, .int .i64 a, .int .i64 b, .int .i64 n, .int .i64 t], .int .i32 c, .int .i64 v] w fun e w' =>
      e = .returned (.agg #[.int .i64 (withV ⟨o, d, a, b, n, t⟩ c v).op, .int .i64 (withV ⟨o, d, a, b, n, t⟩ c v).d, .int .i64 (withV ⟨o, d, a, b, n, t⟩ c v).a, .int .i64 (withV ⟨o, d, a, b, n, t⟩ c v).b, .int .i64 (withV ⟨o, d, a, b, n, t⟩ c v).n, .int .i64 (withV ⟨o, d, a, b, n, t⟩ c v).t]) ∧ New w w' := by
  go_enter Tryz.func93, Tryz.ntmps93
  go_wp2
  all_goals refine bodyPost_ret (by simp [results, Tryz.results93, go_sem]; rfl) rfl ⟨?_, ((New.refl _).alloc _).alloc _⟩
  all_goals simp_all [withV]

theorem fields_no (op : Int) (h : knownB op = false) (w : World) :
    Calls Tryz.prog 90 #[.int .i64 op] w fun e w' => e = .returned (.string ⟨(fieldsL op).toArray⟩) ∧ w' = w := by
  have e : (fieldsL op) = [] := by unfold fieldsL; rw [h]; rfl
  rw [e]
  go_enter Tryz.func90, Tryz.ntmps90
  go_wp2_with (go_at_call 89; refine (known_any _ _).mono ?_; rintro e w1 ⟨rfl, rfl⟩)
  go_ret
  exact ⟨rfl, rfl⟩
theorem fields_yes (k : Nat) (h1 : 1 ≤ k) (h2 : k ≤ 18) (w : World) (hl : Laid w) :
    Calls Tryz.prog 90 #[.int .i64 k] w fun e w' => e = .returned (.string ⟨(fieldsL k).toArray⟩) ∧ w' = w := by
  have hk : knownB (k : Int) = true := by simp only [knownB, decide_eq_true_iff]; omega
  have e : fieldsL (k : Int) = fldsL k := by unfold fieldsL; rw [if_pos hk]; rfl
  rw [e]
  clear e
  have hc : w.cell? ⟨0, k * 2 + 1, none⟩ = some (.string ⟨(fldsL k).toArray⟩) := hl.cell (k * 2 + 1) (by omega)
  clear hl
  go_enter Tryz.func90, Tryz.ntmps90
  go_wp2_with (go_at_call 89; refine (known_any _ _).mono ?_; rintro e w1 ⟨rfl, rfl⟩)
  go_ret
  exact ⟨rfl, rfl⟩
theorem fields_any (op : Int) (w : World) (hl : Laid w) :
    Calls Tryz.prog 90 #[.int .i64 op] w fun e w' => e = .returned (.string ⟨(fieldsL op).toArray⟩) ∧ w' = w := by
  cases h : knownB op with
  | false => exact fields_no op h w
  | true =>
    have h' := h
    simp only [knownB, decide_eq_true_iff] at h'
    obtain ⟨k, rfl⟩ : ∃ k : Nat, op = k := ⟨op.toNat, by omega⟩
    exact fields_yes k (by omega) (by omega) w hl

end Go.Proofs.YtphopkjgfkaihaaGreatDoor
namespace Go.Proofs.YtphopkjgfkaihaaGreatDoor
open Go.RowKit

def fldB (op : Int) : ByteArray := ⟨(fieldsL op).toArray⟩
theorem fldB_toList (op : Int) : (fldB op).data.toList = fieldsL op := by simp [fldB]
theorem fldB_size (op : Int) : (fldB op).size = (letters op).length := by
  show (fieldsL op).toArray.size = _
  simp [letters, lettersOf]
theorem flds_small : ∀ k < 19, ∀ c ∈ fldsL k, c.toNat < 128 := by decide +kernel
theorem fld_at {op : Int} {pos : Nat} (h : pos < (fldB op).size) : ∃ c : Int, Utf8.decode (fldB op) pos = (c.toNat, 1) ∧ ((c.toNat : Nat) : Int) = c ∧ (letters op).drop pos = c :: (letters op).drop (pos + 1) := by
  obtain ⟨c, hc, hd⟩ := decode_small h (by
    intro c hc
    rw [fldB_toList] at hc
    unfold fieldsL at hc
    split at hc
    · rename_i hk
      have hk' := known_iff.mp hk
      exact flds_small op.toNat (by omega) c hc
    · cases hc)
  refine ⟨c.toNat, by rw [hd]; simp, by simp, ?_⟩
  rw [fldB_toList] at hc
  have hl : (letters op)[pos]? = some (c.toNat : Int) := by
    unfold letters lettersOf
    rw [List.getElem?_map, hc]; rfl
  have hlt : pos < (letters op).length := by rw [← fldB_size]; exact h
  rw [List.drop_eq_getElem_cons hlt]
  rw [List.getElem?_eq_getElem hlt] at hl
  rw [Option.some.inj hl]

theorem fields_at (op : Int) (w : World) (hl : Laid w) :
    Calls Tryz.prog 90 #[.int .i64 op] w fun e w' => e = .returned (.string (fldB op)) ∧ w = w' := (fields_any op w hl).mono fun _ _ ⟨h1, h2⟩ => ⟨h1, h2.symm⟩

set_option maxHeartbeats 1000000 in
set_option maxRecDepth 100000 in
theorem spare_any (o d a b n t : Int) (w : World) (hl : Laid w) :
    Calls Tryz.prog 111 #[.agg #[.int .i64 o, .int .i64 d, .int .i64 a, .int .i64 b, .int .i64 n, .int .i64 t]] w fun e w' => e = .returned (.bool (spareB ⟨o, d, a, b, n, t⟩)) ∧ New w w' := by
  have HL := Lib.hid hl
  clear hl
  go_enter Tryz.func111, Tryz.ntmps111
  go_wp2_with (go_at_call 90; refine (fields_at o _ ((HL.out.alloc _).alloc _)).mono ?_; rintro e w1 ⟨rfl, rfl⟩)
  go_loopw [] (fun wr => ∃ (r : I) (pos : Nat), wr.heap[w.heap.size + 2]? = some (.stringIter (fldB o) pos) ∧ Has wr w.heap.size ⟨o, d, a, b, n, t⟩ ∧ Has wr (w.heap.size + 1) r ∧ New w wr ∧ Hid (bareOf ((letters o).drop pos) r = bareOf (letters o) ⟨o, d, a, b, n, t⟩) ∧ Hid (r.op = o)) (fun wr => (fldB o).size - wr.iterPos (w.heap.size + 2))
  case atStart =>
    refine ⟨⟨o, d, a, b, n, t⟩, 0, alloc_at (by rw [alloc_size, alloc_size]) _, ?_, ?_, ((alloc_new _ _).alloc _).alloc _, Lib.hid rfl, Lib.hid rfl⟩
    · exact (Has.box w ⟨o, d, a, b, n, t⟩).new ((alloc_new _ _).alloc _)
    · have h := (Has.box (w.alloc (.cells #[.int .i64 o, .int .i64 d, .int .i64 a, .int .i64 b, .int .i64 n, .int .i64 t] 79)) ⟨o, d, a, b, n, t⟩).new (alloc_new _ (.stringIter (fldB o) 0))
      rw [alloc_size] at h
      exact h
  case round =>
    obtain ⟨⟨o', d', a', b', n', t'⟩, pos, hit, hx, hr, hnw, HB, HO⟩ := hrel
    by_cases hp : pos < (fldB o).size
    · obtain ⟨c, hdec, hc, hdrop⟩ := fld_at hp
      have hnx : ∀ ty, (Instr.next (.pointer (some ⟨w.heap.size + 2, 0, none⟩)) true ty).run Tryz.prog wr = _ := fun ty => next_at hit hp ty
      rw [hdec] at hnx
      simp only [hc] at hnx
      have hr1 := hr.put (.stringIter (fldB o) (pos + 1)) (k := w.heap.size + 2) (by omega)
      have HR := Lib.hid hr1
      have HD := Lib.hid hdrop
      clear hr1 hdec hdrop hc
      go_wp2_with (first
        | (refine wpList_ldI rfl (.tmp 3) rfl _ rfl HR.out ?_)
        | (go_at_call 93; refine (with_any o' d' a' b' n' t' c 0 _).mono ?_; rintro e w1 ⟨rfl, hn1⟩)
        | (refine wpList_stI rfl rfl (.tmp 3) (.tmp 16) rfl _ rfl (withV ⟨o', d', a', b', n', t'⟩ c 0) rfl (HR.out.new hn1) ?_))
      have hi2 := hn1.heap (putO_same (o := .stringIter (fldB o) (pos + 1)) hit)
      have hi3 : (putO w1 (w.heap.size + 1) (.cells #[.int .i64 (withV ⟨o', d', a', b', n', t'⟩ c 0).op, .int .i64 (withV ⟨o', d', a', b', n', t'⟩ c 0).d, .int .i64 (withV ⟨o', d', a', b', n', t'⟩ c 0).a, .int .i64 (withV ⟨o', d', a', b', n', t'⟩ c 0).b, .int .i64 (withV ⟨o', d', a', b', n', t'⟩ c 0).n, .int .i64 (withV ⟨o', d', a', b', n', t'⟩ c 0).t] 79 (0, 0))).heap[w.heap.size + 2]? = some (.stringIter (fldB o) (pos + 1)) := by rw [putO_other (by omega)]; exact hi2
      go_roundw
      case rel =>
        refine ⟨withV ⟨o', d', a', b', n', t'⟩ c 0, pos + 1, hi3, ?_, ?_, ?_, ?_, ?_⟩
        · exact ((hx.put _ (by omega)).new hn1).put _ (by omega)
        · exact (HR.out.new hn1).stored _
        · exact ((hnw.put (by omega) _).trans hn1).put (by omega) _
        · exact Lib.hid (by rw [← HB.out, HD.out]; rfl)
        · exact Lib.hid (by rw [← HO.out]; unfold withV; repeat' split
                            all_goals rfl)
      case measure => rw [iterPos_at hi3, iterPos_at hit]; omega
    · have hnx : ∀ ty, (Instr.next (.pointer (some ⟨w.heap.size + 2, 0, none⟩)) true ty).run Tryz.prog wr = _ := fun ty => next_stop hit hp ty
      have hd : (letters o).drop pos = [] := List.drop_of_length_le (by rw [← fldB_size]; omega)
      have HE : Hid (spareB ⟨o, d, a, b, n, t⟩ = !sameB ⟨o', d', a', b', n', t'⟩ (zeroI o)) := Lib.hid (by
        have h := HB.out
        rw [hd] at h
        show (!sameB (bareOf (letters o) _) (zeroI o)) = _
        rw [← h]; rfl)
      have hc0 := hx.cell.1
      clear hd
      go_wp2_with (refine wpList_ldI rfl (.tmp 3) rfl _ rfl hr ?_)
      all_goals
        go_ret
        refine ⟨?_, hnw⟩
        rw [HE.out]
        simp_all [sameB, zeroI]

theorem lett_any {op : Int} {x : I} {n e : Int} {pos : Nat} {c : Int} (h : (letters op).drop pos = c :: (letters op).drop (pos + 1)) (hh : faultV c (fieldV x c) n = e) : hitB (letters op) x n e = true := by
  unfold hitB
  rw [List.any_eq_true]
  exact ⟨c, List.mem_of_mem_drop (by rw [h]; exact List.mem_cons_self ..), by simp [hh]⟩
theorem hit_more {op : Int} {x : I} {n e : Int} {pos : Nat} {c : Int} (h : (letters op).drop pos = c :: (letters op).drop (pos + 1)) (hh : ¬ faultV c (fieldV x c) n = e) (hb : hitB ((letters op).drop pos) x n e = hitB (letters op) x n e) : hitB ((letters op).drop (pos + 1)) x n e = hitB (letters op) x n e := by
  rw [← hb, h]
  unfold hitB
  rw [List.any_cons]
  simp [hh]

def errK (k : Nat) : Int := if k = 0 then 1 else if k = 1 then 6 else 4
theorem chk_pick {L : List Int} {x : I} {n : Int} {k : Nat} (hk : k < 3) (hj : ∀ j < k, hitB L x n (errK j) = false) (h : hitB L x n (errK k) = true) :
    (if hitB L x n 1 = true then (1 : Int) else if hitB L x n 6 = true then 6 else if hitB L x n 4 = true then 4 else 0) = errK k := by
  match k, hk with
  | 0, _ =>
    have h : hitB L x n 1 = true := h
    rw [h]; rfl
  | 1, _ =>
    have h0 : hitB L x n 1 = false := hj 0 (by omega)
    have h : hitB L x n 6 = true := h
    rw [h0, h]; rfl
  | 2, _ =>
    have h0 : hitB L x n 1 = false := hj 0 (by omega)
    have h1 : hitB L x n 6 = false := hj 1 (by omega)
    have h : hitB L x n 4 = true := h
    rw [h0, h1, h]; rfl
theorem errK_index {k : Nat} (h : k < 3) (w : World) : (Instr.index 194 (.agg #[.int .i64 1, .int .i64 6, .int .i64 4]) (.int .i64 (k : Int))).run Tryz.prog w = .ok (.int .i64 (errK k)) w := by
  match k, h with
  | 0, _ => simp [Instr.index, go_sem, errK]
  | 1, _ => simp [Instr.index, go_sem, errK]
  | 2, _ => simp [Instr.index, go_sem, errK]

set_option maxHeartbeats 2000000 in
set_option maxRecDepth 100000 in
theorem check_any (o d a b n t m : Int) (w : World) (hl : Laid w) :
    Calls Tryz.prog 94 #[.agg #[.int .i64 o, .int .i64 d, .int .i64 a, .int .i64 b, .int .i64 n, .int .i64 t], .int .i64 m] w fun e w' => e = .returned (.int .i64 (chkV ⟨o, d, a, b, n, t⟩ m)) ∧ New w w' := by
  have HL := Lib.hid hl
  clear hl
  have hx0 := Lib.hid (Has.box w ⟨o, d, a, b, n, t⟩)
  cases hk : knownB o with
  | false =>
    have e1 : chkV ⟨o, d, a, b, n, t⟩ m = 1 := by unfold chkV; rw [if_pos hk]
    rw [e1]
    go_enter Tryz.func94, Tryz.ntmps94
    go_wp2_with (go_at_call 89; refine (known_any _ _).mono ?_; rintro e w1 ⟨rfl, rfl⟩)
    go_ret
    exact ⟨rfl, alloc_new _ _⟩
  | true =>
    cases hsp : spareB ⟨o, d, a, b, n, t⟩ with
    | true =>
      have e1 : chkV ⟨o, d, a, b, n, t⟩ m = 1 := by unfold chkV; rw [if_neg (by rw [hk]; decide), if_pos hsp]
      rw [e1]
      go_enter Tryz.func94, Tryz.ntmps94
      go_wp2_with (first | (go_at_call 89; refine (known_any _ _).mono ?_; rintro e w1 ⟨rfl, rfl⟩) | (go_at_call 111; refine (spare_any _ _ _ _ _ _ _ (HL.out.alloc _)).mono ?_; rintro e w1 ⟨rfl, hn1⟩))
      go_ret
      exact ⟨rfl, (alloc_new _ _).trans hn1⟩
    | false =>
      have e1 : chkV ⟨o, d, a, b, n, t⟩ m = if hitB (letters o) ⟨o, d, a, b, n, t⟩ m 1 = true then 1 else if hitB (letters o) ⟨o, d, a, b, n, t⟩ m 6 = true then 6 else if hitB (letters o) ⟨o, d, a, b, n, t⟩ m 4 = true then 4 else 0 := by
        unfold chkV; rw [if_neg (by rw [hk]; decide), if_neg (by rw [hsp]; decide)]
      have HC := Lib.hid e1
      clear e1
      go_enter Tryz.func94, Tryz.ntmps94
      go_wp2_with (first | (go_at_call 89; refine (known_any _ _).mono ?_; rintro e w1 ⟨rfl, rfl⟩) | (go_at_call 111; refine (spare_any _ _ _ _ _ _ _ (HL.out.alloc _)).mono ?_; rintro e w1 ⟨rfl, hn1⟩))
      go_loopw [18] (fun v wr => ∃ k : Nat, k ≤ 3 ∧ v = .int .i64 k ∧ Has wr w.heap.size ⟨o, d, a, b, n, t⟩ ∧ New w wr ∧ Hid (∀ j < k, hitB (letters o) ⟨o, d, a, b, n, t⟩ m (errK j) = false)) (fun v _ => 3 - (intOf v).toNat)
      case atStart => exact ⟨0, by omega, rfl, hx0.out.new hn1, (alloc_new _ _).trans hn1, Lib.hid (fun j hj => by omega)⟩
      case round =>
        obtain ⟨k, hk3, rfl, hx, hnw, HJ⟩ := hrel
        obtain ⟨wo, rfl⟩ : ∃ wo, wo = wr := ⟨_, rfl⟩
        by_cases hlt : k < 3
        · have hc0 := hx.cell.1
          have hek := errK_index hlt wo
          go_wp2_with (go_at_call 90; refine (fields_at o _ (HL.out.new hnw)).mono ?_; rintro e w1 ⟨rfl, rfl⟩)
          go_loopw [] (fun wr => ∃ pos : Nat, wr.heap[wo.heap.size]? = some (.stringIter (fldB o) pos) ∧ Has wr w.heap.size ⟨o, d, a, b, n, t⟩ ∧ New w wr ∧ Hid (hitB ((letters o).drop pos) ⟨o, d, a, b, n, t⟩ m (errK k) = hitB (letters o) ⟨o, d, a, b, n, t⟩ m (errK k))) (fun wr => (fldB o).size - wr.iterPos wo.heap.size)
          case atStart => exact ⟨0, alloc_at rfl _, hx.new (alloc_new _ _), hnw.alloc _, Lib.hid rfl⟩
          case round =>
            obtain ⟨pos, hit, hxi, hni, HB⟩ := hrel
            have hgne : w.heap.size ≠ wo.heap.size := by have := heap_lt hx; omega
            have hgle : w.heap.size ≤ wo.heap.size := hnw.size
            by_cases hp : pos < (fldB o).size
            · obtain ⟨c, hdec, hc, hdrop⟩ := fld_at hp
              have hnx : ∀ ty, (Instr.next (.pointer (some ⟨wo.heap.size, 0, none⟩)) true ty).run Tryz.prog wr = _ := fun ty => next_at hit hp ty
              rw [hdec] at hnx
              simp only [hc] at hnx
              have HR := Lib.hid (hxi.put (.stringIter (fldB o) (pos + 1)) hgne)
              have HI := Lib.hid (putO_same (o := .stringIter (fldB o) (pos + 1)) hit)
              have HD := Lib.hid hdrop
              clear hdec hdrop hc
              cases hf : decide (faultV c (fieldV ⟨o, d, a, b, n, t⟩ c) m = errK k) with
              | true =>
                have hq : (faultV c (fieldV ⟨o, d, a, b, n, t⟩ c) m == errK k) = true := by simpa using hf
                have HV : Hid (chkV ⟨o, d, a, b, n, t⟩ m = errK k) := Lib.hid (by rw [HC.out]; exact chk_pick hlt HJ.out (lett_any HD.out (of_decide_eq_true hf)))
                clear hf
                go_wp2_with (first | (refine wpList_ldI rfl (.tmp 2) rfl _ rfl HR.out ?_) | (go_at_call 112; refine (field_any o d a b n t c _).mono ?_; rintro e w2 ⟨rfl, hn2⟩) | (go_at_call 92; refine (fault_any _ _ _ _).mono ?_; rintro e w3 ⟨rfl, rfl⟩))
                go_ret
                exact ⟨by rw [HV.out]; rfl, (hni.put hgle _).trans hn2⟩
              | false =>
                have hq : (faultV c (fieldV ⟨o, d, a, b, n, t⟩ c) m == errK k) = false := by simpa using hf
                have HF := Lib.hid (of_decide_eq_false hf)
                clear hf
                go_wp2_with (first | (refine wpList_ldI rfl (.tmp 2) rfl _ rfl HR.out ?_) | (go_at_call 112; refine (field_any o d a b n t c _).mono ?_; rintro e w2 ⟨rfl, hn2⟩) | (go_at_call 92; refine (fault_any _ _ _ _).mono ?_; rintro e w3 ⟨rfl, rfl⟩))
                go_roundw
                case rel => exact ⟨pos + 1, hn2.heap HI.out, HR.out.new hn2, (hni.put hgle _).trans hn2, Lib.hid (hit_more HD.out HF.out HB.out)⟩
                case measure => rw [iterPos_at (hn2.heap HI.out), iterPos_at hit]; omega
            · have hnx : ∀ ty, (Instr.next (.pointer (some ⟨wo.heap.size, 0, none⟩)) true ty).run Tryz.prog wr = _ := fun ty => next_stop hit hp ty
              have HN : Hid (hitB (letters o) ⟨o, d, a, b, n, t⟩ m (errK k) = false) := Lib.hid (by
                rw [← HB.out, List.drop_of_length_le (by rw [← fldB_size]; omega)]; rfl)
              go_wp2
              go_roundw
              case rel =>
                refine ⟨k + 1, by omega, by go_num, hxi, hni, Lib.hid (fun j hj => ?_)⟩
                by_cases hjk : j = k
                · rw [hjk]; exact HN.out
                · exact HJ.out j (by omega)
              case measure => simp [intOf]; omega
        · have HV : Hid (chkV ⟨o, d, a, b, n, t⟩ m = 0) := Lib.hid (by
            have h := HJ.out
            have h0 := h 0 (by omega)
            have h1 := h 1 (by omega)
            have h2 := h 2 (by omega)
            rw [HC.out]
            rw [show errK 0 = 1 from rfl] at h0
            rw [show errK 1 = 6 from rfl] at h1
            rw [show errK 2 = 4 from rfl] at h2
            rw [h0, h1, h2]; rfl)
          go_wp2
          go_ret
          exact ⟨by rw [HV.out]; rfl, hnw⟩
theorem spare_from {w0 : World} (o d a b n t : Int) (w : World) (hl : Hid (Laid w0)) (h : New w0 w) :
    Calls Tryz.prog 111 #[.agg #[.int .i64 o, .int .i64 d, .int .i64 a, .int .i64 b, .int .i64 n, .int .i64 t]] w fun e w' => e = .returned (.bool (spareB ⟨o, d, a, b, n, t⟩)) ∧ New w0 w' :=
  (spare_any o d a b n t w (hl.out.new h)).mono fun _ _ ⟨he, hw⟩ => ⟨he, h.trans hw⟩
theorem check_from {w0 : World} (o d a b n t m : Int) (w : World) (hl : Hid (Laid w0)) (h : New w0 w) :
    Calls Tryz.prog 94 #[.agg #[.int .i64 o, .int .i64 d, .int .i64 a, .int .i64 b, .int .i64 n, .int .i64 t], .int .i64 m] w fun e w' => e = .returned (.int .i64 (chkV ⟨o, d, a, b, n, t⟩ m)) ∧ New w0 w' :=
  (check_any o d a b n t m w (hl.out.new h)).mono fun _ _ ⟨he, hw⟩ => ⟨he, h.trans hw⟩
end Go.Proofs.YtphopkjgfkaihaaGreatDoor
namespace Go.Proofs.YtphopkjgfkaihaaGreatDoor
open Go.RowKit

theorem idx_cut : ∀ l : List UInt8, Lib.indexByte l 32 = -1 ∧ cutL l = (l, [], false) ∨ ∃ i : Nat, Lib.indexByte l 32 = i ∧ i < l.length ∧ cutL l = (l.take i, l.drop (i + 1), true)
  | [] => .inl ⟨rfl, rfl⟩
  | c :: l => by
    by_cases h : c = 32
    · subst h
      exact .inr ⟨0, rfl, by simp, by simp [cutL]⟩
    · have h' : (c == 32) = false := by simp [h]
      rcases idx_cut l with ⟨h1, h2⟩ | ⟨i, h1, h2, h3⟩
      · refine .inl ⟨?_, ?_⟩
        · rw [Lib.indexByte, h1, h']; rfl
        · rw [cutL, if_neg h, h2]
      · refine .inr ⟨i + 1, ?_, by simp; omega, ?_⟩
        · rw [Lib.indexByte, h1, h']
          have : ((i : Int) == -1) = false := by simp
          rw [this]
          simp
        · rw [cutL, if_neg h, h3]; simp

theorem ret_cut {a b c d : ByteArray} {p : Bool} (h1 : a = c) (h2 : b = d) : Ending.returned (.tuple #[.string a, .string b, .bool p]) = .returned (.tuple #[.string c, .string d, .bool p]) := by rw [h1, h2]

set_option maxHeartbeats 1000000 in
theorem lcut_any (s : ByteArray) (hs : s.size ≤ 281474976710656) (w : World) :
    Calls Tryz.prog 107 #[.string s, .string ⟨#[32]⟩] w fun e w' => e = .returned (.tuple #[.string ⟨(cutL s.data.toList).1.toArray⟩, .string ⟨(cutL s.data.toList).2.1.toArray⟩, .bool (cutL s.data.toList).2.2]) ∧ New w w' := by
  have hc := Tryz.stringslite_Index_one s 32 w
  rcases idx_cut s.data.toList with ⟨h1, h2⟩ | ⟨i, h1, h2, h3⟩
  · rw [h1] at hc
    rw [h2]
    have H := Lib.hid hc
    have HS := Lib.hid hs
    clear hc h1 h2 hs
    go_enter Tryz.func107, Tryz.ntmps107
    go_wp2_with (go_at_call 126; refine (H.out).mono ?_; rintro e w1 ⟨rfl, rfl⟩)
    go_ret3
    exact ⟨ret_cut (by simp) rfl, New.refl _⟩
  · rw [h1] at hc
    rw [h3]
    have H := Lib.hid hc
    have hi : i < s.size := h2
    have c1 : (0 : Int) ≤ ↑i := by omega
    have c2 : (↑i : Int) ≤ ↑s.size := by omega
    have c3 : (0 : Int) ≤ ↑i + 1 := by omega
    have c4 : (↑i + 1 : Int) ≤ ↑s.size := by omega
    clear hc h1 h2 h3
    go_enter Tryz.func107, Tryz.ntmps107
    go_wp2_with (go_at_call 126; refine (H.out).mono ?_; rintro e w1 ⟨rfl, rfl⟩)
    go_region
    go_wp2
    go_ret3
    refine ⟨ret_cut ?_ ?_, (New.refl _).drew⟩
    · rw [Lib.extract_eq]; simp
    · rw [Lib.extract_eq]
      congr 2
      exact List.take_of_length_le (by rw [List.length_drop]; exact Nat.le_refl _)
theorem cut_from {w0 : World} (s : ByteArray) (hs : s.size ≤ 281474976710656) (w : World) (h : New w0 w) :
    Calls Tryz.prog 87 #[.string s, .string ⟨#[32]⟩] w fun e w' => e = .returned (.tuple #[.string ⟨(cutL s.data.toList).1.toArray⟩, .string ⟨(cutL s.data.toList).2.1.toArray⟩, .bool (cutL s.data.toList).2.2]) ∧ New w0 w' := by
  have hc := lcut_any s hs
  have H := Lib.hid hc
  clear hc hs
  go_enter Tryz.func87, Tryz.ntmps87
  go_wp2_with (go_at_call 107; refine (H.out _).mono ?_; rintro e w1 ⟨rfl, hn⟩)
  go_ret3
  exact ⟨rfl, h.trans hn⟩

-- pieces
theorem read_from {w0 : World} (c : Int) (s : ByteArray) (hs : s.size ≤ 281474976710656) (w : World) (hl : Hid (Laid w0)) (h : New w0 w) :
    Calls Tryz.prog 91 #[.int .i32 c, .string s] w fun e w' => e = .returned (.tuple #[.int .i64 (readV c s.data.toList), .int .i64 (readE c s.data.toList)]) ∧ New w0 w' := by
  cases hp : placeB c with
  | false =>
    have e1 : readV c s.data.toList = parN s.data.toList := by unfold readV; rw [if_neg (by rw [hp]; decide)]
    have e2 : readE c s.data.toList = parE s.data.toList := by unfold readE; rw [if_neg (by rw [hp]; decide)]
    rw [e1, e2]
    have H := Lib.hid (numParse_any s hs w (hl.out.new h))
    clear hl hs
    go_enter Tryz.func91, Tryz.ntmps91
    go_wp2_with (first | (go_at_call 108; refine (place_any _ _).mono ?_; rintro e w1 ⟨rfl, rfl⟩) | (go_at_call 109; refine (H.out).mono ?_; rintro e w1 ⟨rfl, hn⟩))
    go_ret2
    exact ⟨rfl, h.trans hn⟩
  | true =>
    have e1 : readV c s.data.toList = locN s.data.toList := by unfold readV; rw [if_pos hp]
    have e2 : readE c s.data.toList = locE s.data.toList := by unfold readE; rw [if_pos hp]
    rw [e1, e2]
    have H := Lib.hid (parse_any s hs w)
    clear hl hs
    go_enter Tryz.func91, Tryz.ntmps91
    go_wp2_with (first | (go_at_call 108; refine (place_any _ _).mono ?_; rintro e w1 ⟨rfl, rfl⟩) | (go_at_call 110; refine (H.out).mono ?_; rintro e w1 ⟨rfl, hn⟩))
    go_ret2
    exact ⟨rfl, h.trans hn⟩

-- words
def wordB (k : Nat) : ByteArray := ⟨(wordL k).toArray⟩
theorem wordB_toList (k : Nat) : (wordB k).data.toList = wordL k := by simp [wordB]
theorem opOf_none {l : List UInt8} (h : ∀ k, 1 ≤ k → k < 19 → wordL k ≠ l) : opOfL l = 0 := by
  unfold opOfL
  rw [List.find?_eq_none.mpr]
  · rfl
  · intro k hk
    have h3 : ∀ j ∈ (List.range 19).drop 1, 1 ≤ j ∧ j ≤ 18 := by decide
    have := h3 k hk
    have := h k (by omega) (by omega)
    simpa using this
set_option maxHeartbeats 1000000 in
theorem opOf_any (s : ByteArray) (w : World) (hl : Laid w) :
    Calls Tryz.prog 88 #[.string s] w fun e w' => e = .returned (.int .i64 (opOfL s.data.toList : Nat)) ∧ w' = w := by
  have hcell : ∀ k : Nat, k < 19 → w.cell? ⟨0, k * 2, none⟩ = some (.string (wordB k)) := fun k hk => hl.cell (k * 2) (by omega)
  have HL := Lib.hid hcell
  clear hl hcell
  go_enter Tryz.func88, Tryz.ntmps88
  go_wp2
  go_loop [3] (fun v => ∃ k : Nat, 1 ≤ k ∧ k ≤ 19 ∧ v = .int .i64 k ∧ Hid (∀ j, 1 ≤ j → j < k → wordL j ≠ s.data.toList)) (fun v => 19 - (intOf v).toNat)
  case atStart => exact ⟨1, by omega, by omega, rfl, Lib.hid (fun j h1 h2 => by omega)⟩
  case round =>
    obtain ⟨k, hk1, hk, rfl, HJ⟩ := hrel
    by_cases hlt : k < 19
    · have hc := HL.out k hlt
      cases hq : decide (wordL k = s.data.toList) with
      | true =>
        have hq' : wordL k = s.data.toList := by simpa using hq
        have hb : ((wordB k).toList == s.toList) = true := str_beq (by rw [wordB_toList]; exact hq)
        have e1 : ((opOfL s.data.toList : Nat) : Int) = k := by rw [← hq', opOf_word k hlt hk1]
        clear hq
        go_wp2
        go_ret
        exact ⟨rfl, rfl⟩
      | false =>
        have hq' : wordL k ≠ s.data.toList := by simpa using hq
        have hb : ((wordB k).toList == s.toList) = false := str_beq (by rw [wordB_toList]; exact hq)
        clear hq
        go_wp2
        go_round
        case rel =>
          refine ⟨k + 1, by omega, by omega, by go_num, Lib.hid (fun j h1 h2 => ?_)⟩
          by_cases hjk : j = k
          · rw [hjk]; exact hq'
          · exact HJ.out j h1 (by omega)
        case measure => simp [intOf]; omega
    · have e1 : ((opOfL s.data.toList : Nat) : Int) = 0 := by rw [opOf_none (fun j h1 h2 => HJ.out j h1 (by omega))]; rfl
      go_wp2
      go_ret
      exact ⟨rfl, rfl⟩
end Go.Proofs.YtphopkjgfkaihaaGreatDoor
namespace Go.Proofs.YtphopkjgfkaihaaGreatDoor
open Go.RowKit

def prsX (l : List UInt8) : I := (prs l).getD ⟨0, 0, 0, 0, 0, 0⟩
def prsE (l : List UInt8) : Int := if (prs l).isSome then 0 else 2
theorem prsX_none {l : List UInt8} (h : prs l = none) : prsX l = ⟨0, 0, 0, 0, 0, 0⟩ := by unfold prsX; rw [h]; rfl
theorem prsE_none {l : List UInt8} (h : prs l = none) : prsE l = 2 := by unfold prsE; rw [h]; rfl
theorem prsX_some {l : List UInt8} {x : I} (h : prs l = some x) : prsX l = x := by unfold prsX; rw [h]; rfl
theorem prsE_some {l : List UInt8} {x : I} (h : prs l = some x) : prsE l = 0 := by unfold prsE; rw [h]; rfl
theorem cut_len (l : List UInt8) : (cutL l).1.length ≤ l.length ∧ (cutL l).2.1.length ≤ l.length := by
  induction l with
  | nil => simp [cutL]
  | cons c l ih =>
    rw [cutL]
    split
    · simp
    · simp only [List.length_cons]; omega
theorem Has.var {w : World} {g : Nat} {x : I} (h : Has w g x) : (loadVar 79 ⟨g, 0, none⟩).run Tryz.prog w = .ok (.agg #[.int .i64 (x).op, .int .i64 (x).d, .int .i64 (x).a, .int .i64 (x).b, .int .i64 (x).n, .int .i64 (x).t]) w :=
  run_loadVar_row w g _ _ _ _ _ h Tryz.underlying79 rfl infoI
theorem Has.zero (w : World) : Has (w.alloc (.cells #[.int .i64 0, .int .i64 0, .int .i64 0, .int .i64 0, .int .i64 0, .int .i64 0] 79)) w.heap.size ⟨0, 0, 0, 0, 0, 0⟩ := heap_alloc_new _ _
theorem arr_list (l : List UInt8) : (⟨l.toArray⟩ : ByteArray).data.toList = l := by simp

set_option maxHeartbeats 4000000 in
set_option maxRecDepth 100000 in
theorem insParse_any (s : ByteArray) (hs : s.size ≤ 281474976710656) (w : World) (hl : Laid w) :
    Calls Tryz.prog 58 #[.string s] w fun e w' => e = .returned (.tuple #[.agg #[.int .i64 (prsX s.data.toList).op, .int .i64 (prsX s.data.toList).d, .int .i64 (prsX s.data.toList).a, .int .i64 (prsX s.data.toList).b, .int .i64 (prsX s.data.toList).n, .int .i64 (prsX s.data.toList).t], .int .i64 (prsE s.data.toList)]) ∧ New w w' := by
  have HL := Lib.hid hl
  have HS := Lib.hid hs
  have hz0 := Lib.hid (Has.zero w)
  clear hl hs
  cases hk : decide (opOfL (cutL s.data.toList).1 = 0) with
  | true =>
    have h' := of_decide_eq_true hk
    have hp : prs s.data.toList = none := by unfold prs; rw [if_pos h']
    rw [prsX_none hp, prsE_none hp]
    have hkn : knownB ((opOfL (cutL s.data.toList).1 : Nat) : Int) = false := by rw [h']; rfl
    clear hk h' hp
    go_enter Tryz.func58, Tryz.ntmps58
    go_wp2_with (first
      | (go_at_call 87; refine (cut_from s HS.out _ (New.refl _)).mono ?_; rintro e w1 ⟨rfl, hn1⟩)
      | (go_at_call 88; refine (opOf_any _ _ ((HL.out.alloc _).new hn1)).mono ?_; rw [arr_list]; rintro e w2 ⟨rfl, rfl⟩)
      | (go_at_call 89; refine (known_any _ _).mono ?_; rintro e w2 ⟨rfl, rfl⟩)
      | (refine wpList_stI rfl rfl (.tmp 2) (.tmp 25) rfl _ rfl ⟨0, 0, 0, 0, 0, 0⟩ rfl (hz0.out.new hn1) ?_))
    have hv := ((hz0.out.new hn1).stored ⟨0, 0, 0, 0, 0, 0⟩).var
    refine bodyPost_ret (by simp [results, Tryz.results58, asAddr, hv]) rfl ⟨rfl, ?_⟩
    exact ((alloc_new _ _).trans hn1).put (Nat.le_refl _) _
  | false =>
    have h' := of_decide_eq_false hk
    obtain ⟨h1, h2, h3⟩ := opOf_some h'
    have HP : Hid (rdI (letters (opOfL (cutL s.data.toList).1)) (cutL s.data.toList).2.1 (cutL s.data.toList).2.2 (zeroI (opOfL (cutL s.data.toList).1)) = prs s.data.toList) := Lib.hid (by unfold prs; rw [if_neg h'])
    have hlen := cut_len s.data.toList
    clear hk h'
    generalize hkk : opOfL (cutL s.data.toList).1 = k at *
    have hkn : knownB (k : Int) = true := known_iff.mpr (by omega)
    have HK := Lib.hid hkk
    have HLEN := Lib.hid hlen
    clear h3 hkk hlen
    go_enter Tryz.func58, Tryz.ntmps58
    go_wp2_with (first
      | (go_at_call 87; refine (cut_from s HS.out _ (New.refl _)).mono ?_; rintro e w1 ⟨rfl, hn1⟩)
      | (go_at_call 88; refine (opOf_any _ _ ((HL.out.alloc _).new hn1)).mono ?_; rw [arr_list, HK.out]; rintro e w2 ⟨rfl, rfl⟩)
      | (go_at_call 89; refine (known_any _ _).mono ?_; rintro e w2 ⟨rfl, rfl⟩)
      | (go_at_call 90; refine (fields_at _ _ (((HL.out.alloc _).new hn1).alloc _)).mono ?_; rintro e w2 ⟨rfl, rfl⟩))
    go_loopw [5, 6] (fun rv mv wr => ∃ (pos : Nat) (rest : List UInt8) (more : Bool) (x : I), rv = .string ⟨rest.toArray⟩ ∧ mv = .bool more ∧ wr.heap[w2.heap.size + 1]? = some (.stringIter (fldB k) pos) ∧ Has wr w.heap.size ⟨0, 0, 0, 0, 0, 0⟩ ∧ Has wr w2.heap.size x ∧ New w wr ∧ Hid (rdI ((letters k).drop pos) rest more x = prs s.data.toList) ∧ Hid (rest.length ≤ s.size)) (fun _ _ wr => (fldB k).size - wr.iterPos (w2.heap.size + 1))
    case atStart =>
      refine ⟨0, _, _, zeroI k, rfl, rfl, alloc_at (by rw [alloc_size]) _, ?_, ?_, (((alloc_new _ _).trans hn1).alloc _).alloc _, Lib.hid HP.out, Lib.hid HLEN.out.2⟩
      · exact (hz0.out.new hn1).new ((alloc_new _ _).alloc _)
      · exact (Has.box w2 (zeroI k)).new (alloc_new _ _)
    case round =>
      obtain ⟨pos, rest, more, ⟨o', d', a', b', n', t'⟩, rfl, rfl, hit, hz, hx, hni, HB, HR⟩ := hrel
      have hgle : w.heap.size < w2.heap.size := by have := hn1.size; rw [alloc_size] at this; omega
      by_cases hp : pos < (fldB k).size
      · obtain ⟨c, hdec, hc, hdrop⟩ := fld_at hp
        have hnx : ∀ ty, (Instr.next (.pointer (some ⟨w2.heap.size + 1, 0, none⟩)) true ty).run Tryz.prog wr = _ := fun ty => next_at hit hp ty
        rw [hdec] at hnx
        simp only [hc] at hnx
        have HZ := Lib.hid (hz.put (.stringIter (fldB k) (pos + 1)) (k := w2.heap.size + 1) (by omega))
        have HX := Lib.hid (hx.put (.stringIter (fldB k) (pos + 1)) (k := w2.heap.size + 1) (by omega))
        have HT := Lib.hid (putO_same (o := .stringIter (fldB k) (pos + 1)) hit)
        have HNW := Lib.hid (hni.put (g := w2.heap.size + 1) (by omega) (.stringIter (fldB k) (pos + 1)))
        have HB2 : Hid ((if readE c (cutL rest).1 = 0 ∧ faultV c (readV c (cutL rest).1) 200 = 0 then rdI ((letters k).drop (pos + 1)) (cutL rest).2.1 (cutL rest).2.2 (withV ⟨o', d', a', b', n', t'⟩ c (readV c (cutL rest).1)) else none) = prs s.data.toList) := Lib.hid (by rw [← HB.out, hdrop, rdI])
        have HCL := Lib.hid (cut_len rest)
        clear hdec hdrop hc HB
        have hbig1 : Hid ((⟨rest.toArray⟩ : ByteArray).size ≤ 281474976710656) := Lib.hid (by
          show rest.toArray.size ≤ _
          have := HR.out
          have := HS.out
          simp; omega)
        have hbig2 : Hid ((⟨(cutL rest).1.toArray⟩ : ByteArray).size ≤ 281474976710656) := Lib.hid (by
          show (cutL rest).1.toArray.size ≤ _
          have := HR.out
          have := HS.out
          have := HCL.out.1
          simp; omega)
        by_cases hre : readE c (cutL rest).1 = 0
        · by_cases hfa : faultV c (readV c (cutL rest).1) 200 = 0
          · have q2 : (faultV c (readV c (cutL rest).1) 200 != 0) = false := by simpa using hfa
            have HB3 : Hid (rdI ((letters k).drop (pos + 1)) (cutL rest).2.1 (cutL rest).2.2 (withV ⟨o', d', a', b', n', t'⟩ c (readV c (cutL rest).1)) = prs s.data.toList) := Lib.hid (by rw [← HB2.out, if_pos ⟨hre, hfa⟩])
            clear hfa HB2
            go_wp2_with (first
              | (go_at_call 87; refine (cut_from ⟨rest.toArray⟩ hbig1.out _ (New.refl _)).mono ?_; rw [arr_list]; rintro e w3 ⟨rfl, hn3⟩)
              | (go_at_call 91; refine (read_from c ⟨(cutL rest).1.toArray⟩ hbig2.out _ (Lib.hid (HL.out.new (HNW.out.trans hn3))) (New.refl _)).mono ?_; rw [arr_list]; rintro e w4 ⟨rfl, hn4⟩)
              | (go_at_call 92; refine (fault_any _ _ _ _).mono ?_; rintro e w5 ⟨rfl, rfl⟩)
              | (refine wpList_ldI rfl (.tmp 8) rfl _ rfl ((HX.out.new hn3).new hn4) ?_)
              | (go_at_call 93; refine (with_any o' d' a' b' n' t' c _ _).mono ?_; rintro e w6 ⟨rfl, hn6⟩)
              | (refine wpList_stI rfl rfl (.tmp 8) (.tmp 58) rfl _ rfl (withV ⟨o', d', a', b', n', t'⟩ c (readV c (cutL rest).1)) rfl (((HX.out.new hn3).new hn4).new hn6) ?_)
              | (refine wpList_stI rfl rfl (.tmp 2) (.tmp 54) rfl _ rfl ⟨0, 0, 0, 0, 0, 0⟩ rfl ((HZ.out.new hn3).new hn4) ?_))
            have hi6 := hn6.heap (hn4.heap (hn3.heap HT.out))
            have hi7 : (putO w6 w2.heap.size (.cells #[.int .i64 (withV ⟨o', d', a', b', n', t'⟩ c (readV c (cutL rest).1)).op, .int .i64 (withV ⟨o', d', a', b', n', t'⟩ c (readV c (cutL rest).1)).d, .int .i64 (withV ⟨o', d', a', b', n', t'⟩ c (readV c (cutL rest).1)).a, .int .i64 (withV ⟨o', d', a', b', n', t'⟩ c (readV c (cutL rest).1)).b, .int .i64 (withV ⟨o', d', a', b', n', t'⟩ c (readV c (cutL rest).1)).n, .int .i64 (withV ⟨o', d', a', b', n', t'⟩ c (readV c (cutL rest).1)).t] 79 (0, 0))).heap[w2.heap.size + 1]? = some (.stringIter (fldB k) (pos + 1)) := by rw [putO_other (by omega)]; exact hi6
            go_roundw
            case rel =>
              refine ⟨pos + 1, _, _, withV ⟨o', d', a', b', n', t'⟩ c (readV c (cutL rest).1), rfl, rfl, hi7, ?_, ?_, ?_, Lib.hid HB3.out, Lib.hid ?_⟩
              · exact (((HZ.out.new hn3).new hn4).new hn6).put _ (by omega)
              · exact (((HX.out.new hn3).new hn4).new hn6).stored _
              · exact (((HNW.out.trans hn3).trans hn4).trans hn6).put (by omega) _
              · have := HCL.out.2
                have := HR.out
                omega
            case measure => rw [iterPos_at hi7, iterPos_at hit]; omega
          · have q2 : (faultV c (readV c (cutL rest).1) 200 != 0) = true := by simpa using hfa
            have hpn : prs s.data.toList = none := by rw [← HB2.out, if_neg (fun h => hfa h.2)]
            have HXN := Lib.hid (prsX_none hpn)
            have HEN := Lib.hid (prsE_none hpn)
            clear hfa HB2 hpn
            go_wp2_with (first
              | (go_at_call 87; refine (cut_from ⟨rest.toArray⟩ hbig1.out _ (New.refl _)).mono ?_; rw [arr_list]; rintro e w3 ⟨rfl, hn3⟩)
              | (go_at_call 91; refine (read_from c ⟨(cutL rest).1.toArray⟩ hbig2.out _ (Lib.hid (HL.out.new (HNW.out.trans hn3))) (New.refl _)).mono ?_; rw [arr_list]; rintro e w4 ⟨rfl, hn4⟩)
              | (go_at_call 92; refine (fault_any _ _ _ _).mono ?_; rintro e w5 ⟨rfl, rfl⟩)
              | (refine wpList_ldI rfl (.tmp 8) rfl _ rfl ((HX.out.new hn3).new hn4) ?_)
              | (go_at_call 93; refine (with_any o' d' a' b' n' t' c _ _).mono ?_; rintro e w6 ⟨rfl, hn6⟩)
              | (refine wpList_stI rfl rfl (.tmp 8) (.tmp 58) rfl _ rfl (withV ⟨o', d', a', b', n', t'⟩ c (readV c (cutL rest).1)) rfl (((HX.out.new hn3).new hn4).new hn6) ?_)
              | (refine wpList_stI rfl rfl (.tmp 2) (.tmp 54) rfl _ rfl ⟨0, 0, 0, 0, 0, 0⟩ rfl ((HZ.out.new hn3).new hn4) ?_))
            have hv := (((HZ.out.new hn3).new hn4).stored ⟨0, 0, 0, 0, 0, 0⟩).var
            have HXX := HXN.out
            have HEE := HEN.out
            refine bodyPost_ret (by simp [results, Tryz.results58, asAddr, hv]; rfl) rfl ⟨by rw [HXX, HEE], ?_⟩
            exact ((HNW.out.trans hn3).trans hn4).put (Nat.le_refl _) _
        · have hpn : prs s.data.toList = none := by rw [← HB2.out, if_neg (fun h => hre h.1)]
          have HXN := Lib.hid (prsX_none hpn)
          have HEN := Lib.hid (prsE_none hpn)
          clear HB2 hpn
          go_wp2_with (first
            | (go_at_call 87; refine (cut_from ⟨rest.toArray⟩ hbig1.out _ (New.refl _)).mono ?_; rw [arr_list]; rintro e w3 ⟨rfl, hn3⟩)
            | (go_at_call 91; refine (read_from c ⟨(cutL rest).1.toArray⟩ hbig2.out _ (Lib.hid (HL.out.new (HNW.out.trans hn3))) (New.refl _)).mono ?_; rw [arr_list]; rintro e w4 ⟨rfl, hn4⟩)
            | (go_at_call 92; refine (fault_any _ _ _ _).mono ?_; rintro e w5 ⟨rfl, rfl⟩)
            | (refine wpList_ldI rfl (.tmp 8) rfl _ rfl ((HX.out.new hn3).new hn4) ?_)
            | (go_at_call 93; refine (with_any o' d' a' b' n' t' c _ _).mono ?_; rintro e w6 ⟨rfl, hn6⟩)
            | (refine wpList_stI rfl rfl (.tmp 8) (.tmp 58) rfl _ rfl (withV ⟨o', d', a', b', n', t'⟩ c (readV c (cutL rest).1)) rfl (((HX.out.new hn3).new hn4).new hn6) ?_)
            | (refine wpList_stI rfl rfl (.tmp 2) (.tmp 54) rfl _ rfl ⟨0, 0, 0, 0, 0, 0⟩ rfl ((HZ.out.new hn3).new hn4) ?_))
          have hv := (((HZ.out.new hn3).new hn4).stored ⟨0, 0, 0, 0, 0, 0⟩).var
          have HXX := HXN.out
          have HEE := HEN.out
          refine bodyPost_ret (by simp [results, Tryz.results58, asAddr, hv]; rfl) rfl ⟨by rw [HXX, HEE], ?_⟩
          exact ((HNW.out.trans hn3).trans hn4).put (Nat.le_refl _) _
      · have hnx : ∀ ty, (Instr.next (.pointer (some ⟨w2.heap.size + 1, 0, none⟩)) true ty).run Tryz.prog wr = _ := fun ty => next_stop hit hp ty
        have HE : Hid ((if more = true then none else some ⟨o', d', a', b', n', t'⟩) = prs s.data.toList) := Lib.hid (by rw [← HB.out, List.drop_of_length_le (by rw [← fldB_size]; omega), rdI])
        cases more with
        | true =>
          have HXN := Lib.hid (prsX_none (l := s.data.toList) (by rw [← HE.out]; rfl))
          have HEN := Lib.hid (prsE_none (l := s.data.toList) (by rw [← HE.out]; rfl))
          go_wp2_with (refine wpList_stI rfl rfl (.tmp 2) (.tmp 60) rfl _ rfl ⟨0, 0, 0, 0, 0, 0⟩ rfl hz ?_)
          have hv := (hz.stored ⟨0, 0, 0, 0, 0, 0⟩).var
          have HXX := HXN.out
          have HEE := HEN.out
          refine bodyPost_ret (by simp [results, Tryz.results58, asAddr, hv]; rfl) rfl ⟨by rw [HXX, HEE], ?_⟩
          exact hni.put (Nat.le_refl _) _
        | false =>
          have HXN := Lib.hid (prsX_some (l := s.data.toList) (x := ⟨o', d', a', b', n', t'⟩) (by rw [← HE.out]; rfl))
          have HEN := Lib.hid (prsE_some (l := s.data.toList) (x := ⟨o', d', a', b', n', t'⟩) (by rw [← HE.out]; rfl))
          go_wp2_with (first | (refine wpList_ldI rfl (.tmp 8) rfl _ rfl hx ?_) | (refine wpList_stI rfl rfl (.tmp 2) (.tmp 61) rfl _ rfl ⟨o', d', a', b', n', t'⟩ rfl hz ?_))
          have hv := (hz.stored ⟨o', d', a', b', n', t'⟩).var
          have HXX := HXN.out
          have HEE := HEN.out
          refine bodyPost_ret (by simp [results, Tryz.results58, asAddr, hv]; rfl) rfl ⟨by rw [HXX, HEE], ?_⟩
          exact hni.put (Nat.le_refl _) _
theorem insParse_from {w0 : World} (s : ByteArray) (hs : Hid (s.size ≤ 281474976710656)) (w : World) (hl : Hid (Laid w0)) (h : New w0 w) :
    Calls Tryz.prog 58 #[.string s] w fun e w' => e = .returned (.tuple #[.agg #[.int .i64 (prsX s.data.toList).op, .int .i64 (prsX s.data.toList).d, .int .i64 (prsX s.data.toList).a, .int .i64 (prsX s.data.toList).b, .int .i64 (prsX s.data.toList).n, .int .i64 (prsX s.data.toList).t], .int .i64 (prsE s.data.toList)]) ∧ New w0 w' :=
  (insParse_any s hs.out w (hl.out.new h)).mono fun _ _ ⟨he, hw⟩ => ⟨he, h.trans hw⟩
end Go.Proofs.YtphopkjgfkaihaaGreatDoor
