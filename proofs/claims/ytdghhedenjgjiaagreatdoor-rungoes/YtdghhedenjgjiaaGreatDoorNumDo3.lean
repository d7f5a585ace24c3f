/-
  The contracts of num.Text and num.Parse, over strconv's: under what the packages' start-up lays ('Laid').
-/
import Derived.Test.YtdghhedenjgjiaaGreatDoorProg
import Derived.Test.YtdghhedenjgjiaaGreatDoorShelf
import Derived.Test.YtdghhedenjgjiaaGreatDoorInsMath
namespace Go.Proofs.YtdghhedenjgjiaaGreatDoor
open Go.RowKit

/-- The cells of the table of shapes. -/
def shpCells : Array Value := (tabL.map fun l => Value.string ⟨l.toArray⟩).toArray
/-- What strconv's variables hold, and the table of shapes. -/
structure Laid (w : World) : Prop where
  tab : Lib.TabIs Tryz.prog w "internal/strconv.uint64pow10" .u64 Lib.pow10Tab
  syn : ∃ tp p, w.var? Tryz.prog "strconv.ErrSyntax" = some #[.iface tp p]
  rng : ∃ tp p, w.var? Tryz.prog "strconv.ErrRange" = some #[.iface tp p]
  shp : w.var? Tryz.prog "joinery/ins.shapes" = some shpCells

theorem gTab : Tryz.prog.globalNamed "internal/strconv.uint64pow10" = some 4 := by kernel_rfl
theorem gSyn : Tryz.prog.globalNamed "strconv.ErrSyntax" = some 2 := by kernel_rfl
theorem gRng : Tryz.prog.globalNamed "strconv.ErrRange" = some 3 := by kernel_rfl

theorem gShp : Tryz.prog.globalNamed "joinery/ins.shapes" = some 0 := by kernel_rfl

theorem var_new {n : String} {g : Nat} {cs : Array Value} {w w' : World} (hg : Tryz.prog.globalNamed n = some g) (h : w.var? Tryz.prog n = some cs) (hn : New w w') : w'.var? Tryz.prog n = some cs := by
  simp only [World.var?, hg, Option.bind_some] at h ⊢
  by_cases hlt : g < w.heap.size
  · rw [hn.block g hlt]; exact h
  · rw [Array.getElem?_eq_none (by omega)] at h; cases h
theorem new_grow (w : World) (k : Nat) (os : Array Obj) : New w (Sort.grow (w.drewN k) os) := by
  refine ⟨rfl, rfl, rfl, ?_, fun j hj => ?_⟩
  · show w.heap.size ≤ (w.heap ++ os).size
    rw [Array.size_append]; omega
  · show (w.heap ++ os)[j]? = _
    rw [Array.getElem?_append_left hj]

theorem Laid.new {w w' : World} (h : Laid w) (n : New w w') : Laid w' := by
  obtain ⟨a, ⟨t1, p1, b⟩, ⟨t2, p2, c⟩, d⟩ := h
  exact ⟨var_new gTab a n, ⟨t1, p1, var_new gSyn b n⟩, ⟨t2, p2, var_new gRng c n⟩, var_new gShp d n⟩
theorem Laid.cell {w : World} (h : Laid w) (j : Nat) (hj : j < 38) : w.cell? ⟨0, j, none⟩ = some (.string ⟨(tabL.getD j []).toArray⟩) := by
  have hs := h.shp
  simp only [World.var?, gShp, Option.bind_some] at hs
  have hlen : j < tabL.length := by rw [show tabL.length = 38 from by decide]; exact hj
  have hc : shpCells[j]? = some (.string ⟨(tabL.getD j []).toArray⟩) := by
    unfold shpCells
    rw [List.getElem?_toArray, List.getElem?_map, List.getD_eq_getElem?_getD, List.getElem?_eq_getElem hlen]
    rfl
  cases e : w.heap[0]? with
  | none => rw [e] at hs; cases hs
  | some o =>
    rw [e] at hs
    cases o with
    | cells cs t fr =>
      have hs : cs = shpCells := by simpa using hs
      subst hs
      simp only [World.cell?, e]
      exact hc
    | _ => simp at hs
theorem Laid.alloc {w : World} (h : Laid w) (o : Obj) : Laid (w.alloc o) := h.new ((New.refl _).alloc o)


theorem numText_any (n : Int) (hn : In64 n) (w : World) (hl : Laid w) :
    Calls Tryz.prog 94 #[.int .i64 n] w fun e w' => e = .returned (.string (textB n)) ∧ New w w' := by
  have hc := Tryz.strconv_FormatInt_10 n hn.1 hn.2 w hl.tab
  have H := Lib.hid hc
  clear hc hn hl
  go_enter Tryz.func94, Tryz.ntmps94
  go_wp2_with (go_at_call 104; refine (H.out).mono ?_; rintro e w' ⟨rfl, k, os, rfl⟩)
  go_ret
  exact ⟨rfl, new_grow _ _ _⟩

/-- A text that strconv reads: the number, if the number has just this text. -/
theorem numParse_num (s : ByteArray) (hs : s.size ≤ 281474976710656) (v : Int) (h : Lib.parseIntB 64 s.data.toList = .ok v) (t : Bool) (ht : decide (Lib.itoa v = s.data.toList) = t) (w : World) (hl : Laid w) :
    Calls Tryz.prog 77 #[.string s] w fun e w' => e = .returned (.tuple #[.int .i64 (if t then v else 0), .int .i64 (if t then 0 else 2)]) ∧ New w w' := by
  have hv := parseIntB_in h
  have hc := Tryz.strconv_ParseInt_10_at64_ok s (by omega) v h w
  have hb : ((textB v).toList == s.toList) = t := str_beq (by rw [textB_toList]; exact ht)
  have H := Lib.hid hc
  have HV := Lib.hid hv
  have HL := Lib.hid hl
  clear hc hv hl h hs ht
  cases t <;> simp only [if_true, Bool.false_eq_true, if_false]
  all_goals
    go_enter Tryz.func77, Tryz.ntmps77
    go_wp2_with (go_at_call 93; refine (H.out).mono ?_; rintro e w1 ⟨rfl, hw⟩)
    have hn : New w w1 := by
      rcases hw with rfl | ⟨t, rfl⟩
      · exact New.refl _
      · exact Lib.bytesWorld_below _ _ _
    clear hw
    go_wp2_with (go_at_call 94; refine (numText_any v HV.out w1 (HL.out.new hn)).mono ?_; rintro e w2 ⟨rfl, hn2⟩)
    go_ret2
    exact ⟨rfl, hn.trans hn2⟩

/-- A text that is no numeral, or one beyond the size. -/
theorem numParse_bad (s : ByteArray) (hs : s.size ≤ 281474976710656) (h : ∀ v, Lib.parseIntB 64 s.data.toList ≠ .ok v) (w : World) (hl : Laid w) :
    ∃ sat tp, Calls Tryz.prog 93 #[.string s, .int .i64 10, .int .i64 64] w fun e w' => ∃ N, e = .returned (.tuple #[.int .i64 sat, .iface tp (.pointer (some ⟨N, 0, none⟩))]) ∧ New w w' := by
  obtain ⟨tp, p, hv⟩ := hl.syn
  obtain ⟨tq, q, hr⟩ := hl.rng
  cases e : Lib.parseIntB 64 s.data.toList
  · exact absurd e (h _)
  · exact ⟨0, 146, (Any.strconv_ParseInt_10_at64_syntax_var Tryz.laysC174 s hs e tp p w hv).mono fun _ _ ⟨N, h1, _, _, h2⟩ => ⟨N, h1, h2⟩⟩
  · exact ⟨Lib.intSat 64 s.data.toList, 146, (Any.strconv_ParseInt_10_at64_range_var Tryz.laysC174 s hs e tq q w hr).mono fun _ _ ⟨N, h1, _, _, h2⟩ => ⟨N, h1, h2⟩⟩
theorem numParse_no (s : ByteArray) (hs : s.size ≤ 281474976710656) (h : ∀ v, Lib.parseIntB 64 s.data.toList ≠ .ok v) (w : World) (hl : Laid w) :
    Calls Tryz.prog 77 #[.string s] w fun e w' => e = .returned (.tuple #[.int .i64 0, .int .i64 2]) ∧ New w w' := by
  obtain ⟨sat, tp, hc⟩ := numParse_bad s hs h w hl
  have H := Lib.hid hc
  clear hc hl h hs
  go_enter Tryz.func77, Tryz.ntmps77
  go_wp2_with (go_at_call 93; refine (H.out).mono ?_; rintro e w1 ⟨N, rfl, hn⟩)
  go_ret2
  exact ⟨rfl, hn⟩


/-- num.Parse, at every text: the number and 0, or 0 and 2. -/
theorem numParse_any (s : ByteArray) (hs : s.size ≤ 281474976710656) (w : World) (hl : Laid w) :
    Calls Tryz.prog 77 #[.string s] w fun e w' => e = .returned (.tuple #[.int .i64 (parN s.data.toList), .int .i64 (parE s.data.toList)]) ∧ New w w' := by
  by_cases hv : ∃ v, Lib.parseIntB 64 s.data.toList = .ok v
  · obtain ⟨v, h⟩ := hv
    have := numParse_num s hs v h _ rfl w hl
    have e1 : parN s.data.toList = (if decide (Lib.itoa v = s.data.toList) = true then v else 0) := by
      unfold parN parseV; rw [h]; by_cases e : Lib.itoa v = s.data.toList <;> simp [e]
    have e2 : parE s.data.toList = (if decide (Lib.itoa v = s.data.toList) = true then 0 else 2) := by
      unfold parE parseV; rw [h]; by_cases e : Lib.itoa v = s.data.toList <;> simp [e]
    rw [e1, e2]
    exact this
  · have hn : ∀ v, Lib.parseIntB 64 s.data.toList ≠ .ok v := fun v e => hv ⟨v, e⟩
    have e0 : parseV s.data.toList = none := by
      unfold parseV
      split
      · rename_i v e; exact absurd e (hn v)
      · rfl
    have e1 : parN s.data.toList = 0 := by unfold parN; rw [e0]; rfl
    have e2 : parE s.data.toList = 2 := by unfold parE; rw [e0]; rfl
    rw [e1, e2]
    exact numParse_no s hs hn w hl

end Go.Proofs.YtdghhedenjgjiaaGreatDoor
