/-
  The contracts of num.Text and num.Parse, over strconv's, and of the law's own examples ('knows'): under what the package's start-up lays ('Laid').
-/
import Derived.Test.YthcjhcofcjmmbaaDoorNumDo
import Derived.Test.YthcjhcofcjmmbaaDoorShelf
namespace Go.Proofs.YthcjhcofcjmmbaaDoor
open Go.RowKit

/-- What strconv's variables hold. -/
structure Laid (w : World) : Prop where
  tab : Lib.TabIs Tryd.prog w "internal/strconv.uint64pow10" .u64 Lib.pow10Tab
  syn : ∃ tp p, w.var? Tryd.prog "strconv.ErrSyntax" = some #[.iface tp p]
  rng : ∃ tp p, w.var? Tryd.prog "strconv.ErrRange" = some #[.iface tp p]

theorem gTab : Tryd.prog.globalNamed "internal/strconv.uint64pow10" = some 2 := by kernel_rfl
theorem gSyn : Tryd.prog.globalNamed "strconv.ErrSyntax" = some 0 := by kernel_rfl
theorem gRng : Tryd.prog.globalNamed "strconv.ErrRange" = some 1 := by kernel_rfl

theorem var_new {n : String} {g : Nat} {cs : Array Value} {w w' : World} (hg : Tryd.prog.globalNamed n = some g) (h : w.var? Tryd.prog n = some cs) (hn : New w w') : w'.var? Tryd.prog n = some cs := by
  simp only [World.var?, hg, Option.bind_some] at h ⊢
  by_cases hlt : g < w.heap.size
  · rw [hn.block g hlt]; exact h
  · rw [Array.getElem?_eq_none (by omega)] at h; cases h
theorem new_grow (w : World) (k : Nat) (os : Array Obj) : New w (Sort.grow (w.drewN k) os) := by
  refine ⟨rfl, rfl, rfl, ?_, fun j hj => ?_⟩
  · show w.heap.size ≤ (w.heap ++ os).size
    rw [Array.size_append]; omega
  · show (w.heap ++ os)[j]? = _
    rw [Array.getElem?_append_left hj]

theorem Laid.new {w w' : World} (h : Laid w) (n : New w w') : Laid w' := by
  obtain ⟨a, ⟨t1, p1, b⟩, ⟨t2, p2, c⟩⟩ := h
  exact ⟨var_new gTab a n, ⟨t1, p1, var_new gSyn b n⟩, ⟨t2, p2, var_new gRng c n⟩⟩
theorem Laid.alloc {w : World} (h : Laid w) (o : Obj) : Laid (w.alloc o) := h.new ((New.refl _).alloc o)

def textB (n : Int) : ByteArray := ⟨(Lib.itoa n).toArray⟩
theorem textB_toList (n : Int) : (textB n).data.toList = Lib.itoa n := by simp [textB]

theorem text_any (n : Int) (hn : In64 n) (w : World) (hl : Laid w) :
    Calls Tryd.prog 17 #[.int .i64 n] w fun e w' => e = .returned (.string (textB n)) ∧ New w w' := by
  have hc := Tryd.strconv_FormatInt_10 n hn.1 hn.2 w hl.tab
  have H := Lib.hid hc
  clear hc hn hl
  go_enter Tryd.func17, Tryd.ntmps17
  go_wp2_with (go_at_call 21; refine (H.out).mono ?_; rintro e w' ⟨rfl, k, os, rfl⟩)
  go_ret
  exact ⟨rfl, new_grow _ _ _⟩

/-- What a text is read as. -/
def parseV (l : List UInt8) : Option Int :=
  match Lib.parseIntB 64 l with
  | .ok v => if Lib.itoa v = l then some v else none
  | _ => none

theorem parseIntB_in {l : List UInt8} {v : Int} (h : Lib.parseIntB 64 l = .ok v) : In64 v := by
  unfold Lib.parseIntB at h
  split at h
  · cases h
  · simp only at h
    split at h
    · cases h
    · cases h
    · rename_i c r u hu
      split at h
      · cases h
      · split at h
        · cases h
        · rename_i h1 h2
          have h := Lib.NumEnd.ok.inj h
          subst h
          unfold In64
          split <;> omega

theorem str_beq {a b : ByteArray} {t : Bool} (h : decide (a.data.toList = b.data.toList) = t) : (a.toList == b.toList) = t := by
  rw [ByteArray.toList_eq, ByteArray.toList_eq, ← h]
  rw [Bool.eq_iff_iff, beq_iff_eq, decide_eq_true_iff]

/-- A text that strconv reads: the number, if the number has just this text. -/
theorem parse_num (s : ByteArray) (hs : s.size ≤ 281474976710656) (v : Int) (h : Lib.parseIntB 64 s.data.toList = .ok v) (t : Bool) (ht : decide (Lib.itoa v = s.data.toList) = t) (w : World) (hl : Laid w) :
    Calls Tryd.prog 15 #[.string s] w fun e w' => e = .returned (.tuple #[.int .i64 (if t then v else 0), .int .i64 (if t then 0 else 2)]) ∧ New w w' := by
  have hv := parseIntB_in h
  have hc := Tryd.strconv_ParseInt_10_at64_ok s (by omega) v h w
  have hb : ((textB v).toList == s.toList) = t := str_beq (by rw [textB_toList]; exact ht)
  have H := Lib.hid hc
  have HV := Lib.hid hv
  have HL := Lib.hid hl
  clear hc hv hl h hs ht
  cases t <;> simp only [if_true, Bool.false_eq_true, if_false]
  all_goals
    go_enter Tryd.func15, Tryd.ntmps15
    go_wp2_with (go_at_call 20; refine (H.out).mono ?_; rintro e w1 ⟨rfl, hw⟩)
    have hn : New w w1 := by
      rcases hw with rfl | ⟨t, rfl⟩
      · exact New.refl _
      · exact Lib.bytesWorld_below _ _ _
    clear hw
    go_wp2_with (go_at_call 17; refine (text_any v HV.out w1 (HL.out.new hn)).mono ?_; rintro e w2 ⟨rfl, hn2⟩)
    go_ret2
    exact ⟨rfl, hn.trans hn2⟩

/-- A text that is no numeral, or one beyond the size. -/
theorem parse_bad (s : ByteArray) (hs : s.size ≤ 281474976710656) (h : ∀ v, Lib.parseIntB 64 s.data.toList ≠ .ok v) (w : World) (hl : Laid w) :
    ∃ sat tp, Calls Tryd.prog 20 #[.string s, .int .i64 10, .int .i64 64] w fun e w' => ∃ N, e = .returned (.tuple #[.int .i64 sat, .iface tp (.pointer (some ⟨N, 0, none⟩))]) ∧ New w w' := by
  obtain ⟨tp, p, hv⟩ := hl.syn
  obtain ⟨tq, q, hr⟩ := hl.rng
  cases e : Lib.parseIntB 64 s.data.toList
  · exact absurd e (h _)
  · exact ⟨0, 54, (Any.strconv_ParseInt_10_at64_syntax_var Tryd.laysC174 s hs e tp p w hv).mono fun _ _ ⟨N, h1, _, _, h2⟩ => ⟨N, h1, h2⟩⟩
  · exact ⟨Lib.intSat 64 s.data.toList, 54, (Any.strconv_ParseInt_10_at64_range_var Tryd.laysC174 s hs e tq q w hr).mono fun _ _ ⟨N, h1, _, _, h2⟩ => ⟨N, h1, h2⟩⟩
theorem parse_no (s : ByteArray) (hs : s.size ≤ 281474976710656) (h : ∀ v, Lib.parseIntB 64 s.data.toList ≠ .ok v) (w : World) (hl : Laid w) :
    Calls Tryd.prog 15 #[.string s] w fun e w' => e = .returned (.tuple #[.int .i64 0, .int .i64 2]) ∧ New w w' := by
  obtain ⟨sat, tp, hc⟩ := parse_bad s hs h w hl
  have H := Lib.hid hc
  clear hc hl h hs
  go_enter Tryd.func15, Tryd.ntmps15
  go_wp2_with (go_at_call 20; refine (H.out).mono ?_; rintro e w1 ⟨N, rfl, hn⟩)
  go_ret2
  exact ⟨rfl, hn⟩

def parN (l : List UInt8) : Int := (parseV l).getD 0
def parE (l : List UInt8) : Int := if (parseV l).isSome then 0 else 2

/-- num.Parse, at every text: the number and 0, or 0 and 2. -/
theorem parse_any (s : ByteArray) (hs : s.size ≤ 281474976710656) (w : World) (hl : Laid w) :
    Calls Tryd.prog 15 #[.string s] w fun e w' => e = .returned (.tuple #[.int .i64 (parN s.data.toList), .int .i64 (parE s.data.toList)]) ∧ New w w' := by
  by_cases hv : ∃ v, Lib.parseIntB 64 s.data.toList = .ok v
  · obtain ⟨v, h⟩ := hv
    have := parse_num s hs v h _ rfl w hl
    have e1 : parN s.data.toList = (if decide (Lib.itoa v = s.data.toList) = true then v else 0) := by
      unfold parN parseV; rw [h]; by_cases e : Lib.itoa v = s.data.toList <;> simp [e]
    have e2 : parE s.data.toList = (if decide (Lib.itoa v = s.data.toList) = true then 0 else 2) := by
      unfold parE parseV; rw [h]; by_cases e : Lib.itoa v = s.data.toList <;> simp [e]
    rw [e1, e2]
    exact this
  · have hn : ∀ v, Lib.parseIntB 64 s.data.toList ≠ .ok v := fun v e => hv ⟨v, e⟩
    have e0 : parseV s.data.toList = none := by
      unfold parseV
      split
      · rename_i v e; exact absurd e (hn v)
      · rfl
    have e1 : parN s.data.toList = 0 := by unfold parN; rw [e0]; rfl
    have e2 : parE s.data.toList = 2 := by unfold parE; rw [e0]; rfl
    rw [e1, e2]
    exact parse_no s hs hn w hl

theorem parse_least (w : World) (hl : Laid w) :
    Calls Tryd.prog 15 #[.string ⟨#[45, 57, 50, 50, 51, 51, 55, 50, 48, 51, 54, 56, 53, 52, 55, 55, 53, 56, 48, 56]⟩] w fun e w' => e = .returned (.tuple #[.int .i64 (-9223372036854775808), .int .i64 0]) ∧ New w w' := by
  have h := parse_any ⟨#[45, 57, 50, 50, 51, 51, 55, 50, 48, 51, 54, 56, 53, 52, 55, 55, 53, 56, 48, 56]⟩ (by decide) w hl
  have p1 : parN [45, 57, 50, 50, 51, 51, 55, 50, 48, 51, 54, 56, 53, 52, 55, 55, 53, 56, 48, 56] = -9223372036854775808 := by decide +kernel
  have p2 : parE [45, 57, 50, 50, 51, 51, 55, 50, 48, 51, 54, 56, 53, 52, 55, 55, 53, 56, 48, 56] = 0 := by decide +kernel
  rw [show (⟨#[45, 57, 50, 50, 51, 51, 55, 50, 48, 51, 54, 56, 53, 52, 55, 55, 53, 56, 48, 56]⟩ : ByteArray).data.toList = [45, 57, 50, 50, 51, 51, 55, 50, 48, 51, 54, 56, 53, 52, 55, 55, 53, 56, 48, 56] from rfl, p1, p2] at h
  exact h

theorem knows_any (w : World) (hl : Laid w) : Calls Tryd.prog 14 #[] w fun e w' => e = .returned (.bool true) ∧ New w w' := by
  have d1 : doV 7 (-7) 2 = -3 := by decide +kernel
  have d2 : doH 7 2 = 0 := by decide
  have d3 : doV 4 9223372036854775807 1 = -9223372036854775808 := by decide +kernel
  have d4 : doH 4 1 = 0 := by decide
  have d6 : doH 7 0 = 3 := by decide
  have t1 : ((textB (-70)).toList == [45, 55, 48]) = true := by rw [ByteArray.toList_eq, textB_toList]; decide +kernel
  have h1 : hasB 10 = true := by decide
  have HL := Lib.hid hl
  clear hl
  go_enter Tryd.func14, Tryd.ntmps14
  go_wp2_with (go_at_call 10; refine (do_any _ _ _ _).mono ?_; rintro e w1 ⟨rfl, rfl⟩)
  refine (parse_least _ (((HL.out.alloc _).alloc _).alloc _)).mono ?_
  rintro e w1 ⟨rfl, hn1⟩
  go_wp2_with (go_at_call 17; refine (text_any (-70) (by unfold In64; omega) _ ((((HL.out.alloc _).alloc _).alloc _).new hn1)).mono ?_; rintro e w2 ⟨rfl, hn2⟩)
  go_wp2_with (go_at_call 12; refine (has_any _ _).mono ?_; rintro e w3 ⟨rfl, rfl⟩)
  go_ret
  exact ⟨rfl, (((((New.refl _).alloc _).alloc _).alloc _).trans (hn1.trans hn2)).alloc _⟩
end Go.Proofs.YthcjhcofcjmmbaaDoor
