/-
  The contracts of layer 5's own makers: Of (a table of kinds and numbers) and Words (words of numbers): for all rows.
-/
import Derived.Test.YthdbehalbcoibaaRowAt
import Derived.Test.YthdbehalbcoibaaEnvE
namespace Go.Proofs.Ythdbehalbcoibaa
open Go.RowKit

def ofT (ks ns : List Int) : Tb := fun i => match ks[i]?, ns[i]? with
  | some k, some n => if k = 0 then (0, n) else if k = 1 then (1, n) else (2, 0)
  | _, _ => (0, (i : Int))
def ofK (ks ns : List Int) (k : Nat) : Tb := fun i => if i < k then ofT ks ns i else newT i
theorem ofK_step {ks ns : List Int} {k : Nat} {s : Sr} (h : ofT ks ns k = s) : upd (ofK ks ns k) k s = ofK ks ns (k + 1) := by
  funext i
  unfold upd ofK
  by_cases e : i = k
  · subst e
    rw [if_pos rfl, if_pos (by omega), h]
  · rw [if_neg e]
    by_cases h2 : i < k
    · rw [if_pos h2, if_pos (by omega)]
    · rw [if_neg h2, if_neg (by omega)]
theorem ofK_zero (ks ns : List Int) : ofK ks ns 0 = newT := by funext i; simp [ofK]
theorem ofK_end {ks ns : List Int} {k : Nat} (h : 24 ≤ k ∨ ks.length ≤ k ∨ ns.length ≤ k) : cellsT (ofK ks ns k) = cellsT (ofT ks ns) := cellsT_ext fun i hi => by
  unfold ofK
  by_cases hk : i < k
  · rw [if_pos hk]
  · rw [if_neg hk]
    unfold ofT newT
    rcases h with h | h | h
    · omega
    · rw [List.getElem?_eq_none (l := ks) (by omega)]
    · rw [List.getElem?_eq_none (l := ns) (by omega)]
      cases ks[i]? <;> rfl
theorem map_at {f : Int → Value} {ks : List Int} {i : Nat} {v : Value} (h : (ks.map f)[i]? = some v) : ∃ x, ks[i]? = some x ∧ v = f x := by
  rw [List.getElem?_map] at h
  cases e : ks[i]? with
  | none => rw [e] at h; cases h
  | some x => rw [e] at h; exact ⟨x, rfl, (Option.some.inj h).symm⟩
set_option maxHeartbeats 2000000 in
set_option maxRecDepth 100000 in
theorem of_in (ks ns : List Int) (ao bo : Option Addr) (n m cap dap : Nat) (w : World) (h1 : RowAt w (.slice ao n cap) (ks.map (.int .u8))) (h2 : RowAt w (.slice bo m dap) (ns.map (.int .i64))) :
    Calls Try.prog 7 #[.slice ao n cap, .slice bo m dap] w fun e w' => e = .returned (.agg (cellsT (ofT ks ns))) ∧ New w w' := by
  have HK := Lib.hid h1
  have HM := Lib.hid h2
  have hl1 : n = ks.length := by rw [h1.len, List.length_map]
  have hl2 : m = ns.length := by rw [h2.len, List.length_map]
  have HL1 := Lib.hid hl1
  have HL2 := Lib.hid hl2
  clear h1 h2 hl1 hl2
  go_enter Try.func7, Try.ntmps7
  go_wp2_with (first
    | (go_at_call 15; refine (envNew_any _).mono ?_; rintro e w1 ⟨rfl, hn1⟩; have HT := Lib.hid (HasT.zero w1); have HN := Lib.hid (((alloc_new w _).trans hn1).alloc (oT noT)); have H0 := Lib.hid ((HasT.zero w).new hn1); have HG : w.heap.size < w1.heap.size := heap_lt H0.out; clear hn1)
    | (refine wpList_stT rfl rfl (.tmp 5) (.tmp 7) rfl w1.heap.size rfl newT rfl HT.out ?_))
  have S1 : Hid (HasT (putO (w1.alloc (oT noT)) w1.heap.size (oT newT)) w1.heap.size newT) := Lib.hid ((HasT.box w1 noT).stored _)
  have S2 : Hid (HasT (putO (w1.alloc (oT noT)) w1.heap.size (oT newT)) w.heap.size noT) := Lib.hid (HasT.put (H0.out.new (alloc_new _ _)) (by omega) _)
  have S3 : Hid (New w (putO (w1.alloc (oT noT)) w1.heap.size (oT newT))) := Lib.hid (HN.out.put (by omega) _)
  have eo : oT noT = .cells (cellsT noT) 28 (0, 0) := rfl
  rw [eo, zeroT] at S1 S2 S3
  clear HT HN H0 eo
  generalize putO (w1.alloc _) w1.heap.size (oT newT) = W1 at S1 S2 S3 ⊢
  generalize w1.heap.size = g at *
  go_loopw [6] (fun kv wr => ∃ k : Nat, kv = .int .i64 k ∧ k ≤ 24 ∧ Hid (HasT wr g (ofK ks ns k)) ∧ Hid (HasT wr w.heap.size noT) ∧ Hid (New w wr)) (fun kv wr => 24 - (intOf kv).toNat)
  case atStart => exact ⟨0, rfl, by omega, Lib.hid (by rw [ofK_zero]; exact S1.out), S2, S3⟩
  case round =>
    obtain ⟨k, rfl, hk, R1, R2, R3⟩ := hrel
    clear S1 S2 S3
    by_cases hin : k < 24 ∧ k < n ∧ k < m
    · obtain ⟨hk24, hkn, hkm⟩ := hin
      have i24 : (k : Int) < 24 := by omega
      have in1 : (k : Int) < (n : Int) := by omega
      have im1 : (k : Int) < (m : Int) := by omega
      obtain ⟨a1, v1, e1, x1, c1⟩ := HK.out.ix 22 Try.underlying22 Try.sizeOf5 hkn
      obtain ⟨a2, v2, e2, x2, c2⟩ := HM.out.ix 23 Try.underlying23 Try.sizeOf2 hkm
      obtain ⟨kd, f1, rfl⟩ := map_at e1
      obtain ⟨nm, f2, rfl⟩ := map_at e2
      have d1 := c1 wr R3.out
      have d2 := c2 wr R3.out
      clear e1 e2 c1 c2
      by_cases hk0 : kd = 0
      · have q0 := beq_of hk0
        have HU : Hid (upd (ofK ks ns k) k (0, nm) = ofK ks ns (k + 1)) := Lib.hid (ofK_step (by unfold ofT; rw [f1, f2]; simp [hk0]))
        clear f1 f2 hk0
        go_wp2_with (refine wpList_stS rfl rfl (.tmp 36) (.tmp 35) rfl g k hk24 rfl (0, nm) rfl R1.out ?_)
        go_roundw
        case rel => exact ⟨k + 1, by go_num, hk24, Lib.hid (by rw [← HU.out]; exact R1.out.stored _), Lib.hid (R2.out.put (by omega) _), Lib.hid (R3.out.put (by omega) _)⟩
        case measure => simp [intOf]; omega
      · have q0 := bneq_of hk0
        by_cases hk1 : kd = 1
        · have q1 := beq_of hk1
          have HU : Hid (upd (ofK ks ns k) k (1, nm) = ofK ks ns (k + 1)) := Lib.hid (ofK_step (by unfold ofT; rw [f1, f2]; simp [hk1]))
          clear f1 f2 hk0 hk1
          go_wp2_with (refine wpList_stS rfl rfl (.tmp 49) (.tmp 48) rfl g k hk24 rfl (1, nm) rfl R1.out ?_)
          go_roundw
          case rel => exact ⟨k + 1, by go_num, hk24, Lib.hid (by rw [← HU.out]; exact R1.out.stored _), Lib.hid (R2.out.put (by omega) _), Lib.hid (R3.out.put (by omega) _)⟩
          case measure => simp [intOf]; omega
        · have q1 := bneq_of hk1
          have HU : Hid (upd (ofK ks ns k) k (2, 0) = ofK ks ns (k + 1)) := Lib.hid (ofK_step (by unfold ofT; rw [f1, f2]; simp [hk0, hk1]))
          clear f1 f2 hk0 hk1
          go_wp2_with (refine wpList_stS rfl rfl (.tmp 51) _ rfl g k hk24 rfl (2, 0) rfl R1.out ?_)
          go_roundw
          case rel => exact ⟨k + 1, by go_num, hk24, Lib.hid (by rw [← HU.out]; exact R1.out.stored _), Lib.hid (R2.out.put (by omega) _), Lib.hid (R3.out.put (by omega) _)⟩
          case measure => simp [intOf]; omega
    · have HE : Hid (cellsT (ofK ks ns k) = cellsT (ofT ks ns)) := Lib.hid (ofK_end (by rw [← HL1.out, ← HL2.out]; omega))
      have hcase : ¬ k < 24 ∨ (k < 24 ∧ ¬ k < n) ∨ (k < 24 ∧ k < n ∧ ¬ k < m) := by omega
      clear hin
      rcases hcase with p1 | ⟨p1, p2⟩ | ⟨p1, p2, p3⟩
      · obtain rfl : k = 24 := by omega
        go_wp2_with (first
          | (refine wpList_ldT rfl (.tmp 5) rfl g rfl R1.out ?_)
          | (refine wpList_stT rfl rfl (.tmp 4) (.tmp 52) rfl w.heap.size rfl (ofK ks ns 24) rfl R2.out ?_))
        rw [← HE.out]
        refine bodyPost_ret (resT _ rfl _ _ w.heap.size _ rfl (HasT.stored R2.out _)) rfl ⟨rfl, R3.out.put (by omega) _⟩
      · have i1 : (k : Int) < 24 := by omega
        have i2 : ¬ (k : Int) < (n : Int) := by omega
        go_wp2_with (first
          | (refine wpList_ldT rfl (.tmp 5) rfl g rfl R1.out ?_)
          | (refine wpList_stT rfl rfl (.tmp 4) (.tmp 52) rfl w.heap.size rfl (ofK ks ns k) rfl R2.out ?_))
        rw [← HE.out]
        refine bodyPost_ret (resT _ rfl _ _ w.heap.size _ rfl (HasT.stored R2.out _)) rfl ⟨rfl, R3.out.put (by omega) _⟩
      · have i1 : (k : Int) < 24 := by omega
        have i2 : (k : Int) < (n : Int) := by omega
        have i3 : ¬ (k : Int) < (m : Int) := by omega
        go_wp2_with (first
          | (refine wpList_ldT rfl (.tmp 5) rfl g rfl R1.out ?_)
          | (refine wpList_stT rfl rfl (.tmp 4) (.tmp 52) rfl w.heap.size rfl (ofK ks ns k) rfl R2.out ?_))
        rw [← HE.out]
        refine bodyPost_ret (resT _ rfl _ _ w.heap.size _ rfl (HasT.stored R2.out _)) rfl ⟨rfl, R3.out.put (by omega) _⟩
theorem of_any (ks ns : List Int) (v1 v2 : Value) (w : World) (h1 : RowAt w v1 (ks.map (.int .u8))) (h2 : RowAt w v2 (ns.map (.int .i64))) :
    Calls Try.prog 7 #[v1, v2] w fun e w' => e = .returned (.agg (cellsT (ofT ks ns))) ∧ New w w' := by
  obtain ⟨ao, n, cap, rfl⟩ := h1.form
  obtain ⟨bo, m, dap, rfl⟩ := h2.form
  exact of_in ks ns ao bo n m cap dap w h1 h2
def wordsT (bs : List Bool) (ns : List Int) : Ws := fun i => match bs[i]?, ns[i]? with
  | some true, some n => (true, n)
  | _, _ => (false, 0)
def worK (bs : List Bool) (ns : List Int) (k : Nat) : Ws := fun i => if i < k then wordsT bs ns i else noW i
theorem worK_step {bs : List Bool} {ns : List Int} {k : Nat} {s : Wd} (h : wordsT bs ns k = s) : updW (worK bs ns k) k s = worK bs ns (k + 1) := by
  funext i
  unfold updW worK
  by_cases e : i = k
  · subst e
    rw [if_pos rfl, if_pos (by omega), h]
  · rw [if_neg e]
    by_cases h2 : i < k
    · rw [if_pos h2, if_pos (by omega)]
    · rw [if_neg h2, if_neg (by omega)]
theorem worK_same {bs : List Bool} {ns : List Int} {k : Nat} (h : wordsT bs ns k = (false, 0)) : worK bs ns k = worK bs ns (k + 1) := by
  funext i
  unfold worK
  by_cases e : i = k
  · subst e
    rw [if_neg (by omega), if_pos (by omega), h]; rfl
  · by_cases h2 : i < k
    · rw [if_pos h2, if_pos (by omega)]
    · rw [if_neg h2, if_neg (by omega)]
theorem worK_zero (bs : List Bool) (ns : List Int) : worK bs ns 0 = noW := by funext i; simp [worK]
theorem worK_end {bs : List Bool} {ns : List Int} {k : Nat} (h : 24 ≤ k ∨ bs.length ≤ k ∨ ns.length ≤ k) : cellsW (worK bs ns k) = cellsW (wordsT bs ns) := cellsW_ext fun i hi => by
  unfold worK
  by_cases hk : i < k
  · rw [if_pos hk]
  · rw [if_neg hk]
    unfold wordsT noW
    rcases h with h | h | h
    · omega
    · rw [List.getElem?_eq_none (l := bs) (by omega)]
    · rw [List.getElem?_eq_none (l := ns) (by omega)]
      cases bs[i]? with
      | none => rfl
      | some b => cases b <;> rfl
theorem mapB_at {f : Bool → Value} {ks : List Bool} {i : Nat} {v : Value} (h : (ks.map f)[i]? = some v) : ∃ x, ks[i]? = some x ∧ v = f x := by
  rw [List.getElem?_map] at h
  cases e : ks[i]? with
  | none => rw [e] at h; cases h
  | some x => rw [e] at h; exact ⟨x, rfl, (Option.some.inj h).symm⟩
theorem HasW.zero (w : World) : HasW (w.alloc (.cells #[.bool false, .int .i64 0, .bool false, .int .i64 0, .bool false, .int .i64 0, .bool false, .int .i64 0, .bool false, .int .i64 0, .bool false, .int .i64 0, .bool false, .int .i64 0, .bool false, .int .i64 0, .bool false, .int .i64 0, .bool false, .int .i64 0, .bool false, .int .i64 0, .bool false, .int .i64 0, .bool false, .int .i64 0, .bool false, .int .i64 0, .bool false, .int .i64 0, .bool false, .int .i64 0, .bool false, .int .i64 0, .bool false, .int .i64 0, .bool false, .int .i64 0, .bool false, .int .i64 0, .bool false, .int .i64 0, .bool false, .int .i64 0, .bool false, .int .i64 0, .bool false, .int .i64 0] 32)) w.heap.size noW := by rw [← zeroW]; exact HasW.box w noW
set_option maxHeartbeats 2000000 in
set_option maxRecDepth 100000 in
theorem words_in (bs : List Bool) (ns : List Int) (ao bo : Option Addr) (n m cap dap : Nat) (w : World) (h1 : RowAt w (.slice ao n cap) (bs.map .bool)) (h2 : RowAt w (.slice bo m dap) (ns.map (.int .i64))) :
    Calls Try.prog 8 #[.slice ao n cap, .slice bo m dap] w fun e w' => e = .returned (.agg (cellsW (wordsT bs ns))) ∧ New w w' := by
  have HK := Lib.hid h1
  have HM := Lib.hid h2
  have hl1 : n = bs.length := by rw [h1.len, List.length_map]
  have hl2 : m = ns.length := by rw [h2.len, List.length_map]
  have HL1 := Lib.hid hl1
  have HL2 := Lib.hid hl2
  clear h1 h2 hl1 hl2
  have S2 := Lib.hid ((HasW.zero w).new (alloc_new _ (.cells #[.bool false, .int .i64 0, .bool false, .int .i64 0, .bool false, .int .i64 0, .bool false, .int .i64 0, .bool false, .int .i64 0, .bool false, .int .i64 0, .bool false, .int .i64 0, .bool false, .int .i64 0, .bool false, .int .i64 0, .bool false, .int .i64 0, .bool false, .int .i64 0, .bool false, .int .i64 0, .bool false, .int .i64 0, .bool false, .int .i64 0, .bool false, .int .i64 0, .bool false, .int .i64 0, .bool false, .int .i64 0, .bool false, .int .i64 0, .bool false, .int .i64 0, .bool false, .int .i64 0, .bool false, .int .i64 0, .bool false, .int .i64 0, .bool false, .int .i64 0, .bool false, .int .i64 0] 32)))
  have S1 : Hid (HasW _ (w.heap.size + 1) noW) := Lib.hid (by have := HasW.zero (w.alloc (.cells #[.bool false, .int .i64 0, .bool false, .int .i64 0, .bool false, .int .i64 0, .bool false, .int .i64 0, .bool false, .int .i64 0, .bool false, .int .i64 0, .bool false, .int .i64 0, .bool false, .int .i64 0, .bool false, .int .i64 0, .bool false, .int .i64 0, .bool false, .int .i64 0, .bool false, .int .i64 0, .bool false, .int .i64 0, .bool false, .int .i64 0, .bool false, .int .i64 0, .bool false, .int .i64 0, .bool false, .int .i64 0, .bool false, .int .i64 0, .bool false, .int .i64 0, .bool false, .int .i64 0, .bool false, .int .i64 0, .bool false, .int .i64 0, .bool false, .int .i64 0, .bool false, .int .i64 0] 32)); rw [alloc_size] at this; exact this)
  have S3 := Lib.hid ((alloc_new w (.cells #[.bool false, .int .i64 0, .bool false, .int .i64 0, .bool false, .int .i64 0, .bool false, .int .i64 0, .bool false, .int .i64 0, .bool false, .int .i64 0, .bool false, .int .i64 0, .bool false, .int .i64 0, .bool false, .int .i64 0, .bool false, .int .i64 0, .bool false, .int .i64 0, .bool false, .int .i64 0, .bool false, .int .i64 0, .bool false, .int .i64 0, .bool false, .int .i64 0, .bool false, .int .i64 0, .bool false, .int .i64 0, .bool false, .int .i64 0, .bool false, .int .i64 0, .bool false, .int .i64 0, .bool false, .int .i64 0, .bool false, .int .i64 0, .bool false, .int .i64 0, .bool false, .int .i64 0] 32)).alloc (.cells #[.bool false, .int .i64 0, .bool false, .int .i64 0, .bool false, .int .i64 0, .bool false, .int .i64 0, .bool false, .int .i64 0, .bool false, .int .i64 0, .bool false, .int .i64 0, .bool false, .int .i64 0, .bool false, .int .i64 0, .bool false, .int .i64 0, .bool false, .int .i64 0, .bool false, .int .i64 0, .bool false, .int .i64 0, .bool false, .int .i64 0, .bool false, .int .i64 0, .bool false, .int .i64 0, .bool false, .int .i64 0, .bool false, .int .i64 0, .bool false, .int .i64 0, .bool false, .int .i64 0, .bool false, .int .i64 0, .bool false, .int .i64 0, .bool false, .int .i64 0, .bool false, .int .i64 0] 32))
  go_enter Try.func8, Try.ntmps8
  go_wp2
  generalize World.alloc (w.alloc _) _ = W1 at S1 S2 S3 ⊢
  go_loopw [6] (fun kv wr => ∃ k : Nat, kv = .int .i64 k ∧ k ≤ 24 ∧ Hid (HasW wr (w.heap.size + 1) (worK bs ns k)) ∧ Hid (HasW wr w.heap.size noW) ∧ Hid (New w wr)) (fun kv wr => 24 - (intOf kv).toNat)
  case atStart => exact ⟨0, rfl, by omega, Lib.hid (by rw [worK_zero]; exact S1.out), S2, S3⟩
  case round =>
    obtain ⟨k, rfl, hk, R1, R2, R3⟩ := hrel
    clear S1 S2 S3
    by_cases hin : k < 24 ∧ k < n ∧ k < m
    · obtain ⟨hk24, hkn, hkm⟩ := hin
      have i24 : (k : Int) < 24 := by omega
      have in1 : (k : Int) < (n : Int) := by omega
      have im1 : (k : Int) < (m : Int) := by omega
      obtain ⟨a1, v1, e1, x1, c1⟩ := HK.out.ix 24 Try.underlying24 Try.sizeOf4 hkn
      obtain ⟨a2, v2, e2, x2, c2⟩ := HM.out.ix 23 Try.underlying23 Try.sizeOf2 hkm
      obtain ⟨kd, f1, rfl⟩ := mapB_at e1
      obtain ⟨nm, f2, rfl⟩ := map_at e2
      have d1 := c1 wr R3.out
      have d2 := c2 wr R3.out
      clear e1 e2 c1 c2
      cases kd with
      | true =>
        have HU : Hid (updW (worK bs ns k) k (true, nm) = worK bs ns (k + 1)) := Lib.hid (worK_step (by unfold wordsT; rw [f1, f2]))
        clear f1 f2
        go_wp2_with (refine wpList_stD rfl rfl (.tmp 33) (.tmp 32) rfl (w.heap.size + 1) k hk24 rfl (true, nm) rfl R1.out ?_)
        go_roundw
        case rel => exact ⟨k + 1, by go_num, hk24, Lib.hid (by rw [← HU.out]; exact R1.out.stored _), Lib.hid (R2.out.put (by omega) _), Lib.hid (R3.out.put (by omega) _)⟩
        case measure => simp [intOf]; omega
      | false =>
        have HU : Hid (worK bs ns k = worK bs ns (k + 1)) := Lib.hid (worK_same (by unfold wordsT; rw [f1]))
        clear f1 f2
        go_wp2
        go_roundw
        case rel => exact ⟨k + 1, by go_num, hk24, Lib.hid (by rw [← HU.out]; exact R1.out), R2, R3⟩
        case measure => simp [intOf]; omega
    · have HE : Hid (cellsW (worK bs ns k) = cellsW (wordsT bs ns)) := Lib.hid (worK_end (by rw [← HL1.out, ← HL2.out]; omega))
      have hcase : ¬ k < 24 ∨ (k < 24 ∧ ¬ k < n) ∨ (k < 24 ∧ k < n ∧ ¬ k < m) := by omega
      clear hin
      rcases hcase with p1 | ⟨p1, p2⟩ | ⟨p1, p2, p3⟩
      · obtain rfl : k = 24 := by omega
        go_wp2_with (first
          | (refine wpList_ldW rfl (.tmp 5) rfl (w.heap.size + 1) rfl R1.out ?_)
          | (refine wpList_stW rfl rfl (.tmp 4) (.tmp 34) rfl w.heap.size rfl (worK bs ns 24) rfl R2.out ?_))
        rw [← HE.out]
        refine bodyPost_ret (resW _ rfl _ _ w.heap.size _ rfl (HasW.stored R2.out _)) rfl ⟨rfl, R3.out.put (by omega) _⟩
      · have i1 : (k : Int) < 24 := by omega
        have i2 : ¬ (k : Int) < (n : Int) := by omega
        go_wp2_with (first
          | (refine wpList_ldW rfl (.tmp 5) rfl (w.heap.size + 1) rfl R1.out ?_)
          | (refine wpList_stW rfl rfl (.tmp 4) (.tmp 34) rfl w.heap.size rfl (worK bs ns k) rfl R2.out ?_))
        rw [← HE.out]
        refine bodyPost_ret (resW _ rfl _ _ w.heap.size _ rfl (HasW.stored R2.out _)) rfl ⟨rfl, R3.out.put (by omega) _⟩
      · have i1 : (k : Int) < 24 := by omega
        have i2 : (k : Int) < (n : Int) := by omega
        have i3 : ¬ (k : Int) < (m : Int) := by omega
        go_wp2_with (first
          | (refine wpList_ldW rfl (.tmp 5) rfl (w.heap.size + 1) rfl R1.out ?_)
          | (refine wpList_stW rfl rfl (.tmp 4) (.tmp 34) rfl w.heap.size rfl (worK bs ns k) rfl R2.out ?_))
        rw [← HE.out]
        refine bodyPost_ret (resW _ rfl _ _ w.heap.size _ rfl (HasW.stored R2.out _)) rfl ⟨rfl, R3.out.put (by omega) _⟩
theorem words_any (bs : List Bool) (ns : List Int) (v1 v2 : Value) (w : World) (h1 : RowAt w v1 (bs.map .bool)) (h2 : RowAt w v2 (ns.map (.int .i64))) :
    Calls Try.prog 8 #[v1, v2] w fun e w' => e = .returned (.agg (cellsW (wordsT bs ns))) ∧ New w w' := by
  obtain ⟨ao, n, cap, rfl⟩ := h1.form
  obtain ⟨bo, m, dap, rfl⟩ := h2.form
  exact words_in bs ns ao bo n m cap dap w h1 h2
end Go.Proofs.Ythdbehalbcoibaa
