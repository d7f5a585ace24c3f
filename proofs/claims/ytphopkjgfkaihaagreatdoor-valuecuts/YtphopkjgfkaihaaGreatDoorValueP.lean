/-
  Layer 11: the contract of the reference's Cut: pass after pass, till none cuts.
-/
import Derived.Test.YtphopkjgfkaihaaGreatDoorValueO
import Derived.Test.YtphopkjgfkaihaaGreatDoorValuePub
import Derived.Test.YtphopkjgfkaihaaGreatDoorRefUses
namespace Go.Proofs.YtphopkjgfkaihaaGreatDoor
open Go.RowKit

section
variable {w0 w w' : World} {l : List Asn} {e : TypeId} {α : Type}
/-- What a call returned as its own row. -/
theorem Sep.owns {mk : α → Value} {us : List α} {base : Nat} {v : Value} (h : Sep w0 w l) (n : New w w') (ho : w'.ownsRow base e 1 v us.length (us.map mk)) (hb : w.heap.size ≤ base) : Sep w0 w' (rowA e 1 (leafE fun a => [mk a]) v us :: l) := by
  refine h.add (F := fun g => v.ownBlock = some g) n (leaf_mk (fun _ => rfl) ?_ fun b h => h) fun g hg => ?_
  · rw [flat_ones]
    obtain ⟨h1, h2⟩ := ho
    exact ⟨h1, h2.imp id fun ⟨g, cap, cur, a, b, c⟩ => ⟨g, cap, cur, a, Nat.zero_le _, c⟩⟩
  · obtain ⟨_, ⟨h2, _⟩ | ⟨g', cap, cur, h2, h3, h4, _⟩⟩ := ho
    · rw [h2] at hg
      cases hg
    · rw [h2] at hg
      have e2 : g' = g := Option.some.inj hg
      subst e2
      exact ⟨Nat.le_trans hb h3, heap_lt h4⟩
end
abbrev usesO (v : Value) (us : List Int) : Asn := rowA 3 1 (leafE fun a => [.int .i64 a]) v us
def lackI (us : List Int) (g : Nat → Sc) (i : Nat) : Prop := ∃ u ∈ us.take i, (g u.toNat).1 = 0
/-- What a node's uses have done to the cuts. -/
def UsesR (us : List Int) (g : Nat → Sc) (c : List Bool) (p : Nat) (mr : Bool) (i : Nat) (cx : List Bool) (mx : Bool) : Prop :=
  (c[p]? = some false ∧ lackI us g i ∧ cx = c.set p true ∧ mx = true) ∨ (¬ (c[p]? = some false ∧ lackI us g i) ∧ cx = c ∧ mx = mr)
theorem usesR_0 (us : List Int) (g : Nat → Sc) (c : List Bool) (p : Nat) (mr : Bool) : UsesR us g c p mr 0 c mr := .inr ⟨fun h => by obtain ⟨_, u, hu, _⟩ := h; simp at hu, rfl, rfl⟩
theorem lackI_next {us : List Int} {g : Nat → Sc} {i : Nat} {u : Int} (hu : us[i]? = some u) : lackI us g (i + 1) ↔ lackI us g i ∨ (g u.toNat).1 = 0 := by
  unfold lackI
  rw [List.take_add_one, hu]
  constructor
  · rintro ⟨v, hv, h⟩
    rcases List.mem_append.mp hv with e | e
    · exact .inl ⟨v, e, h⟩
    · simp at e
      exact .inr (e ▸ h)
  · rintro (⟨v, hv, h⟩ | h)
    · exact ⟨v, List.mem_append.mpr (.inl hv), h⟩
    · exact ⟨u, List.mem_append.mpr (.inr (by simp)), h⟩
theorem usesR_keep {us : List Int} {g : Nat → Sc} {c : List Bool} {p : Nat} {mr : Bool} {i : Nat} {cx : List Bool} {mx : Bool} (h : UsesR us g c p mr i cx mx) {u : Int} (hu : us[i]? = some u) (h0 : (g u.toNat).1 ≠ 0) : UsesR us g c p mr (i + 1) cx mx := by
  have e : lackI us g (i + 1) ↔ lackI us g i := (lackI_next hu).trans (or_iff_left h0)
  unfold UsesR at h ⊢
  rw [e]
  exact h
theorem usesR_had {us : List Int} {g : Nat → Sc} {c : List Bool} {p : Nat} {mr : Bool} {i : Nat} {cx : List Bool} {mx : Bool} (h : UsesR us g c p mr i cx mx) {u : Int} (hu : us[i]? = some u) (hc : cx[p]? = some true) : UsesR us g c p mr (i + 1) cx mx := by
  unfold UsesR at h ⊢
  rcases h with ⟨h1, h2, h3, h4⟩ | ⟨_, h3, h4⟩
  · exact .inl ⟨h1, (lackI_next hu).mpr (.inl h2), h3, h4⟩
  · refine .inr ⟨fun h => ?_, h3, h4⟩
    rw [← h3, hc] at h
    exact absurd (Option.some.inj h.1) (by decide)
theorem usesR_cut {us : List Int} {g : Nat → Sc} {c : List Bool} {p : Nat} {mr : Bool} {i : Nat} {cx : List Bool} {mx : Bool} (h : UsesR us g c p mr i cx mx) {u : Int} (hu : us[i]? = some u) (hc : cx[p]? = some false) (h0 : (g u.toNat).1 = 0) : UsesR us g c p mr (i + 1) (cx.set p true) true := by
  unfold UsesR at h ⊢
  have e := (lackI_next (g := g) hu).mpr (.inr h0)
  rcases h with ⟨h1, _, h3, _⟩ | ⟨_, h3, _⟩
  · rw [h3, List.getElem?_set_self (by have := List.getElem?_eq_some_iff.mp h1; exact this.1)] at hc
    exact absurd (Option.some.inj hc) (by decide)
  · exact .inl ⟨by rw [← h3]; exact hc, e, by rw [h3], rfl⟩
theorem usesR_len {us : List Int} {g : Nat → Sc} {c : List Bool} {p : Nat} {mr : Bool} {i : Nat} {cx : List Bool} {mx : Bool} (h : UsesR us g c p mr i cx mx) : cx.length = c.length := by
  rcases h with ⟨_, _, h, _⟩ | ⟨_, h, _⟩
  · rw [h, List.length_set]
  · rw [h]
theorem usesR_done {f : List I} {cut c cx : List Bool} {x : I} {g : Nat → Sc} {m p : Nat} {mr mx : Bool} (h : UsesR (usesL x) g c p mr (usesL x).length cx mx) (hR : IsRnd f cut m c) (hP : PassC cut mr c) (hm : m < (nodesA f cut).length) (hp : (nodesA f cut).getD m 0 = (p : Int)) (hx : insA f (p : Int) = x) (hpf : p < f.length)
    (hy : lackB x g = true → ∃ u ∈ usesL x, HasFact f (sklA f cut) (0, 0) m u.toNat) (hn : lackB x g = false → ∀ u ∈ usesL x, ¬ HasFact f (sklA f cut) (0, 0) m u.toNat) : IsRnd f cut (m + 1) cx ∧ PassC cut mx cx := by
  have hL : lackI (usesL x) g (usesL x).length ↔ lackB x g = true := by
    unfold lackI lackB
    rw [List.take_length, List.any_eq_true]
    exact ⟨fun ⟨u, a, b⟩ => ⟨u, a, decide_eq_true b⟩, fun ⟨u, a, b⟩ => ⟨u, a, of_decide_eq_true b⟩⟩
  rcases h with ⟨h1, h2, rfl, rfl⟩ | ⟨h1, rfl, rfl⟩
  · obtain ⟨u, a, b⟩ := hy (hL.mp h2)
    refine ⟨rnd_cut hR hm hp (by rw [hx]; exact a) b, ?_⟩
    have h3 := offs_set h1
    show offs (c.set p true) < offs cut
    unfold PassC at hP
    cases mr with
    | true => rw [if_pos rfl] at hP; omega
    | false => rw [if_neg (by decide)] at hP; rw [← hP]; exact h3
  · refine ⟨rnd_not hR hp ?_, hP⟩
    cases hl : lackB x g with
    | false => exact .inr (by rw [hx]; exact hn hl)
    | true =>
      left
      have hlt : p < cx.length := by rw [hR.1]; exact hpf
      rw [List.getD_eq_getElem?_getD, List.getElem?_eq_getElem hlt]
      cases hb : cx[p] with
      | true => rfl
      | false => exact absurd ⟨by rw [List.getElem?_eq_getElem hlt, hb], hL.mpr hl⟩ h1
set_option maxHeartbeats 16000000 in
set_option maxRecDepth 100000 in
theorem rcut_any (fo : Option Addr) (n fc : Nat) (f : List I) (w : World) (hf : FunAt w (.slice fo n fc) f) (hr : (chkF f).2 = 0) :
    Calls Tryz.prog 23 #[.slice fo n fc] w fun e w' => ∃ b c, IsCut f c ∧ e = .returned (.slice (some ⟨b, 0, none⟩) n n) ∧ Sep w w' [boolsO (.slice (some ⟨b, 0, none⟩) n n) c] := by
  have HF := Lib.hid hf
  have HC := Lib.hid hr
  have hn := hf.len
  have HLN : Hid (f.length = n) := Lib.hid hn.symm
  have hn2 : n ≤ 200 := by rw [hn]; exact chk_len hr
  have HS := Lib.hid (Sep.start w)
  clear hf hr hn
  have T1 : Hid True := Lib.hid trivial
  go_enter Tryz.func23, Tryz.ntmps23
  go_wp2_with (clear T1; at_make; refine wpList_mk1 rfl (.tmp 12) (.tmp 12) 23 4 rfl Tryz.underlying23 infoBo3 rfl (by decide) n rfl rfl (by omega) HS.out (E := leafE fun b => [.bool b]) (x0 := false) bools_0 ?_; intro wb vb hs; replace HS := Lib.hid hs; clear hs)
  go_loopg [4] (offs (List.replicate n false) + 1) (fun gm cv wr => ∃ (k : Nat) (c : List Bool) (mr : Bool), cv = .bool mr ∧ gm = (if mr = true then offs c + 1 else 0) ∧ Hid (CutN f k c) ∧ Hid (mr = false → IsRnd f c (nodesA f c).length c) ∧ Hid (Sep w wr [boolsO (.slice (some ⟨vb, 0, none⟩) n n) c]))
  case atStart => exact ⟨0, _, true, rfl, rfl, Lib.hid (by show List.replicate n false = List.replicate f.length false; rw [HLN.out]), Lib.hid (fun h => by cases h), HS⟩
  case round =>
    obtain ⟨k, c, mr, rfl, hgm, HK, HST, HT⟩ := hrel
    clear HS
    cases mr with
    | false =>
      have HIC : Hid (IsCut f c) := Lib.hid ⟨k, HK.out, HST.out rfl⟩
      clear hgm HST
      go_wp2_with fail
      go_ret
      exact ⟨vb, c, HIC.out, rfl, HT.out⟩
    | true =>
      have hgm2 := hgm.trans (if_pos rfl)
      clear HST hgm
      obtain ⟨F, hF⟩ := fact_tab f (sklA f c)
      have HUY := Lib.hid fun (x : I) (m : Nat) (hm : m < (sklA f c).nodes.length) hu (h : lackB x (F m) = true) => lack_yes hF hm hu h
      have HUN := Lib.hid fun (x : I) (m : Nat) (hm : m < (sklA f c).nodes.length) hu (h : lackB x (F m) = false) => lack_no HC.out hF hm hu h
      have HB0 := good_skl f c
      have HI0 := inS_skl HC.out c
      have HN0 := skl_few HC.out c
      have HNL := skl_len f c
      obtain ⟨s, HSK⟩ : ∃ s, Hid (sklA f c = s) := ⟨_, Lib.hid rfl⟩
      have HFS := Lib.hid hF
      rw [HSK.out] at hF HB0 HI0 HN0 HNL
      have HFT := Lib.hid hF
      have HB := Lib.hid HB0
      have HIS := Lib.hid HI0
      obtain ⟨N, HNN⟩ : ∃ N, Hid (s.nodes.length = N) := ⟨_, Lib.hid rfl⟩
      rw [HNN.out] at HN0 HNL
      have hN2 : N ≤ 200 := HN0
      have HNA := Lib.hid HNL
      have HCL := Lib.hid (cutN_len HK.out)
      have HOO : Hid (∀ c' n l, isF c' → n < N → l < 24 → (HasFact f s c' n l ↔ F n l = c')) := Lib.hid fun c' n l hc hn hl => by
        have h := is_iff (cut := c) (k := F n l) (n := n) (l := l) HC.out (by rw [HSK.out]; exact HFT.out n l (by rw [HNN.out]; exact hn) hl) hc
        rw [HSK.out] at h
        exact h
      have HVV : Hid (∀ n l, n < N → l < 24 → F n l = (4, (l : Int)) ∨ F n l = (0, 0) ∨ (F n l).1 = 2 ∧ NumOf f (F n l).2) := Lib.hid fun n l hn hl => by
        rcases HFT.out n l (by rw [HNN.out]; exact hn) hl with ⟨h1 | h1, h2⟩ | ⟨h1, _⟩
        · exact .inr (.inl h1)
        · exact .inr (.inr ⟨h1, fact_num HC.out (cut := c) h1 n (by rw [HSK.out]; exact h2)⟩)
        · exact .inl h1
      clear hF HB0 HI0 HN0 HNL HFS
      have U1 : Hid True := Lib.hid trivial
      have U2 : Hid True := Lib.hid trivial
      have U3 : Hid True := Lib.hid trivial
      have U4 : Hid True := Lib.hid trivial
      have U5 : Hid True := Lib.hid trivial
      go_wp2_with (first
        | (clear U1; go_at_call 14; refine (refBuild_any fo n fc f (some ⟨vb, 0, none⟩) n n c _ (HF.out.new HT.out.nw) (leaf_row (HT.out.rd 0 rfl)) HC.out).mono ?_; rw [HSK.out]; rintro e w6 ⟨kt, ct, vn, rfl, hs⟩; obtain ⟨ra, rc, hv⟩ := rowA_form (hs.rd 1 rfl); rw [HNN.out] at hv; subst hv; replace HT := Lib.hid (HT.out.call hs); clear hs)
        | (clear U2; refine wpList_alB rfl 48 rfl _ zeroRs_run10 _ rfl HT.out ?_; intro w7 g8 hs; replace HT := Lib.hid hs; clear hs)
        | (clear U3; refine wpList_stSW 0 rfl rfl 48 (.tmp 5) (.tmp 17) rfl g8 rfl _ rfl HT.out rfl (rsC s.entry.1 (.slice (some ⟨kt, 0, none⟩) 24 ct) (.slice ra N rc)) rfl rfl (by simp [rsC, Value.oneCell']) infoRs ?_; intro w8 hs; replace HT := Lib.hid hs; clear hs)
        | (clear U4; refine wpList_load_mid rfl 48 (.tmp 5) rfl g8 0 rfl (rsC s.entry.1 (.slice (some ⟨kt, 0, none⟩) 24 ct) (.slice ra N rc)) _ (HasC.all (HT.out.has 0 rfl)) Tryz.underlying48 rfl infoRs ?_)
        | (clear U5; go_at_call 21; refine (rfacts_any (s := s) (F := F) ⟨HT.out.rd 1 rfl, HT.out.rd 2 rfl, HNN.out, hN2, HB.out⟩ (HF.out.new HT.out.nw) HIS.out (by omega) HOO.out HVV.out).mono ?_; rintro e w9 ⟨vf, rfl, hs⟩; obtain ⟨fa, fac, hv⟩ := rowA_form hs.hd; rw [tabK_len] at hv; subst hv; replace HT := Lib.hid (HT.out.call hs); clear hs))
      go_loopw [4, 7] (fun cv nv wq => ∃ (m : Nat) (c' : List Bool) (mr : Bool), cv = .bool mr ∧ nv = .int .i64 (m : Int) ∧ m ≤ N ∧ Hid (IsRnd f c m c') ∧ Hid (PassC c mr c') ∧ Hid (Sep w wq [factsO (.slice fa N fac) (tabK N F), blk g8 48 (rsC s.entry.1 (.slice (some ⟨kt, 0, none⟩) 24 ct) (.slice ra N rc)), tabA kt s.entry.2, rnodesO (.slice ra N rc) s.nodes, boolsO (.slice (some ⟨vb, 0, none⟩) n n) c'])) (fun _ nv _ => N - (intOf nv).toNat)
      case atStart => exact ⟨0, c, false, rfl, rfl, by omega, Lib.hid (rnd_zero HCL.out), Lib.hid rfl, HT⟩
      case round =>
        obtain ⟨m, c', mr, rfl, rfl, hm, HRD, HPC, HU⟩ := hrel
        clear HT
        have cn := HU.out.cell 1 rfl (k := 2) rfl
        by_cases hmN : m < N
        · obtain ⟨y, hy⟩ : ∃ y, s.nodes[m]? = some y := ⟨_, List.getElem?_eq_getElem (by rw [HNN.out]; exact hmN)⟩
          obtain ⟨hy0, hy1⟩ := HIS.out y (List.mem_of_getElem? hy)
          obtain ⟨p, hp⟩ : ∃ p : Nat, y.1 = (p : Int) := ⟨y.1.toNat, by omega⟩
          have HAT : Hid ((nodesA f c).getD m 0 = (p : Int)) := Lib.hid (by
            have h1 : (sklA f c).nodes[m]? = some y := by rw [HSK.out]; exact hy
            rw [skl_nodes, List.getElem?_map] at h1
            rw [List.getD_eq_getElem?_getD, ← hp]
            cases h2 : (nodesA f c)[m]? with
            | none => rw [h2] at h1; cases h1
            | some z => rw [h2] at h1; simp at h1; rw [← h1]; rfl)
          have hmA : m < (nodesA f c).length := by rw [← HNA.out]; exact hmN
          have hpf : p < f.length := by omega
          have hpn : p < n := by rw [← HLN.out]; exact hpf
          have hin : InF f (p : Int) ∧ mvA f (p : Int) = false := (nodes_nds HC.out c).inf _ (by
            rw [← HAT.out, List.getD_eq_getElem?_getD, List.getElem?_eq_getElem hmA]
            exact List.getElem_mem hmA)
          have HUS := Lib.hid (uses_in (ri_in hin.1))
          obtain ⟨fb, fp, x, hx, hixf, hrgf⟩ := HF.out.ix (i := p) hpn
          have hxi : insA f (p : Int) = x := by
            unfold insA
            rw [Int.toNat_natCast, List.getD_eq_getElem?_getD, hx]
            rfl
          have HXI := Lib.hid hxi
          rw [hxi] at HUS
          have HRF := Lib.hid hrgf
          have HPF := Lib.hid hpf
          have HMA := Lib.hid hmA
          obtain ⟨b2, o2, c2, _, i2, r2, e2⟩ := rowA_ix (P := Tryz.prog) (HU.out.rd 3 rfl) 46 Tryz.underlying46 sizeRnd hy
          obtain ⟨v2, rfl, _⟩ := rnode_rd e2
          rw [hp] at r2
          have x2 := r2 _ (New.refl _) 0 _ rfl
          rw [Nat.add_zero] at x2
          have hcl : p < c'.length := by rw [HRD.out.1]; exact hpf
          have HCP := Lib.hid hcl
          obtain ⟨M, HM⟩ : ∃ M, Hid ((usesL x).length = M) := ⟨_, Lib.hid rfl⟩
          have hM : M ≤ 2 := by rw [← HM.out]; exact uses_two x
          clear hy hp hy0 hy1 hx hxi hrgf r2 e2 hin hmA hpf hcl
          have U1 : Hid True := Lib.hid trivial
          have U2 : Hid True := Lib.hid trivial
          go_wp2_with (first
            | (clear U1; refine wpList_ldAG rfl 79 (.tmp 36) rfl fb fp rfl (cells6 x) _ (HRF.out _ HU.out.nw) Tryz.underlying79 rfl (by rw [cells6_len]; exact infoI) ?_)
            | (clear U2; go_at_call 48; refine (refUses_any x.op x.d x.a x.b x.n x.t _).mono ?_; rintro e wu ⟨vu, rfl, ho, hn⟩; replace HU := Lib.hid (HU.out.owns (us := usesL x) hn ho (by omega)); clear hn ho x2 cn))
          obtain ⟨ua, uc, hv⟩ := rowA_form (HU.out.rd 0 rfl)
          rw [HM.out] at hv
          subst hv
          go_loopw [4, 10] (fun cv iv wz => ∃ (i : Nat) (cx : List Bool) (mx : Bool), cv = .bool mx ∧ iv = .int .i64 (i : Int) ∧ i ≤ M ∧ Hid (UsesR (usesL x) (F m) c' p mr i cx mx) ∧ Hid (Sep w wz [usesO (.slice ua M uc) (usesL x), factsO (.slice fa N fac) (tabK N F), blk g8 48 (rsC s.entry.1 (.slice (some ⟨kt, 0, none⟩) 24 ct) (.slice ra N rc)), tabA kt s.entry.2, rnodesO (.slice ra N rc) s.nodes, boolsO (.slice (some ⟨vb, 0, none⟩) n n) cx])) (fun _ iv _ => M - (intOf iv).toNat)
          case atStart => exact ⟨0, c', mr, rfl, rfl, by omega, Lib.hid (usesR_0 _ _ _ _ _), HU⟩
          case round =>
            clear HU
            obtain ⟨i, cx, mx, rfl, rfl, hi, HR, HY⟩ := hrel
            by_cases hiM : i < M
            · obtain ⟨u, hu⟩ : ∃ u, (usesL x)[i]? = some u := ⟨_, List.getElem?_eq_getElem (by rw [HM.out]; exact hiM)⟩
              have HUI := Lib.hid hu
              have hu24 := HUS.out u (List.mem_of_getElem? hu)
              obtain ⟨q, hq⟩ : ∃ q : Nat, u = (q : Int) := ⟨u.toNat, by omega⟩
              subst hq
              have hq24 : q < 24 := by omega
              have hcl : p < cx.length := by rw [usesR_len HR.out]; exact HCP.out
              obtain ⟨bit, hbit⟩ : ∃ bit, cx[p]? = some bit := ⟨_, List.getElem?_eq_getElem hcl⟩
              obtain ⟨b1, o1, u1, i1, r1, d1⟩ := nest_ix (P := Tryz.prog) (HY.out.rd 1 rfl) 57 Tryz.underlying57 sizeSs (tabK_at F hmN)
              obtain ⟨a1, c1, hu1⟩ := rowA_form d1
              rw [rowK_len] at hu1
              subst hu1
              obtain ⟨b3, o3, i3, r3⟩ := leaf_ix (P := Tryz.prog) d1 58 Tryz.underlying58 sizeSr (rowK_at F m hq24)
              obtain ⟨b4, o4, i4, r4⟩ := leaf_ix (P := Tryz.prog) (HY.out.rd 0 rfl) 101 Tryz.underlying101 sizeIn hu
              have i5 := fun w => ixRow (P := Tryz.prog) Tryz.underlying23 sizeBo vb p n n hpn w
              have HBI := Lib.hid (leaf_at (HY.out.rd 5 rfl) hbit)
              have V1 : ∀ z : NewW wr, z.val.cell? ⟨b1, o1, none⟩ = some (.slice a1 24 c1) := fun z => r1 _ z.property
              have V2 : ∀ z : NewW wr, z.val.cell? ⟨b3, o3, none⟩ = some (.int .i64 (F m q).1) := fun z => by
                have := r3 _ z.property 0 _ rfl
                rw [Nat.add_zero] at this
                exact this
              have V3 : ∀ z : NewW wr, z.val.cell? ⟨b4, o4, none⟩ = some (.int .i64 (q : Int)) := fun z => by
                have := r4 _ z.property 0 _ rfl
                rw [Nat.add_zero] at this
                exact this
              have V4 : ∀ z : NewW wr, z.val.cell? ⟨vb, p, none⟩ = some (.bool bit) := fun z => by
                have := HBI.out _ z.property 0 _ rfl
                rw [Nat.add_zero, Nat.mul_one] at this
                exact this
              have HBT := Lib.hid hbit
              have HPL := Lib.hid hcl
              clear r1 d1 r3 r4 hu hu24 hbit hcl
              by_cases h0 : (F m q).1 = 0
              · have q0 : ((F m q).1 == 0) = true := beq_of h0
                have H0 : Hid ((F m (Int.toNat (q : Int))).1 = 0) := Lib.hid (by rw [Int.toNat_natCast]; exact h0)
                clear h0
                cases bit with
                | true =>
                  have HR2 := Lib.hid (usesR_had HR.out HUI.out HBT.out)
                  go_wp2_with fail
                  have hne := newW_any wr
                  refine wp_region_new (New.refl wr) (by kernel_rfl) (by kernel_rfl) ?_
                  repeat (go_big_quiet_step (fail))
                  refine wpQuiet_nil ?_
                  intro w6 hn6
                  go_wp2_with fail
                  go_roundw
                  case rel => exact ⟨i + 1, cx, mx, rfl, by go_num, by omega, HR2, Lib.hid (HY.out.go hn6)⟩
                  case measure => simp [intOf]; omega
                | false =>
                  have HR2 := Lib.hid (usesR_cut HR.out HUI.out HBT.out H0.out)
                  go_wp2_with fail
                  have hne := newW_any wr
                  refine wp_region_new (New.refl wr) (by kernel_rfl) (by kernel_rfl) ?_
                  repeat (go_big_quiet_step (fail))
                  refine wpQuiet_nil ?_
                  intro w6 hn6
                  replace HY := Lib.hid (HY.out.go hn6)
                  clear V1 V2 V3 V4 hne hn6
                  have V1 : Hid True := Lib.hid trivial
                  go_wp2_with (clear V1; refine wpList_stL 5 rfl rfl 4 (.tmp 66) (.const (.bool true)) rfl vb n n p HPL.out rfl (y := true) rfl HY.out rfl rfl rfl infoB1v ?_; intro w9 hs; replace HY := Lib.hid hs; clear hs)
                  go_roundw
                  case rel => exact ⟨i + 1, _, true, rfl, by go_num, by omega, HR2, HY⟩
                  case measure => simp [intOf]; omega
              · have q0 : ((F m q).1 == 0) = false := bneq_of h0
                have HR2 := Lib.hid (usesR_keep HR.out HUI.out (by rw [Int.toNat_natCast]; exact h0))
                clear h0
                go_wp2_with fail
                have hne := newW_any wr
                refine wp_region_new (New.refl wr) (by kernel_rfl) (by kernel_rfl) ?_
                repeat (go_big_quiet_step (fail))
                refine wpQuiet_nil ?_
                intro w6 hn6
                go_wp2_with fail
                go_roundw
                case rel => exact ⟨i + 1, cx, mx, rfl, by go_num, by omega, HR2, Lib.hid (HY.out.go hn6)⟩
                case measure => simp [intOf]; omega
            · have HMM : Hid (i = (usesL x).length) := Lib.hid (by rw [HM.out]; omega)
              have HDN := Lib.hid (usesR_done (by rw [← HMM.out]; exact HR.out) HRD.out HPC.out HMA.out HAT.out HXI.out HPF.out (HUY.out x m (by rw [HSK.out, HNN.out]; exact hmN) HUS.out) (HUN.out x m (by rw [HSK.out, HNN.out]; exact hmN) HUS.out))
              have HD := Lib.hid HY.out.drop
              go_wp2_with fail
              go_roundw
              case rel => exact ⟨m + 1, cx, mx, rfl, by go_num, by omega, Lib.hid HDN.out.1, Lib.hid HDN.out.2, HD⟩
              case measure => simp [intOf]; omega
        · obtain rfl : m = N := by omega
          have HR2 : Hid (IsRnd f c (nodesA f c).length c') := Lib.hid (by rw [← HNA.out]; exact HRD.out)
          go_wp2_with fail
          cases mr with
          | true =>
            go_roundg (offs c' + 1)
            case rel => exact ⟨k + 1, c', true, rfl, rfl, Lib.hid ⟨c, HK.out, HR2.out⟩, Lib.hid (fun h => by cases h), Lib.hid HU.out.drop.drop.drop.drop⟩
            case measure =>
              have h1 : offs c' < offs c := HPC.out
              rw [hgm2]
              omega
          | false =>
            have HE : Hid (c' = c) := Lib.hid HPC.out
            rw [HE.out] at HR2 HU
            go_roundg 0
            case rel => exact ⟨k, c, false, rfl, rfl, HK, Lib.hid (fun _ => HR2.out), Lib.hid HU.out.drop.drop.drop.drop⟩
            case measure => rw [hgm2]; omega
end Go.Proofs.YtphopkjgfkaihaaGreatDoor
