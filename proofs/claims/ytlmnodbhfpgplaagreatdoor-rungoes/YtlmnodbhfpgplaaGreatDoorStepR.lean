/-
  The reference's Do: for every function, state that is right, and row of answers; its answers as parameters.
-/
import Derived.Test.YtlmnodbhfpgplaaGreatDoorStepRef
import Derived.Test.YtlmnodbhfpgplaaGreatDoorStepQ
namespace Go.Proofs.YtlmnodbhfpgplaaGreatDoor
open Go.RowKit

theorem refDo_is {v : Value} {f : List I} {l : Ws} {zs : List Int} {p q : Int} {a s : Sl} {az : List Int} {va : Value} {w : World} (hf : FunAt w v f) (hw : WsAt w a l) (hp : Hp w (.slice s.ao s.n s.c) zs) (ha : Hp w va az) (hal : az.length ≤ 100000) (hm : mcB f ⟨l, zs, p, q⟩ = true)
    {l2 : Ws} {z2 oh : List Int} {p2 q2 how val : Int} {es : List Ev} (hr : stp f ⟨l, zs, p, q⟩ az = ⟨⟨l2, z2, p2, q2⟩, es, how, val, oh⟩) :
    Calls Tryz.prog 28 #[v, .agg (refC a s p q).toArray, va] w fun e w' => ∃ (a' s' : Sl) (ve : Value) (so : Sl), e = .returned (.tuple #[.agg (refC a' s' p2 q2).toArray, ve, .agg (outC how val so).toArray]) ∧ WsAt w' a' l2 ∧ Hp w' (.slice s'.ao s'.n s'.c) z2 ∧ EvAt w' ve es ∧ Hp w' (.slice so.ao so.n so.c) oh ∧ New w w' ∧ (a' = a ∨ FarS w.heap.size a') ∧ (s' = s ∨ Fresh w.heap.size (.slice s'.ao s'.n s'.c) z2) ∧ Fresh w.heap.size ve es ∧ (so = s ∨ Fresh w.heap.size (.slice so.ao so.n so.c) oh) := by
  obtain ⟨ao, cap, rfl⟩ := hf.form
  obtain ⟨bo, bc, rfl⟩ := ha.form
  have r := ri_at hm
  obtain ⟨x, hx⟩ : ∃ x, insA f p = x := ⟨_, rfl⟩
  have r : Ri x f.length := hx ▸ r
  obtain ⟨o, d, a1, b, n, t⟩ := x
  have r1 := r.o1; have r2 := r.o2; have r3 := r.d0; have r4 := r.d1; have r5 := r.a0; have r6 := r.a1; have r7 := r.b0; have r8 := r.b1
  simp only at r1 r2 r3 r4 r5 r6 r7 r8
  obtain ⟨kd, rfl⟩ := Int.eq_ofNat_of_zero_le r3
  obtain ⟨ka, rfl⟩ := Int.eq_ofNat_of_zero_le r5
  obtain ⟨kb, rfl⟩ := Int.eq_ofNat_of_zero_le r7
  have hop : (o = 16 ∨ o = 1 ∨ o = 2 ∨ o = 3) ∨ (4 ≤ o ∧ o ≤ 15 ∨ o = 17 ∨ o = 18) := by omega
  rcases hop with ho | ho
  · refine (refStep_moves ao f.length cap f l zs p q a s az bo az.length bc w hf hw hp ha hal hm o n t kd ka kb (by omega) (by omega) (by omega) ho hx).mono ?_
    rw [hr]
    exact fun e w' h => h
  · refine (refStep_rest ao f.length cap f l zs p q a s az bo az.length bc w hf hw hp ha hal hm o n t kd ka kb (by omega) (by omega) (by omega) ho hx).mono ?_
    rw [hr]
    exact fun e w' h => h
end Go.Proofs.YtlmnodbhfpgplaaGreatDoor
