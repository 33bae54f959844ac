/- SweepKnown, walked. -/
import Derived.Test.YtdafpfdmnccelaaDoorSwK
namespace Go.Proofs.YtdafpfdmnccelaaDoor
open Go.RowKit

theorem nilG0_gi (w : World) : GI w (.slice none 0 0) (.slice none 0 0) (.slice none 0 0) (nilG 0) := by
  have hz : ∀ {α : Type} (f : α → List Value), WS w (.slice none 0 0) 1 f [] := fun f => ⟨none, 0, rfl, Nat.le_refl _, fun _ => rfl, fun h => absurd rfl h⟩
  exact ⟨hz cR, (fun x hx => by cases hx), hz cB, hz cI, by show 0 ≤ _; omega, by show 0 ≤ _; omega⟩
set_option maxRecDepth 20000 in
set_option maxHeartbeats 2000000 in
theorem sweepKnown_any (w : World) (hT : TB w) : Calls Tryd.prog 3 #[] w fun e w' => e = .returned (.bool true) ∧ Below w.heap.size w w' := by
  have hHp := heaps_at (nilG0_gi w) hT 5 (by omega)
  rw [nilG_len 0 5 (by omega)] at hHp
  go_enter Tryd.func3, Tryd.ntmps3
  go_wp2_with fail
  refine hHp.mono ?_
  rintro e w1 ⟨hb, rb, h, rfl, y1, m1⟩
  have HSW : Hid (h.last = 0) := m1.last
  clear hHp m1
  go_wp2_with fail
  refine (sknown_any _ (hT.below (y1.bel.mono (Nat.le_refl _)))).mono ?_
  rintro e w2 ⟨rfl, b2⟩
  have y2 := y1.read b2
  clear y1 b2
  go_wp2_with fail
  refine (y2.pl 2 (by omega) (by omega)).mono ?_
  rintro e w3 ⟨pb, rfl, z3, b3⟩
  clear y2
  go_wp2_with fail
  refine (snew_nil1 _ _).mono ?_
  rintro e _ ⟨rfl, rfl⟩
  go_wp2_with fail
  refine (snew_nil2 _ _).mono ?_
  rintro e _ ⟨rfl, rfl⟩
  have hLa := fun o : Obj => (z3.ph.read (bel_alloc w3 o)).sLast
  go_wp2_with fail
  refine (snew_sw hLa).mono ?_
  rintro e w4 ⟨rfl, r4, b4⟩
  have hs34 : w3.heap.size < w4.heap.size := Row.lt r4
  have z4 : PH w w.heap.size w4 pb hb h (PSt.new 2) (fun k => k = rb ∨ k = w3.heap.size) := (z3.ph.sFresh b4).off _ (fun k e => by
    rcases e with e | e
    · exact Or.inl (Or.inl e)
    · exact Or.inr (by omega))
  have hsB : w.heap.size ≤ w3.heap.size := z3.ph.le
  have hSt := sstep_sw (how_ph (X := fun j => j = rb ∨ j = w3.heap.size) (Or.inr rfl) hsB) z4 r4
  rw [HSW.out] at hSt
  obtain ⟨e1, _, _, _⟩ := sw_none h (PSt.new 2) 0
  rw [e1] at hSt
  clear hLa z3 b3 b4 z4 r4 hs34 hsB e1 hT
  generalize w3.heap.size = sb at *
  go_wp2_with fail
  refine hSt.mono ?_
  rintro e w5 ⟨rfl, z5, _, _⟩
  have HB : Hid _ := hidden z5.bel
  clear hSt z5
  go_wp2
  go_ret
  exact ⟨rfl, HB.out⟩
end Go.Proofs.YtdafpfdmnccelaaDoor
