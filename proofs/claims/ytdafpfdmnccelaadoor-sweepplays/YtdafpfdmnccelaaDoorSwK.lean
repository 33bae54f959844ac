/- The sweep's examples, walked. -/
import Derived.Test.YtdafpfdmnccelaaDoorSwAP
import Derived.Test.YtdafpfdmnccelaaDoorSwT
import Derived.Test.YtdafpfdmnccelaaDoorSwSP
namespace Go.Proofs.YtdafpfdmnccelaaDoor
open Go.RowKit

theorem M2.makes {g : Gr} {n i k : Nat} {h : HSt} (m : M2 g n i k h) (ok : h.Ok) (hn : n ≤ 60) : (h.makeS 0 0).last = n + 1 := by
  obtain ⟨a1, _⟩ := alloc_free ok.ao (1 + 0 + 0) (by omega) (by omega) (by have := m.free; omega)
  have hl := m.len
  have hmo := m.most
  have hla := m.last
  have hm : (h.makeR 0 0).2 = 0 := by
    unfold HSt.makeR
    rw [if_pos (by omega), if_neg (by omega), if_neg (by omega), if_pos a1]
  unfold HSt.makeS
  rw [if_pos hm]
  show h.last + 1 = _
  rw [hla]
theorem swH_last (h : HSt) (p : PSt) (pl en : Nat) : (swH h p pl en).last = h.last := by
  unfold swH
  split
  · exact sw_freeS_last h _
  · rfl
/-- The example's marks. -/
def mkK (s : Nat) : Bool := decide (s = 1)
section
variable {w0 w w' : World} {B pb hb sb : Nat} {h : HSt} {p : PSt} {X : Nat → Prop}
/-- What a sweeper's step leaves, of the examples. -/
structure KnI (wA w : World) (rb sb hb pb k l : Nat) (h : HSt) (p : PSt) : Prop where
  sw : Swp h 2 k mkK
  mks : Mks p 2 mkK
  ph : PH wA wA.heap.size w pb hb h p (fun j => j = rb ∨ j = sb)
  s : SwB w sb hb pb k 2
  la : h.last = l
theorem KnI.step {wA : World} {rb k l : Nat} (J : KnI wA w rb sb hb pb k l h p) (hB : wA.heap.size ≤ sb) (hk : k < 2) :
    Calls Tryd.prog 10 #[.pointer (some ⟨sb, 0, none⟩)] w fun e w' => ∃ h' p', e = .returned (.tuple #[.int .u64 ((if mkK (k + 1) then 0 else k + 1 : Nat) : Int), .bool true]) ∧ KnI wA w' rb sb hb pb (k + 1) l h' p' ∧ Kept w w' (fun j => wA.heap.size ≤ j) := by
  have hSt := sstep_sw (how_ph (X := fun j => j = rb ∨ j = sb) (Or.inr rfl) hB) J.ph J.s
  obtain ⟨e1, e2, S, M⟩ := J.sw.step hk J.mks
  rw [e1, e2] at hSt
  refine hSt.mono ?_
  rintro e w' ⟨he, z, s, kp⟩
  refine ⟨_, _, he, ⟨S, M, z, s, by rw [swH_last]; exact J.la⟩, kp.mono (fun j _ a => ?_)⟩
  rcases a with a | a
  · exact a.1
  · rw [a]; exact hB
theorem KnI.stop {wA : World} {rb l : Nat} (J : KnI wA w rb sb hb pb 2 l h p) (hB : wA.heap.size ≤ sb) :
    Calls Tryd.prog 10 #[.pointer (some ⟨sb, 0, none⟩)] w fun e w' => e = .returned (.tuple #[.int .u64 ((0 : Nat) : Int), .bool false]) ∧ KnI wA w' rb sb hb pb 2 l h p := by
  have hSt := sstep_sw (how_ph (X := fun j => j = rb ∨ j = sb) (Or.inr rfl) hB) J.ph J.s
  obtain ⟨e1, e2, e3, e4⟩ := sw_none h p 2
  rw [e1, e2, e3, e4] at hSt
  exact hSt.mono (fun e w' ⟨he, z, s, _⟩ => ⟨he, J.sw, J.mks, z, s, J.la⟩)
end
set_option maxRecDepth 20000 in
set_option maxHeartbeats 2000000 in
theorem sknown_any (w : World) (hT : TB w) : Calls Tryd.prog 7 #[] w fun e w' => e = .returned (.bool true) ∧ Below w.heap.size w w' := by
  obtain ⟨wA, hwA⟩ : ∃ z, z = w.alloc (.cells #[.slice none 0 0, .slice none 0 0] 27) := ⟨_, rfl⟩
  have hbA : Below w.heap.size w wA := by rw [hwA]; exact bel_alloc w _
  have hTA : TB wA := hT.below hbA
  have hr : Row wA w.heap.size 27 [.slice none 0 0, .slice none 0 0] := by rw [hwA]; exact heap_alloc_new w _
  have hGI : GI wA (.slice (some ⟨w.heap.size, 0, none⟩) 2 2) (.slice none 0 0) (.slice none 0 0) (nilG 2) := nilG_gi (by omega) (fun i hi => by
    match i, hi with
    | 0, _ => exact hr.cell 0 (by simp)
    | 1, _ => exact hr.cell 1 (by simp))
  have hHp := heaps_at hGI hTA 5 (by omega)
  rw [nilG_len 2 5 (by omega)] at hHp
  have HWA : Hid (∀ W : World, Below wA.heap.size wA W → Below w.heap.size w W) := fun W hB => hbA.trans (hB.mono hbA.size)
  clear hT hGI hr hTA hbA
  go_enter Tryd.func7, Tryd.ntmps7
  go_wp2_with fail
  rw [← hwA]
  refine hHp.mono ?_
  rintro e w1 ⟨hb, rb, h, rfl, y1, m1⟩
  have HLN : Hid (h.last = 2) := m1.last
  have HMA : Hid ((h.makeS 0 0).last = 3) := m1.makes y1.ok (by omega)
  have HND : Hid (h.node = 1) := m1.node
  have HSW : Hid (Swp h 2 0 mkK) := m1.swp y1.ok mkK
  clear hHp m1 hwA
  go_wp2_with fail
  refine (y1.pl 2 (by omega) (by omega)).mono ?_
  rintro e w3 ⟨pb, rfl, z3, b3⟩
  have hLa := fun o : Obj => (z3.ph.read (bel_alloc w3 o)).sLast
  clear y1
  go_wp2_with fail
  refine (snew_sw hLa).mono ?_
  rintro e w4 ⟨rfl, r4, b4⟩
  have hs34 : w3.heap.size < w4.heap.size := Row.lt r4
  have z4 : PH wA wA.heap.size w4 pb hb h (PSt.new 2) (fun k => k = rb ∨ k = w3.heap.size) := (z3.ph.sFresh b4).off _ (fun k e => by
    rcases e with e | e
    · exact Or.inl (Or.inl e)
    · exact Or.inr (by omega))
  have HsB : Hid (wA.heap.size ≤ w3.heap.size) := z3.ph.le
  clear hLa z3 b3 b4 hs34
  generalize w3.heap.size = sb at *
  have hH := z4.shade 1 1 0
  have HMK : Hid (Mks ((PSt.new 2).shade h (1, 1) 0) 2 mkK) := ((Mks.none 2 2).shade HND.out (fun s h1 h2 => (HSW.out.has s).2 (Or.inl ⟨h1, h2, fun e => by omega⟩)) (by omega) (by omega) 0).like (fun s _ _ => by unfold mkK; rw [Bool.false_or])
  have HR4 : Hid _ := hidden r4
  clear z4 r4
  generalize ((PSt.new 2).shade h (1, 1) 0) = p at *
  go_wp2_with fail
  refine hH.mono ?_
  rintro e w5 ⟨rfl, z5, k5⟩
  have r5 : SwB w5 sb hb pb 0 h.last := its_row k5 (Or.inr rfl) HR4.out
  have hB5 := sbegin_at z5.sLast r5
  have HZ5 : Hid _ := hidden z5
  clear hH z5 k5 r5 HR4
  go_wp2_with fail
  refine hB5.mono ?_
  rintro e w6 ⟨rfl, r6, k6⟩
  have z6 := HZ5.out.other k6 (fun k e => by have e' : k = sb := e; rw [e']; exact ⟨Or.inr rfl, HsB.out⟩)
  have hM6 := z6.sMake 0 0
  have HR6 : Hid _ := hidden r6
  clear hB5 k6 r6 z6 HZ5
  go_wp2_with fail
  refine hM6.mono ?_
  rintro e w7 ⟨rfl, z7, k7⟩
  have J7 : KnI wA w7 rb sb hb pb 0 3 (h.makeS 0 0) p := ⟨HSW.out.make 0 0, HMK.out, z7, by rw [← HLN.out]; exact its_row k7 (Or.inr rfl) HR6.out, HMA.out⟩
  have hS7 := J7.step HsB.out (by omega)
  clear hM6 k7 z7 HR6 HSW HMK HMA HND HLN J7
  go_wp2_with fail
  refine hS7.mono ?_
  rintro e w8 ⟨h8, p8, rfl, J8, k8⟩
  have hS8 := J8.step HsB.out (by omega)
  clear hS7 J8 k8
  go_wp2_with fail
  refine hS8.mono ?_
  rintro e w9 ⟨h9, p9, rfl, J9, k9⟩
  have hS9 := J9.stop HsB.out
  clear hS8 J9 k9
  go_wp2_with fail
  refine hS9.mono ?_
  rintro e w10 ⟨rfl, J10⟩
  have hLe := J10.ph.sLen
  have hall := J10.sw.all
  have hla := J10.la
  have hcl : h9.cs.length = 2 := by
    rw [hall, hla]
    rfl
  rw [hcl] at hLe
  have HB : Hid _ := hidden (HWA.out _ J10.ph.bel)
  clear hS9 J10 hall hla hcl
  go_wp2_with fail
  refine hLe.mono ?_
  rintro e _ ⟨rfl, rfl⟩
  clear hLe
  go_wp2
  go_ret
  exact ⟨rfl, HB.out⟩
end Go.Proofs.YtdafpfdmnccelaaDoor
