/- The plain sweeper, walked. -/
import Derived.Test.YtdafpfdmnccelaaDoorSwMP
import Derived.Test.YtdafpfdmnccelaaDoorMkSP
import Derived.Deep.CutRange
import Derived.Deep.CutBlock
import Derived.Deep.RegionHeld
import Derived.BigQuiet
namespace Go.Proofs.YtdafpfdmnccelaaDoor
open Go.RowKit

section
variable {w0 w w' : World} {B hb rb pb qb : Nat} {h1 h2 : HSt} {p1 p2 : PSt} {X : Nat → Prop}
theorem P4.hnext (x : P4 w0 B w hb rb pb qb h1 h2 p1 p2 X) (s : Nat) :
    Calls Tryd.prog 23 #[.pointer (some ⟨hb, 0, none⟩), .int .u64 (s : Int)] w fun e w' => e = .returned (.tuple #[.int .u64 ((nextR h1.cs s).1 : Int), .bool (nextR h1.cs s).2]) ∧ Below w.heap.size w w' := by
  obtain ⟨F, G, P, Q, hp, _⟩ := x.ex
  exact hp.next s
theorem P4.hlen (x : P4 w0 B w hb rb pb qb h1 h2 p1 p2 X) :
    Calls Tryd.prog 22 #[.pointer (some ⟨hb, 0, none⟩)] w fun e w' => e = .returned (.int .i64 (h1.cs.length : Int)) ∧ w = w' := by
  obtain ⟨F, G, P, Q, hp, _⟩ := x.ex
  exact hp.len
theorem P4.hlast (x : P4 w0 B w hb rb pb qb h1 h2 p1 p2 X) :
    Calls Tryd.prog 25 #[.pointer (some ⟨hb, 0, none⟩)] w fun e w' => e = .returned (.int .u64 (h1.last : Int)) ∧ w = w' := by
  obtain ⟨F, G, P, Q, hp, _⟩ := x.ex
  exact hp.last
theorem P4.hmark (x : P4 w0 B w hb rb pb qb h1 h2 p1 p2 X) (s : Nat) (hs : s < 18446744073709551616) :
    Calls Tryd.prog 37 #[.pointer (some ⟨pb, 0, none⟩), .int .u64 (s : Int)] w fun e w' => e = .returned (.tuple #[.int .i64 ((markR h1 p1 s).1 : Int), .bool (markR h1 p1 s).2.1, .bool (markR h1 p1 s).2.2]) ∧ Below w.heap.size w w' := by
  obtain ⟨F, G, P, Q, hp, rp, ⟨sb, mb, tb, v, hx, hPi⟩, qn, ap⟩ := x.ex
  exact mark_any hx hp s hs
theorem P4.rnext (x : P4 w0 B w hb rb pb qb h1 h2 p1 p2 X) (s : Nat) :
    Calls Tryd.prog 56 #[.pointer (some ⟨rb, 0, none⟩), .int .u64 (s : Int)] w fun e w' => e = .returned (.tuple #[.int .u64 ((nextR h2.cs s).1 : Int), .bool (nextR h2.cs s).2]) ∧ w = w' := by
  obtain ⟨F, G, P, Q, hp, ⟨ra, rc, rt, lv, M, hr, hGi⟩, _⟩ := x.ex
  exact rnext_any hr s
theorem P4.rmark (x : P4 w0 B w hb rb pb qb h1 h2 p1 p2 X) (s : Nat) :
    Calls Tryd.prog 57 #[.pointer (some ⟨qb, 0, none⟩), .int .u64 (s : Int)] w fun e w' => e = .returned (.tuple #[.int .i64 ((markR h2 p2 s).1 : Int), .bool (markR h2 p2 s).2.1, .bool (markR h2 p2 s).2.2]) ∧ Below w.heap.size w w' := by
  obtain ⟨F, G, P, Q, hp, ⟨ra, rc, rt, lv, M, hr, hGi⟩, pn, ⟨sv, mv, kv, vv, L, hq, hQi⟩, ap⟩ := x.ex
  exact rmark_any hq hr s
/-- The plain sweeper at wb. -/
def RwB (w : World) (wb rb qb pl en : Nat) : Prop := Row w wb 49 [.pointer (some ⟨rb, 0, none⟩), .pointer (some ⟨qb, 0, none⟩), .int .u64 (pl : Int), .int .u64 (en : Int)]
theorem RwB.move {wb pl en : Nat} (r : RwB w wb rb qb pl en) (a : Nat) : RwB (w.setCell ⟨wb, 2, none⟩ (.int .u64 (a : Int))) wb rb qb a en := Row.set r 2 _
theorem RwB.below {wb pl en : Nat} (r : RwB w wb rb qb pl en) (hb : Below w.heap.size w w') : RwB w' wb rb qb pl en := Row.below r hb
theorem RwB.kept {wb pl en : Nat} {S : Nat → Prop} (r : RwB w wb rb qb pl en) (hk : Kept w w' S) (hS : ¬ S wb) : RwB w' wb rb qb pl en := Row.kept r hk hS
theorem rsbegin_any {wb pl en : Nat} (x : P4 w0 B w hb rb pb qb h1 h2 p1 p2 X) (hX : X wb) (hB : B ≤ wb) (r : RwB w wb rb qb pl en) :
    Calls Tryd.prog 16 #[.pointer (some ⟨wb, 0, none⟩)] w fun e w' => e = .returned (.tuple #[]) ∧ P4 w0 B w' hb rb pb qb h1 h2 p1 p2 X ∧ RwB w' wb rb qb 0 h2.last ∧ Kept w w' (fun k => k = wb) := by
  have d0 : w.cell? ⟨wb, 0, none⟩ = some (.pointer (some ⟨rb, 0, none⟩)) := r.cell 0 (by simp)
  have f2 := r.frozen 2
  have f3 := r.frozen 3
  have d2 : w.cell? ⟨wb, 2, none⟩ = some (.int .u64 (pl : Int)) := r.cell 2 (by simp)
  have d3 : w.cell? ⟨wb, 3, none⟩ = some (.int .u64 (en : Int)) := r.cell 3 (by simp)
  have hl := r.lt
  have hc := x.last
  have hrl := cell_lt hc
  have hne : wb ≠ rb := fun e => by
    obtain ⟨F, G, P, Q, hp, ⟨ra, rc, rt, lv, M, hr, hGi⟩, _, _, ap⟩ := x.ex
    have := (ap.aG rb ((hGi rb).2 (by simp [rBl]))).2.2
    exact this (e ▸ hX)
  have hK : Kept w ((w.setCell ⟨wb, 2, none⟩ (.int .u64 0)).setCell ⟨wb, 3, none⟩ (.int .u64 (h2.last : Int))) (fun k => k = wb) := ((Kept.refl w (fun k => k = wb)).put ⟨wb, 2, none⟩ (.int .u64 0) rfl).put ⟨wb, 3, none⟩ (.int .u64 (h2.last : Int)) rfl
  have HR : Hid (RwB ((w.setCell ⟨wb, 2, none⟩ (.int .u64 0)).setCell ⟨wb, 3, none⟩ (.int .u64 (h2.last : Int))) wb rb qb 0 h2.last) := (Row.set r 2 _).set 3 _
  have HX : Hid _ := hidden (x.other hK (fun k e => by have e' : k = wb := e; rw [e']; exact ⟨hX, hB⟩))
  have HK : Hid _ := hidden hK
  have hc2 : (w.setCell ⟨wb, 2, none⟩ (.int .u64 0)).cell? ⟨rb, 2, none⟩ = some (.int .u64 (h2.last : Int)) := cell_kept hc ((Kept.refl w (fun k => k = wb)).put ⟨wb, 2, none⟩ (.int .u64 0) rfl) (fun e => hne e.symm)
  have hd2 : (w.setCell ⟨wb, 2, none⟩ (.int .u64 0)).cell? ⟨wb, 0, none⟩ = some (.pointer (some ⟨rb, 0, none⟩)) := (r.move 0).cell 0 (by simp)
  clear x r hK hX hB
  generalize h2.last = L at *
  go_enter Tryd.func16, Tryd.ntmps16
  go_wp2
  go_end0
  exact ⟨rfl, HX.out, HR.out, HK.out⟩
set_option maxRecDepth 20000 in
set_option maxHeartbeats 1000000 in
theorem rsstep_any {wb pl en : Nat} (x : P4 w0 B w hb rb pb qb h1 h2 p1 p2 X) (hX : X wb) (hB : B ≤ wb) (r : RwB w wb rb qb pl en) :
    Calls Tryd.prog 21 #[.pointer (some ⟨wb, 0, none⟩)] w fun e w' => e = .returned (.tuple #[.int .u64 ((swR h2 p2 pl en).1 : Int), .bool (swR h2 p2 pl en).2]) ∧ P4 w0 B w' hb rb pb qb h1 (swH h2 p2 pl en) p1 (swP h2 p2 pl en) X ∧ RwB w' wb rb qb (swL h2 pl en) en ∧ Kept w w' (fun k => Its B X k ∨ k = wb) := by
  have hdr : Below w.heap.size w w.drew := ⟨rfl, rfl, rfl, Nat.le_refl _, fun _ _ => rfl⟩
  have hN := (x.read hdr).rnext pl
  have d0 : w.cell? ⟨wb, 0, none⟩ = some (.pointer (some ⟨rb, 0, none⟩)) := Row.cell r 0 (by simp)
  have d2 : w.cell? ⟨wb, 2, none⟩ = some (.int .u64 (pl : Int)) := Row.cell r 2 (by simp)
  have hl := Row.lt r
  have hKw : ∀ a b : World, Below a.heap.size a b → Kept a b (fun k => Its B X k ∨ k = wb) := fun _ _ hb => kept_of_below hb _
  have HXB : Hid (X wb ∧ B ≤ wb) := ⟨hX, hB⟩
  have HNI : Hid (¬ Its B X wb) := fun e => e.2 hX
  clear hX hB
  by_cases h1b : (nextR h2.cs pl).2 = true
  · rw [h1b] at hN
    by_cases h2b : (nextR h2.cs pl).1 ≤ en
    · have hsb : swB h2 pl en = true := by
        unfold swB
        rw [h1b, decide_eq_true h2b]
        rfl
      have hng : ¬ (en : Int) < ((nextR h2.cs pl).1 : Int) := by omega
      have hkk : swK h2 p2 pl = (markR h2 p2 (nextR h2.cs pl).1).2.2 := rfl
      have hML := fun W (y : P4 w0 B W hb rb pb qb h1 h2 p1 p2 X) => y.rmark (nextR h2.cs pl).1
      have hFr := fun W (y : P4 w0 B W hb rb pb qb h1 h2 p1 p2 X) => y.rfree (nextR h2.cs pl).1
      have hFo := fun W (y : P4 w0 B W hb rb pb qb h1 (h2.freeS (nextR h2.cs pl).1) p1 p2 X) => y.rforget (nextR h2.cs pl).1
      cases hk : swK h2 p2 pl with
      | true =>
        obtain ⟨e1, e2, e3, e4⟩ := sw_mk hsb hk
        rw [e1, e2, e3, e4]
        rw [hkk] at hk
        clear hFr hFo
        generalize markR h2 p2 (nextR h2.cs pl).1 = mk at *
        obtain ⟨m1, m2, m3⟩ := mk
        simp only at hk hML
        subst hk
        generalize (nextR h2.cs pl).1 = n at *
        have HX : Hid _ := hidden x
        have HR : Hid _ := hidden r
        have HKW : Hid _ := hidden hKw
        clear x r hsb hkk e1 e2 e3 e4 h1b h2b hKw HNI
        go_enter Tryd.func21, Tryd.ntmps21
        go_upto_region 1 with fail
        go_cut [4, 5] from 9 to 21 (fun a b wc => a = .int .u64 (n : Int) ∧ b = .bool true ∧ Below w.heap.size w wc)
        case first =>
          go_region_with (go_at_call 56; refine hN.mono ?_; rintro e w4 ⟨rfl, rfl⟩)
          all_goals
            go_wp2
            go_meet
            exact ⟨rfl, rfl, hdr⟩
        case rest =>
          obtain ⟨rfl, rfl, b1⟩ := hcut
          obtain ⟨w1, hw1⟩ : ∃ x, x = wc := ⟨_, rfl⟩
          subst hw1
          clear hN d0 d2 hl hdr
          have x1 := HX.out.read b1
          have r1 := HR.out.below b1
          have f2 := Row.frozen r1 2
          have c2 : w1.cell? ⟨wb, 2, none⟩ = some (.int .u64 (pl : Int)) := Row.cell r1 2 (by simp)
          have hl1 := Row.lt r1
          have c1 : (w1.setCell ⟨wb, 2, none⟩ (.int .u64 (n : Int))).cell? ⟨wb, 1, none⟩ = some (.pointer (some ⟨qb, 0, none⟩)) := Row.cell (r1.move n) 1 (by simp)
          have c3 : w1.cell? ⟨wb, 3, none⟩ = some (.int .u64 (en : Int)) := Row.cell r1 3 (by simp)
          have k1 : Kept w1 (w1.setCell ⟨wb, 2, none⟩ (.int .u64 (n : Int))) (fun k => k = wb) := (Kept.refl w1 (fun k => k = wb)).put ⟨wb, 2, none⟩ (.int .u64 (n : Int)) rfl
          have x2 := x1.other k1 (fun k e => by have e' : k = wb := e; rw [e']; exact HXB.out)
          have hM2 := hML _ x2
          have HX2 : Hid _ := hidden x2
          have HR2 : Hid _ := hidden (r1.move n)
          have HK2 : Hid _ := hidden ((HKW.out _ _ b1).trans k1 (fun _ _ e => Or.inr e))
          clear x1 r1 k1 x2 hML b1 HX HR
          go_wp2_with fail
          refine hM2.mono ?_
          rintro e w5 ⟨rfl, b5⟩
          have HX5 : Hid _ := hidden (HX2.out.read b5)
          have HR5 : Hid _ := hidden (HR2.out.below b5)
          have HK5 : Hid _ := hidden (HK2.out.trans (HKW.out _ _ b5) (fun _ _ e => e))
          clear hM2 b5 c1 c2 c3 f2 hl1 HX2 HR2 HK2
          go_wp2
          go_ret2
          exact ⟨rfl, HX5.out, HR5.out, HK5.out⟩
      | false =>
        obtain ⟨e1, e2, e3, e4⟩ := sw_fr hsb hk
        rw [e1, e2, e3, e4]
        rw [hkk] at hk
        generalize markR h2 p2 (nextR h2.cs pl).1 = mk at *
        obtain ⟨m1, m2, m3⟩ := mk
        simp only at hk hML
        subst hk
        generalize (nextR h2.cs pl).1 = n at *
        generalize h2.freeS n = h3 at *
        generalize h2.freeR n = fr at *
        generalize p2.forget n = p3 at *
        have HX : Hid _ := hidden x
        have HR : Hid _ := hidden r
        have HKW : Hid _ := hidden hKw
        clear x r hsb hkk e1 e2 e3 e4 h1b h2b hKw
        go_enter Tryd.func21, Tryd.ntmps21
        go_upto_region 1 with fail
        go_cut [4, 5] from 9 to 21 (fun a b wc => a = .int .u64 (n : Int) ∧ b = .bool true ∧ Below w.heap.size w wc)
        case first =>
          go_region_with (go_at_call 56; refine hN.mono ?_; rintro e w4 ⟨rfl, rfl⟩)
          all_goals
            go_wp2
            go_meet
            exact ⟨rfl, rfl, hdr⟩
        case rest =>
          obtain ⟨rfl, rfl, b1⟩ := hcut
          obtain ⟨w1, hw1⟩ : ∃ x, x = wc := ⟨_, rfl⟩
          subst hw1
          clear hN d0 d2 hl hdr
          have x1 := HX.out.read b1
          have r1 := HR.out.below b1
          have f2 := Row.frozen r1 2
          have c2 : w1.cell? ⟨wb, 2, none⟩ = some (.int .u64 (pl : Int)) := Row.cell r1 2 (by simp)
          have hl1 := Row.lt r1
          have c1 : (w1.setCell ⟨wb, 2, none⟩ (.int .u64 (n : Int))).cell? ⟨wb, 1, none⟩ = some (.pointer (some ⟨qb, 0, none⟩)) := Row.cell (r1.move n) 1 (by simp)
          have c3 : w1.cell? ⟨wb, 3, none⟩ = some (.int .u64 (en : Int)) := Row.cell r1 3 (by simp)
          have k1 : Kept w1 (w1.setCell ⟨wb, 2, none⟩ (.int .u64 (n : Int))) (fun k => k = wb) := (Kept.refl w1 (fun k => k = wb)).put ⟨wb, 2, none⟩ (.int .u64 (n : Int)) rfl
          have x2 := x1.other k1 (fun k e => by have e' : k = wb := e; rw [e']; exact HXB.out)
          have hM2 := hML _ x2
          have HX2 : Hid _ := hidden x2
          have HR2 : Hid _ := hidden (r1.move n)
          have HK2 : Hid _ := hidden ((HKW.out _ _ b1).trans k1 (fun _ _ e => Or.inr e))
          clear x1 r1 k1 x2 hML b1 HX HR
          go_wp2_with fail
          refine hM2.mono ?_
          rintro e w5 ⟨rfl, b5⟩
          have x5 := HX2.out.read b5
          have r5 := HR2.out.below b5
          have HK5 : Hid _ := hidden (HK2.out.trans (HKW.out _ _ b5) (fun _ _ e => e))
          have hF5 := hFr _ x5
          have g0 : w5.cell? ⟨wb, 0, none⟩ = some (.pointer (some ⟨rb, 0, none⟩)) := Row.cell r5 0 (by simp)
          have hl5 := Row.lt r5
          have HR5 : Hid _ := hidden r5
          clear hM2 b5 c1 c2 c3 f2 hl1 HX2 HR2 HK2 hFr x5 r5
          go_wp2_with fail
          refine hF5.mono ?_
          rintro e w6 ⟨rfl, x6, k6⟩
          have r6 := HR5.out.kept k6 HNI.out
          have hF6 := hFo _ x6
          have g1 : w6.cell? ⟨wb, 1, none⟩ = some (.pointer (some ⟨qb, 0, none⟩)) := Row.cell r6 1 (by simp)
          have hl6 := Row.lt r6
          have HR6 : Hid _ := hidden r6
          have HK6 : Hid _ := hidden (HK5.out.trans k6 (fun _ _ e => Or.inl e))
          clear hF5 hFo x6 k6 r6 g0 hl5 HR5 HK5
          go_wp2_with fail
          refine hF6.mono ?_
          rintro e w7 ⟨rfl, x7, k7⟩
          have HX7 : Hid _ := hidden x7
          have HR7 : Hid _ := hidden (HR6.out.kept k7 HNI.out)
          have HK7 : Hid _ := hidden (HK6.out.trans k7 (fun _ _ e => Or.inl e))
          clear hF6 x7 k7 g1 hl6 HR6 HK6
          go_wp2
          go_ret2
          exact ⟨rfl, HX7.out, HR7.out, HK7.out⟩
    · have hsb : swB h2 pl en = false := by
        unfold swB
        rw [decide_eq_false h2b, Bool.and_false]
      obtain ⟨e1, e2, e3, e4⟩ := sw_no p2 hsb
      rw [e1, e2, e3, e4]
      have hng : (en : Int) < ((nextR h2.cs pl).1 : Int) := by omega
      generalize (nextR h2.cs pl).1 = n at *
      have HX : Hid _ := hidden x
      have HR : Hid _ := hidden r
      have HKW : Hid _ := hidden hKw
      clear x r hsb e1 e2 e3 e4 h1b h2b hKw HNI HXB
      go_enter Tryd.func21, Tryd.ntmps21
      go_upto_region 1 with fail
      go_cut [4, 5] from 9 to 21 (fun a b wc => a = .int .u64 (n : Int) ∧ b = .bool true ∧ Below w.heap.size w wc)
      case first =>
        go_region_with (go_at_call 56; refine hN.mono ?_; rintro e w4 ⟨rfl, rfl⟩)
        all_goals
          go_wp2
          go_meet
          exact ⟨rfl, rfl, hdr⟩
      case rest =>
        obtain ⟨rfl, rfl, b1⟩ := hcut
        obtain ⟨w1, hw1⟩ : ∃ x, x = wc := ⟨_, rfl⟩
        subst hw1
        clear hN d0 d2 hl hdr
        have r1 := HR.out.below b1
        have c3 : w1.cell? ⟨wb, 3, none⟩ = some (.int .u64 (en : Int)) := Row.cell r1 3 (by simp)
        have hl1 := Row.lt r1
        have HX1 : Hid _ := hidden (HX.out.read b1)
        have HR1 : Hid _ := hidden r1
        have HK1 : Hid _ := hidden (HKW.out _ _ b1)
        clear r1 b1 HX HR
        go_wp2
        go_ret2
        exact ⟨rfl, HX1.out, HR1.out, HK1.out⟩
  · have h1f : (nextR h2.cs pl).2 = false := by simpa using h1b
    have hsb : swB h2 pl en = false := by
      unfold swB
      rw [h1f, Bool.false_and]
    obtain ⟨e1, e2, e3, e4⟩ := sw_no p2 hsb
    rw [e1, e2, e3, e4]
    rw [h1f] at hN
    generalize (nextR h2.cs pl).1 = n at *
    have HX : Hid _ := hidden x
    have HR : Hid _ := hidden r
    have HKW : Hid _ := hidden hKw
    clear x r hsb e1 e2 e3 e4 h1b h1f hKw HNI HXB
    go_enter Tryd.func21, Tryd.ntmps21
    go_upto_region 1 with fail
    go_cut [4, 5] from 9 to 21 (fun a b wc => a = .int .u64 (n : Int) ∧ b = .bool false ∧ Below w.heap.size w wc)
    case first =>
      go_region_with (go_at_call 56; refine hN.mono ?_; rintro e w4 ⟨rfl, rfl⟩)
      all_goals
        go_wp2
        go_meet
        exact ⟨rfl, rfl, hdr⟩
    case rest =>
      obtain ⟨rfl, rfl, b1⟩ := hcut
      obtain ⟨w1, hw1⟩ : ∃ x, x = wc := ⟨_, rfl⟩
      subst hw1
      clear hN d0 d2 hl hdr
      have r1 := HR.out.below b1
      have c3 : w1.cell? ⟨wb, 3, none⟩ = some (.int .u64 (en : Int)) := Row.cell r1 3 (by simp)
      have hl1 := Row.lt r1
      have HX1 : Hid _ := hidden (HX.out.read b1)
      have HR1 : Hid _ := hidden r1
      have HK1 : Hid _ := hidden (HKW.out _ _ b1)
      clear r1 b1 HX HR
      go_wp2
      go_ret2
      exact ⟨rfl, HX1.out, HR1.out, HK1.out⟩
end
end Go.Proofs.YtdafpfdmnccelaaDoor
