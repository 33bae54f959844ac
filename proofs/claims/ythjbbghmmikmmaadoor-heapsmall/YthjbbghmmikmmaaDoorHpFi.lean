/- The law's fill: a step on both heaps. -/
import Derived.Test.YthjbbghmmikmmaaDoorHpZ
import Derived.Test.YthjbbghmmikmmaaDoorPick
import Derived.Deep.RegionHeld
import Derived.Deep.CutRange
import Derived.Deep.CutBlock
namespace Go.Proofs.YthjbbghmmikmmaaDoor
open Go.RowKit

section
variable {w0 w : World} {B hb rb : Nat} {h : HSt} {X : Nat → Prop}
set_option maxRecDepth 20000 in
set_option maxHeartbeats 8000000 in
theorem fill_any (x : H2 w0 B w hb rb h h X) (hrb : rb < w.heap.size) (wh sa sb : Int) (ser sv : Nat) (xn : Int) (xs : Nat) (near : Bool) (hok : ser < 18446744073709551616) :
    Calls Tryd.prog 18 #[.pointer (some ⟨hb, 0, none⟩), .pointer (some ⟨rb, 0, none⟩), .agg #[.int .i64 wh, .int .i64 sa, .int .i64 sb, .int .u64 (ser : Int), .int .u64 (sv : Int), .int .i64 xn, .int .u64 (xs : Int), .bool near]] w fun e w' => ∃ h', e = .returned (.bool true) ∧ H2 w0 B w' hb rb h' h' X := by
  have hl := x.ok.last
  have hgB := x.le
  have xb := x.box (.cells #[.int .i64 wh, .int .i64 sa, .int .i64 sb, .int .u64 (ser : Int), .int .u64 (sv : Int), .int .i64 xn, .int .u64 (xs : Int), .bool near] 41)
  have r0 : Row (w.alloc (.cells #[.int .i64 wh, .int .i64 sa, .int .i64 sb, .int .u64 (ser : Int), .int .u64 (sv : Int), .int .i64 xn, .int .u64 (xs : Int), .bool near] 41)) w.heap.size 41 [.int .i64 wh, .int .i64 sa, .int .i64 sb, .int .u64 (ser : Int), .int .u64 (sv : Int), .int .i64 xn, .int .u64 (xs : Int), .bool near] := heap_alloc_new w _
  have hrl := xb.rlast
  have d3 := r0.cell 3 (by simp)
  have d7 := r0.cell 7 (by simp)
  simp only [List.getElem_cons_succ, List.getElem_cons_zero] at d3 d7
  have hg := guardID
  have he := eqID
  go_enter Tryd.func18, Tryd.ntmps18
  go_upto_if 31 with fail
  go_cut [7] from 28 to 48 (fun v7 wc => ∃ (s' : Nat) (A C : Int), v7 = .int .u64 (s' : Int) ∧ s' < 18446744073709551616 ∧ Row wc w.heap.size 41 [.int .i64 wh, .int .i64 A, .int .i64 C, .int .u64 (ser : Int), .int .u64 (sv : Int), .int .i64 xn, .int .u64 (xs : Int), .bool near] ∧ H2 w0 B wc hb rb h h (fun k => X k ∨ k = w.heap.size))
  case first =>
    clear d3 d7
    cases near
    · go_wp2
      go_meet
      exact ⟨ser, sa, sb, rfl, hok, r0, xb⟩
    · have hpa := pickN_lt sa 9 (by omega)
      have hpb := pickN_lt sb 9 (by omega)
      have hr5 : (ser : Int) % 5 = ((ser % 5 : Nat) : Int) := by omega
      generalize ser % 5 = r5 at *
      obtain ⟨N, hN⟩ : ∃ N : Nat, IntKind.u64.wrap ((h.last : Int) - (r5 : Int)) = (N : Int) := ⟨(IntKind.u64.wrap ((h.last : Int) - (r5 : Int))).toNat, by rw [IntKind.wrap_u64]; omega⟩
      have HN : Hid (N < 18446744073709551616) := by
        have e : N < 18446744073709551616 := by
          have e2 := hN
          rw [IntKind.wrap_u64] at e2
          omega
        exact e
      have d1 := r0.cell 1 (by simp)
      have d2 := r0.cell 2 (by simp)
      have f1 := r0.frozen 1
      have f2 := r0.frozen 2
      simp only [List.getElem_cons_succ, List.getElem_cons_zero] at d1 d2
      have HR : Hid (∀ A C : Int, Row (w.alloc (.cells #[.int .i64 wh, .int .i64 A, .int .i64 C, .int .u64 (ser : Int), .int .u64 (sv : Int), .int .i64 xn, .int .u64 (xs : Int), .bool true] 41)) w.heap.size 41 [.int .i64 wh, .int .i64 A, .int .i64 C, .int .u64 (ser : Int), .int .u64 (sv : Int), .int .i64 xn, .int .u64 (xs : Int), .bool true] ∧ H2 w0 B (w.alloc (.cells #[.int .i64 wh, .int .i64 A, .int .i64 C, .int .u64 (ser : Int), .int .u64 (sv : Int), .int .i64 xn, .int .u64 (xs : Int), .bool true] 41)) hb rb h h (fun k => X k ∨ k = w.heap.size)) := fun A C => ⟨heap_alloc_new w _, x.box _⟩
      have hrl2 := fun o => (x.box o).rlast
      have hne : ¬ rb = w.heap.size := by omega
      clear r0 xb x
      go_wp2_with fail
      refine (pick_any sa 9 (by omega) (by omega) _).mono ?_
      rintro e _ ⟨rfl, rfl⟩
      go_wp2_with fail
      refine (pick_any sb 9 (by omega) (by omega) _).mono ?_
      rintro e _ ⟨rfl, rfl⟩
      generalize pickN sa 9 = pa at *
      generalize pickN sb 9 = pb at *
      go_wp2
      go_meet
      obtain ⟨q1, q2⟩ := HR.out ((pa : Int) - 1) ((pb : Int) - 1)
      exact ⟨N, _, _, rfl, HN.out, q1, q2⟩
  case rest =>
    obtain ⟨s', A, C, rfl, hs', r1, x1⟩ := hcut
    clear r0 xb x hrl hl d3 d7
    have hp9 := pickN_lt wh 9 (by omega)
    have HX : Hid (∀ k, X k → (X k ∨ k = w.heap.size)) := fun k e => Or.inl e
    have d0 := r1.cell 0 (by simp)
    have d1 := r1.cell 1 (by simp)
    have d2 := r1.cell 2 (by simp)
    have d4 := r1.cell 4 (by simp)
    have d5 := r1.cell 5 (by simp)
    have d6 := r1.cell 6 (by simp)
    simp only [List.getElem_cons_succ, List.getElem_cons_zero] at d0 d1 d2 d4 d5 d6
    have hA : ∀ (W : World) o, Below W.heap.size W (W.alloc o) := fun W o => (Below.refl _ _).alloc (Nat.le_refl _) o
    have HC : Hid (∀ W, Row W w.heap.size 41 [.int .i64 wh, .int .i64 A, .int .i64 C, .int .u64 (ser : Int), .int .u64 (sv : Int), .int .i64 xn, .int .u64 (xs : Int), .bool near] → W.cell? ⟨w.heap.size, 1, none⟩ = some (.int .i64 A) ∧ W.cell? ⟨w.heap.size, 2, none⟩ = some (.int .i64 C) ∧ W.cell? ⟨w.heap.size, 4, none⟩ = some (.int .u64 (sv : Int)) ∧ W.cell? ⟨w.heap.size, 5, none⟩ = some (.int .i64 xn) ∧ W.cell? ⟨w.heap.size, 6, none⟩ = some (.int .u64 (xs : Int))) := fun W r => ⟨r.cell 1 (by simp), r.cell 2 (by simp), r.cell 4 (by simp), r.cell 5 (by simp), r.cell 6 (by simp)⟩
    have HO : Hid (∀ W h', H2 w0 B W hb rb h' h' (fun k => X k ∨ k = w.heap.size) → H2 w0 B W hb rb h' h' X) := fun W h' y => y.off X (fun k e => Or.inl e)
    generalize w.heap.size = g at *
    go_wp2_with fail
    refine (pick_any wh 9 (by omega) (by omega) _).mono ?_
    rintro e _ ⟨rfl, rfl⟩
    generalize pickN wh 9 = p at *
    have hcase : p = 2 ∨ p = 3 ∨ p = 4 ∨ p = 5 ∨ p = 6 ∨ p = 7 ∨ p = 8 ∨ p = 0 ∨ p = 1 := by omega
    clear hp9
    rcases hcase with rfl | rfl | rfl | rfl | rfl | rfl | rfl | rfl | rfl
    · have hH := x1.hsetRef s' A xn xs hs'
      go_wp2_with fail
      refine hH.mono ?_
      rintro e w2 ⟨rfl, x2, k2⟩
      have r2 := its_row k2 (Or.inr rfl) r1
      clear hH k2 d0 d1 d2 d4 d5 d6 r1 x1
      have e2 := HC.out _ (r2.below (hA w2 (.cells #[.int .i64 (h.setRefR s' A (xn, xs)).1.1, .int .u64 ((h.setRefR s' A (xn, xs)).1.2 : Int)] 31)))
      obtain ⟨d1, _, _, d5, d6⟩ := e2
      have t2 : Row (w2.alloc (.cells #[.int .i64 (h.setRefR s' A (xn, xs)).1.1, .int .u64 ((h.setRefR s' A (xn, xs)).1.2 : Int)] 31)) w2.heap.size 31 [.int .i64 (h.setRefR s' A (xn, xs)).1.1, .int .u64 ((h.setRefR s' A (xn, xs)).1.2 : Int)] := heap_alloc_new w2 _
      have hR := (x2.box (.cells #[.int .i64 (h.setRefR s' A (xn, xs)).1.1, .int .u64 ((h.setRefR s' A (xn, xs)).1.2 : Int)] 31)).rsetRef s' A xn xs
      generalize (h.setRefR s' A (xn, xs)) = R at *
      have hz2 : g < w2.heap.size := r2.lt
      go_wp2_with fail
      refine hR.mono ?_
      rintro e w3 ⟨rfl, x3, k3⟩
      have t3 := its_row k3 (Or.inr rfl) t2
      have hz3 := t3.lt
      have u0 := t3.cell 0 (by simp)
      have u1 := t3.cell 1 (by simp)
      simp only [List.getElem_cons_succ, List.getElem_cons_zero] at u0 u1
      have HH : Hid _ := hidden ((x3.off (fun k => X k ∨ k = g) (fun k e => Or.inl e)).read (hA w3 (.cells #[.int .i64 R.1.1, .int .u64 (R.1.2 : Int)] 31)))
      clear t2 t3 k3 x3 x2 r2 hR
      generalize w2.heap.size = g2 at *
      obtain ⟨⟨R1, R2⟩, R3⟩ := R
      simp only at u0 u1 HH
      have hq1 : (R1 == R1) = true := beq_self_eq_true _
      have hq2 : ((R2 : Int) == (R2 : Int)) = true := beq_self_eq_true _
      have hq3 : ((R3 : Int) == (R3 : Int)) = true := beq_self_eq_true _
      go_wp2
      go_ret
      exact ⟨_, rfl, HO.out _ _ HH.out⟩
    · have hH := fun W h2 (y : H2 w0 B W hb rb h h2 (fun k => X k ∨ k = g)) => y.hsetVal s' A sv hs'
      have hR := fun W h1 (y : H2 w0 B W hb rb h1 h (fun k => X k ∨ k = g)) => y.rsetVal s' A sv
      have x1d := x1.read ((Below.refl _ _).drew)
      have r1d := r1.below ((Below.refl _ _).drew)
      generalize (h.setValS s' A sv) = S at *
      generalize (h.setValR s' A) = R at *
      have hq3 : ((R : Int) == (R : Int)) = true := beq_self_eq_true _
      go_wp2
      go_region_held (fun W => W.cell? ⟨g, 1, none⟩ = some (.int .i64 A) ∧ W.cell? ⟨g, 4, none⟩ = some (.int .u64 (sv : Int))) (go_keep) (first
        | (go_at_call 21; refine (hH _ _ x1d).mono ?_; rintro e w2 ⟨rfl, x2, k2⟩; have r2 := its_row k2 (Or.inr rfl) r1d; obtain ⟨v1, _, v4, _, _⟩ := HC.out _ r2)
        | (go_at_call 21; refine (hH _ _ x3).mono ?_; rintro e w2 ⟨rfl, x2, k2⟩; have r2 := its_row k2 (Or.inr rfl) r3; obtain ⟨z1, _, z4, _, _⟩ := HC.out _ r2)
        | (go_at_call 32; refine (hR _ _ x2).mono ?_; rintro e w3 ⟨rfl, x3, k3⟩; have r3 := its_row k3 (Or.inr rfl) r2; obtain ⟨z1, _, z4, _, _⟩ := HC.out _ r3)
        | (go_at_call 32; refine (hR _ _ x1d).mono ?_; rintro e w3 ⟨rfl, x3, k3⟩; have r3 := its_row k3 (Or.inr rfl) r1d; obtain ⟨v1, _, v4, _, _⟩ := HC.out _ r3))
      all_goals
        go_wp2
        go_ret
        first
          | exact ⟨_, rfl, HO.out _ _ x3⟩
          | exact ⟨_, rfl, HO.out _ _ x2⟩
    · have hH := fun W h2 (y : H2 w0 B W hb rb h h2 (fun k => X k ∨ k = g)) => y.hsetIn s' A hs'
      have hR := fun W h1 (y : H2 w0 B W hb rb h1 h (fun k => X k ∨ k = g)) => y.rsetIn s' A
      have x1d := x1.read ((Below.refl _ _).drew)
      have r1d := r1.below ((Below.refl _ _).drew)
      generalize (h.setInS s' A) = S at *
      generalize (h.setInR s' A) = R at *
      have hq3 : ((R : Int) == (R : Int)) = true := beq_self_eq_true _
      go_wp2
      go_region_held (fun W => W.cell? ⟨g, 1, none⟩ = some (.int .i64 A)) (go_keep) (first
        | (go_at_call 33; refine (hH _ _ x1d).mono ?_; rintro e w2 ⟨rfl, x2, k2⟩; have r2 := its_row k2 (Or.inr rfl) r1d; obtain ⟨v1, _, v4, _, _⟩ := HC.out _ r2)
        | (go_at_call 33; refine (hH _ _ x3).mono ?_; rintro e w2 ⟨rfl, x2, k2⟩; have r2 := its_row k2 (Or.inr rfl) r3; obtain ⟨z1, _, z4, _, _⟩ := HC.out _ r2)
        | (go_at_call 34; refine (hR _ _ x2).mono ?_; rintro e w3 ⟨rfl, x3, k3⟩; have r3 := its_row k3 (Or.inr rfl) r2; obtain ⟨z1, _, z4, _, _⟩ := HC.out _ r3)
        | (go_at_call 34; refine (hR _ _ x1d).mono ?_; rintro e w3 ⟨rfl, x3, k3⟩; have r3 := its_row k3 (Or.inr rfl) r1d; obtain ⟨v1, _, v4, _, _⟩ := HC.out _ r3))
      all_goals
        go_wp2
        go_ret
        first
          | exact ⟨_, rfl, HO.out _ _ x3⟩
          | exact ⟨_, rfl, HO.out _ _ x2⟩
    · have hH := x1.hfree s' hs'
      have hR := fun W (y : H2 w0 B W hb rb (h.freeS s') h (fun k => X k ∨ k = g)) => y.rfree s'
      generalize (h.freeR s') = R at *
      go_wp2_with fail
      refine hH.mono ?_
      rintro e w2 ⟨rfl, x2, k2⟩
      have r2 := its_row k2 (Or.inr rfl) r1
      clear hH k2 d0 d1 d2 d4 d5 d6 r1 x1
      obtain ⟨d1, d2, _⟩ := HC.out _ r2
      go_wp2_with fail
      refine (hR _ x2).mono ?_
      rintro e w3 ⟨rfl, x3, _⟩
      have HH : Hid _ := hidden x3
      clear hR x3 x2 r2
      have hq3 : ((R : Int) == (R : Int)) = true := beq_self_eq_true _
      go_wp2
      go_ret
      exact ⟨_, rfl, HO.out _ _ HH.out⟩
    · have hH := x1.href s' A hs'
      go_wp2_with fail
      refine hH.mono ?_
      rintro e w2 ⟨rfl, x2, k2⟩
      have r2 := its_row k2 (Or.inr rfl) r1
      clear hH k2 d0 d1 d2 d4 d5 d6 r1 x1
      have e2 := HC.out _ (r2.below (hA w2 (.cells #[.int .i64 (refR h.cs s' A).1.1, .int .u64 ((refR h.cs s' A).1.2 : Int)] 31)))
      obtain ⟨d1, _, _, d5, d6⟩ := e2
      have t2 : Row (w2.alloc (.cells #[.int .i64 (refR h.cs s' A).1.1, .int .u64 ((refR h.cs s' A).1.2 : Int)] 31)) w2.heap.size 31 [.int .i64 (refR h.cs s' A).1.1, .int .u64 ((refR h.cs s' A).1.2 : Int)] := heap_alloc_new w2 _
      have hR := (x2.box (.cells #[.int .i64 (refR h.cs s' A).1.1, .int .u64 ((refR h.cs s' A).1.2 : Int)] 31)).rref s' A
      generalize (refR h.cs s' A) = R at *
      have hz2 : g < w2.heap.size := r2.lt
      go_wp2_with fail
      refine hR.mono ?_
      rintro e w3 ⟨rfl, x3, k3⟩
      have t3 := its_row k3 (Or.inr rfl) t2
      have hz3 := t3.lt
      have u0 := t3.cell 0 (by simp)
      have u1 := t3.cell 1 (by simp)
      simp only [List.getElem_cons_succ, List.getElem_cons_zero] at u0 u1
      have HH : Hid _ := hidden ((x3.off (fun k => X k ∨ k = g) (fun k e => Or.inl e)).read (hA w3 (.cells #[.int .i64 R.1.1, .int .u64 (R.1.2 : Int)] 31)))
      clear t2 t3 k3 x3 x2 r2 hR
      generalize w2.heap.size = g2 at *
      obtain ⟨⟨R1, R2⟩, R3⟩ := R
      simp only at u0 u1 HH
      have hq1 : (R1 == R1) = true := beq_self_eq_true _
      have hq2 : ((R2 : Int) == (R2 : Int)) = true := beq_self_eq_true _
      have hq3 : ((R3 : Int) == (R3 : Int)) = true := beq_self_eq_true _
      go_wp2
      go_ret
      exact ⟨_, rfl, HO.out _ _ HH.out⟩
    · have hH := x1.hval s' A hs'
      have hR := fun W (y : H2 w0 B W hb rb h h (fun k => X k ∨ k = g)) => y.rval s' A
      generalize (valR h.cs s' A) = R at *
      go_wp2_with fail
      refine hH.mono ?_
      rintro e w2 ⟨rfl, x2, k2⟩
      have r2 := its_row k2 (Or.inr rfl) r1
      clear hH k2 d0 d1 d2 d4 d5 d6 r1 x1
      obtain ⟨d1, d2, _⟩ := HC.out _ r2
      go_wp2_with fail
      refine (hR _ x2).mono ?_
      rintro e w3 ⟨rfl, x3, _⟩
      have HH : Hid _ := hidden x3
      clear hR x3 x2 r2
      obtain ⟨R1, R2⟩ := R
      have hq1 : ((R1 : Int) == (R1 : Int)) = true := beq_self_eq_true _
      have hq2 : ((R2 : Int) == (R2 : Int)) = true := beq_self_eq_true _
      go_wp2
      go_ret
      exact ⟨_, rfl, HO.out _ _ HH.out⟩
    · have hH := x1.hnext s'
      have hR := fun W (y : H2 w0 B W hb rb h h (fun k => X k ∨ k = g)) => y.rnext s'
      generalize (nextR h.cs s') = R at *
      go_wp2_with fail
      refine hH.mono ?_
      rintro e w2 ⟨rfl, x2, k2⟩
      have r2 := its_row k2 (Or.inr rfl) r1
      clear hH k2 d0 d1 d2 d4 d5 d6 r1 x1
      obtain ⟨d1, d2, _⟩ := HC.out _ r2
      go_wp2_with fail
      refine (hR _ x2).mono ?_
      rintro e w3 ⟨rfl, x3, _⟩
      have HH : Hid _ := hidden x3
      clear hR x3 x2 r2
      obtain ⟨R1, R2⟩ := R
      have hq1 : ((R1 : Int) == (R1 : Int)) = true := beq_self_eq_true _
      have hq2 : (R2 == R2) = true := beq_self_eq_true _
      go_wp2
      go_ret
      exact ⟨_, rfl, HO.out _ _ HH.out⟩
    · have hH := x1.hmake A C
      have hR := fun W (y : H2 w0 B W hb rb (h.makeS A C) h (fun k => X k ∨ k = g)) => y.rmake A C
      generalize (h.makeR A C) = R at *
      go_wp2_with fail
      refine hH.mono ?_
      rintro e w2 ⟨rfl, x2, k2⟩
      have r2 := its_row k2 (Or.inr rfl) r1
      clear hH k2 d0 d1 d2 d4 d5 d6 r1 x1
      obtain ⟨d1, d2, _⟩ := HC.out _ r2
      go_wp2_with fail
      refine (hR _ x2).mono ?_
      rintro e w3 ⟨rfl, x3, _⟩
      have HH : Hid _ := hidden x3
      clear hR x3 x2 r2
      obtain ⟨R1, R2⟩ := R
      have hq1 : ((R1 : Int) == (R1 : Int)) = true := beq_self_eq_true _
      have hq2 : ((R2 : Int) == (R2 : Int)) = true := beq_self_eq_true _
      go_wp2
      go_ret
      exact ⟨_, rfl, HO.out _ _ HH.out⟩
    · have hH := x1.hmake A C
      have hR := fun W (y : H2 w0 B W hb rb (h.makeS A C) h (fun k => X k ∨ k = g)) => y.rmake A C
      generalize (h.makeR A C) = R at *
      go_wp2_with fail
      refine hH.mono ?_
      rintro e w2 ⟨rfl, x2, k2⟩
      have r2 := its_row k2 (Or.inr rfl) r1
      clear hH k2 d0 d1 d2 d4 d5 d6 r1 x1
      obtain ⟨d1, d2, _⟩ := HC.out _ r2
      go_wp2_with fail
      refine (hR _ x2).mono ?_
      rintro e w3 ⟨rfl, x3, _⟩
      have HH : Hid _ := hidden x3
      clear hR x3 x2 r2
      obtain ⟨R1, R2⟩ := R
      have hq1 : ((R1 : Int) == (R1 : Int)) = true := beq_self_eq_true _
      have hq2 : ((R2 : Int) == (R2 : Int)) = true := beq_self_eq_true _
      go_wp2
      go_ret
      exact ⟨_, rfl, HO.out _ _ HH.out⟩
end

end Go.Proofs.YthjbbghmmikmmaaDoor
