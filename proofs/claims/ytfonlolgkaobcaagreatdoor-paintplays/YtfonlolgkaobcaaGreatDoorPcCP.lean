import Derived.Test.YtfonlolgkaobcaaGreatDoorPbY0P
import Derived.Test.YtfonlolgkaobcaaGreatDoorPick
import Derived.Deep.CutRange
import Derived.Deep.CutBlock
import Derived.Deep.RegionHeld
import Derived.BigQuiet
/- PaintPlays, walked. -/
/- PaintPlays, of a stack of any size. -/
namespace Go.Proofs.YtfonlolgkaobcaaGreatDoor
open Go.RowKit

set_option maxRecDepth 20000 in
set_option maxHeartbeats 400000 in
theorem paintPlays_no {w : World} {vr vo vi : Value} {g : Gr} (most : Int) (hm : most < 1 ∨ 64 < most) (x : GI w vr vo vi g) (hT : TB w) (vl : Value) :
    Calls Tryz.prog 3 #[.agg #[vr, vo, vi], .int .i64 most, vl] w fun e w' => e = .returned (.bool true) ∧ Below w.heap.size w w' := by
  obtain ⟨a1, c1, a2, c2, a3, c3, e1, e2, e3⟩ := x.shape
  have hA : ∀ o, Below w.heap.size w (w.alloc o) := fun o => bel_alloc w o
  have hHp := fun o => heaps_any (x.below (hA o)) (hT.below (hA o))
  rw [e1, e2, e3] at hHp ⊢
  clear x e1 e2 e3
  have hN := fun hb W => pnew_no hb most hm W
  have hm2 : most < 1 ∨ (¬ most < 1 ∧ 64 < most) := by omega
  clear hm
  go_enter Tryz.func3, Tryz.ntmps3
  go_wp2_with fail
  refine (hHp _).mono ?_
  rintro e w1 ⟨hb, rb, h, rfl, y1, m1⟩
  obtain ⟨wA, hwA⟩ : ∃ z, z = w.alloc (.cells #[.slice a1 g.refs.length c1, .slice a2 g.out.length c2, .slice a3 g.inn.length c3] 26) := ⟨_, rfl⟩
  rw [← hwA] at y1
  have hbA : Below w.heap.size w wA := by rw [hwA]; exact hA _
  have hTA : TB wA := hT.below hbA
  clear hHp hwA hA hT m1
  go_wp2_with fail
  refine (pknown_any _ (hTA.below (y1.bel.mono (Nat.le_refl _)))).mono ?_
  rintro e w2 ⟨rfl, b2⟩
  have HB : Hid (Below w.heap.size w w2) := hbA.trans (((y1.read b2).bel).mono hbA.size)
  clear y1 b2 hTA hbA
  go_wp2_with fail
  refine (hN _ _).mono ?_
  rintro e _ ⟨rfl, rfl⟩
  clear hN
  rcases hm2 with h1 | ⟨h1, h2⟩
  all_goals
    go_wp2
    go_ret
    exact ⟨rfl, HB.out⟩

set_option maxRecDepth 20000 in
set_option maxHeartbeats 4000000 in
theorem paintPlays_ok {w : World} {vr vo vi vl : Value} {g : Gr} {xs : List StepP} (M : Nat) (hM1 : 1 ≤ M) (hM2 : M ≤ 64) (x : GI w vr vo vi g) (hT : TB w) (hl : WS w vl 6 cStepP xs) (hR : ∀ y ∈ xs, y.Ok) :
    Calls Tryz.prog 3 #[.agg #[vr, vo, vi], .int .i64 (M : Int), vl] w fun e w' => e = .returned (.bool true) ∧ Below w.heap.size w w' := by
  obtain ⟨a1, c1, a2, c2, a3, c3, e1, e2, e3⟩ := x.shape
  obtain ⟨ao, cap, rfl, _, _⟩ := hl.slice
  have hA : ∀ o, Below w.heap.size w (w.alloc o) := fun o => bel_alloc w o
  have hHp := fun o => heaps_any (x.below (hA o)) (hT.below (hA o))
  have HWS : Hid _ := hidden hl
  have HOK : Hid _ := hidden hR
  rw [e1, e2, e3] at hHp ⊢
  clear x e1 e2 e3 hl hR
  have hNw := fun hb B W (hB : B ≤ W.heap.size) => pnew_ok hb B M hM1 hM2 W hB
  have hNq := fun rb B W (hB : B ≤ W.heap.size) => rnewp_any M hM1 hM2 rb B W hB
  have hm1 : ¬ (M : Int) < 1 := by omega
  have hm2 : ¬ 64 < (M : Int) := by omega
  clear hM1 hM2
  go_enter Tryz.func3, Tryz.ntmps3
  go_wp2_with fail
  refine (hHp _).mono ?_
  rintro e w1 ⟨hb, rb, h, rfl, y1, m1⟩
  obtain ⟨wA, hwA⟩ : ∃ z, z = w.alloc (.cells #[.slice a1 g.refs.length c1, .slice a2 g.out.length c2, .slice a3 g.inn.length c3] 26) := ⟨_, rfl⟩
  rw [← hwA] at y1
  have hbA : Below w.heap.size w wA := by rw [hwA]; exact hA _
  have hTA : TB wA := hT.below hbA
  clear hHp hwA hA hT
  have HK0 : Hid (PK h (PSt.new M) 0) := PK.new M (by have := m1.last; omega)
  clear m1
  go_wp2_with fail
  refine (pknown_any _ (hTA.below (y1.bel.mono (Nat.le_refl _)))).mono ?_
  rintro e w2 ⟨rfl, b2⟩
  have y2 := y1.read b2
  clear y1 b2
  go_wp2_with fail
  refine (hNw _ wA.heap.size _ y2.le).mono ?_
  rintro e w3 ⟨pb, G, rfl, pn, hG, b3⟩
  clear hNw
  go_wp2_with fail
  refine (hNq rb wA.heap.size _ (Nat.le_trans y2.le b3.size)).mono ?_
  rintro e w4 ⟨rfl, q4, b4⟩
  have HZ : Hid _ := hidden (y2.p4 pn hG b3 q4 b4)
  have HWA : Hid (∀ W : World, Below wA.heap.size wA W → Below w.heap.size w W) := fun W hB => hbA.trans (hB.mono hbA.size)
  clear hNq y2 pn hG b3 q4 b4 hTA hbA
  generalize w3.heap.size = qb at *
  go_wp2
  go_loopw [12, 13, 14, 15, 16, 17, 18] (fun t _ _ _ _ _ _ wr => ∃ (i : Nat) (h : HSt) (p : PSt), i ≤ 120 ∧ t = .int .i64 (i : Int) ∧ PK h p i ∧ P4 wA wA.heap.size wr hb rb pb qb h h p p (fun _ => False)) (fun t _ _ _ _ _ _ _ => 120 - (intOf t).toNat)
  case atStart => exact ⟨0, h, _, by omega, rfl, HK0.out, HZ.out⟩
  case round =>
    clear HZ HK0
    obtain ⟨i, h, p, hi, rfl, K, z⟩ := hrel
    by_cases hlt : i < xs.length ∧ i < 120
    · obtain ⟨hl1, hl2⟩ := hlt
      have hws := HWS.out.below (w' := wr) (HWA.out _ z.bel)
      obtain ⟨b, off, rfl, hbw, q0, q1, q2, q3, q4, q5⟩ := hws.stepP i hl1
      have hokx := HOK.out _ (List.getElem_mem hl1)
      have hlti : (i : Int) < (xs.length : Int) := by omega
      have hlt120 : (i : Int) < 120 := by omega
      generalize xs[i] = st at *
      obtain ⟨what, rank, ser, xn, xs', near⟩ := st
      simp only at q0 q1 q2 q3 q4 q5
      have HS : Hid (ser < 18446744073709551616) := hidden hokx.1
      have HX : Hid (xs' < 18446744073709551616) := hidden hokx.2
      have HL : Hid (i + 1 ≤ 120) := hl2
      have zb : P4 wA wA.heap.size (wr.alloc (.cells #[.int .i64 what, .int .i64 rank, .int .u64 (ser : Int), .int .i64 xn, .int .u64 (xs' : Int), .bool near] 43)) hb rb pb qb h h p p (fun k => k = wr.heap.size) := (z.box _).off _ (fun k e => Or.inr e)
      have r0 : Row (wr.alloc (.cells #[.int .i64 what, .int .i64 rank, .int .u64 (ser : Int), .int .i64 xn, .int .u64 (xs' : Int), .bool near] 43)) wr.heap.size 43 [.int .i64 what, .int .i64 rank, .int .u64 (ser : Int), .int .i64 xn, .int .u64 (xs' : Int), .bool near] := heap_alloc_new wr _
      have HBg : Hid (wA.heap.size ≤ wr.heap.size) := hidden z.le
      have HK : Hid _ := hidden K
      have HZB : Hid _ := hidden zb
      have HR0 : Hid _ := hidden r0
      clear z hokx hws hl1 hl2 K zb r0 hi
      go_upto_if 72 with fail
      generalize (wr.alloc (.cells #[.int .i64 what, .int .i64 rank, .int .u64 (ser : Int), .int .i64 xn, .int .u64 (xs' : Int), .bool near] 43)) = w5 at *
      generalize wr.heap.size = g5 at *
      clear q0 q1 q2 q3 q4 q5 hbw
      go_cut [13] from 71 to 85 (fun t wc => t = .pointer (some ⟨g5, 0, none⟩) ∧ ∃ (s' : Nat) (a' : Int) (n' : Nat), s' < 18446744073709551616 ∧ Row wc g5 43 [.int .i64 what, .int .i64 rank, .int .u64 (s' : Int), .int .i64 a', .int .u64 (n' : Int), .bool near] ∧ P4 wA wA.heap.size wc hb rb pb qb h h p p (fun k => k = g5))
      case first =>
        cases near with
        | false =>
          go_wp2
          go_meet
          exact ⟨rfl, ser, xn, xs', HS.out, HR0.out, HZB.out⟩
        | true =>
          obtain ⟨d0, d1, d2, d3, d4, d5⟩ := boxed6 HR0.out
          have f2 := HR0.out.frozen 2
          have hgl := HR0.out.lt
          have hc := HZB.out.last
          have hrl := cell_lt hc
          obtain ⟨N, hN⟩ : ∃ N, N = h.last := ⟨_, rfl⟩
          rw [← hN] at hc
          have hN2 : N ≤ 1000 := by have := HK.out.la; omega
          obtain ⟨q, hq⟩ : ∃ q, q = ser % (N + 2) := ⟨_, rfl⟩
          obtain ⟨D, hDN⟩ : ∃ D, D = N + 2 := ⟨_, rfl⟩
          have hq64 : q < 18446744073709551616 := by have := Nat.mod_le ser (N + 2); have := HS.out; omega
          have HQ64 : Hid (q < 18446744073709551616) := hidden hq64
          have hadd : (N : Int) + 2 = (D : Int) := by omega
          have hrem : (ser : Int).tmod (D : Int) = (q : Int) := by rw [hq, hDN]; rfl
          have hrem2 : (ser : Int) % (D : Int) = (q : Int) := by rw [hq, hDN]; rfl
          have hne : ((D : Int) == 0) = false := by rw [beq_eq_false_iff_ne]; omega
          have hne2 : ¬ (D : Int) = 0 := by omega
          have hne3 : ¬ D = 0 := by omega
          have hwA : IntKind.u64.wrap ((N : Int) + 2) = (D : Int) := by rw [IntKind.wrap_u64]; omega
          have hwB : ((N : Int) + 2) % 18446744073709551616 = (D : Int) := by omega
          clear hq hDN hq64 hN2 hN hadd d0 d1 d3 d4
          go_upto_region 15 with fail
          go_cut [13] from 73 to 81 (fun t wc => t = .pointer (some ⟨g5, 0, none⟩) ∧ Row wc g5 43 [.int .i64 what, .int .i64 rank, .int .u64 (q : Int), .int .i64 xn, .int .u64 (xs' : Int), .bool true] ∧ P4 wA wA.heap.size wc hb rb pb qb h h p p (fun k => k = g5))
          case first =>
            go_region
            all_goals
              go_wp2
              go_meet
              exact ⟨rfl, (HR0.out.set 2 _).below ((Below.refl _ _).drew), (HZB.out.set HBg.out 2 _).read ((Below.refl _ _).drew)⟩
          case rest =>
            obtain ⟨rfl, r6, z6⟩ := hcut
            obtain ⟨w6, hw6⟩ : ∃ x, x = wc := ⟨_, rfl⟩
            subst hw6
            clear d2 d5 f2 hgl hc hrl hrem hrem2 hne hne2 hne3 hwA hwB HR0 HZB
            obtain ⟨d0, d1, d2, d3, d4, d5⟩ := boxed6 r6
            have f3 := r6.frozen 3
            have f4 := r6.frozen 4
            have hgl := r6.lt
            have HR6 : Hid _ := hidden ((r6.set 3 (.int .i64 1)).set 4 (.int .u64 (q : Int)))
            have HZ6 : Hid _ := hidden ((z6.set HBg.out 3 (.int .i64 1)).set HBg.out 4 (.int .u64 (q : Int)))
            clear r6 z6
            go_wp2
            go_meet
            exact ⟨rfl, q, 1, q, HQ64.out, HR6.out, HZ6.out⟩
      case rest =>
        obtain ⟨rfl, s', a', n', hs', r1, x1⟩ := hcut
        obtain ⟨w6, hw6⟩ : ∃ x, x = wc := ⟨_, rfl⟩
        subst hw6
        clear HR0 HZB HS HX
        obtain ⟨d0, d1, d2, d3, d4, d5⟩ := boxed6 r1
        have hgl := r1.lt
        have hP := fun W => pick_any what 12 (by omega) (by omega) W
        have hk12 := pickN_lt what 12 (by omega)
        generalize pickN what 12 = k at *
        have HS' : Hid _ := hidden hs'
        have HR1 : Hid _ := hidden r1
        have HX1 : Hid _ := hidden x1
        have HO : Hid _ := hidden x1.okh
        clear hs' r1 x1
        go_upto_block 2 with (go_at_call 8; refine (hP _).mono ?_; rintro e _ ⟨rfl, rfl⟩)
        clear hP
        go_cut [14, 15, 16, 17, 18] from 86 to 197 (fun ok _ _ _ _ wc => ok = .bool true ∧ ∃ (h' : HSt) (p' : PSt), PK h' p' (i + 1) ∧ P4 wA wA.heap.size wc hb rb pb qb h' h' p' p' (fun k => k = g5))
        case first =>
          have hcase : k = 0 ∨ k = 1 ∨ k = 2 ∨ k = 3 ∨ k = 4 ∨ k = 5 ∨ k = 6 ∨ k = 7 ∨ k = 8 ∨ k = 9 ∨ k = 10 ∨ k = 11 := by omega
          clear hk12
          rcases hcase with rfl | rfl | rfl | rfl | rfl | rfl | rfl | rfl | rfl | rfl | rfl | rfl
          · have hH := HX1.out.shade a' n' rank
            have hR := fun W (y : P4 wA wA.heap.size W hb rb pb qb h h (p.shade h (a', n') rank) p (fun k => k = g5)) => y.rshade HK.out.pi (by have := HL.out; omega) a' n' rank
            have HK' : Hid (PK h (p.shade h (a', n') rank) (i + 1)) := HK.out.shade HO.out (a', n') rank
            generalize (p.shade h (a', n') rank) = p' at *
            go_wp2_with fail
            refine hH.mono ?_
            rintro e w7 ⟨rfl, x7, k7⟩
            have r7 := its_row k7 rfl HR1.out
            clear hH k7 d0 d1 d2 d3 d4 d5 hgl
            obtain ⟨d0, d1, d2, d3, d4, d5⟩ := boxed6 r7
            have hgl := r7.lt
            go_wp2_with fail
            refine (hR _ x7).mono ?_
            rintro e w8 ⟨rfl, x8, k8⟩
            have HX8 : Hid _ := hidden x8
            clear hR k8 x7 x8 r7
            go_wp2
            go_meet
            exact ⟨rfl, h, p', HK'.out, HX8.out⟩
          · have hH := HX1.out.shade a' n' rank
            have hR := fun W (y : P4 wA wA.heap.size W hb rb pb qb h h (p.shade h (a', n') rank) p (fun k => k = g5)) => y.rshade HK.out.pi (by have := HL.out; omega) a' n' rank
            have HK' : Hid (PK h (p.shade h (a', n') rank) (i + 1)) := HK.out.shade HO.out (a', n') rank
            generalize (p.shade h (a', n') rank) = p' at *
            go_wp2_with fail
            refine hH.mono ?_
            rintro e w7 ⟨rfl, x7, k7⟩
            have r7 := its_row k7 rfl HR1.out
            clear hH k7 d0 d1 d2 d3 d4 d5 hgl
            obtain ⟨d0, d1, d2, d3, d4, d5⟩ := boxed6 r7
            have hgl := r7.lt
            go_wp2_with fail
            refine (hR _ x7).mono ?_
            rintro e w8 ⟨rfl, x8, k8⟩
            have HX8 : Hid _ := hidden x8
            clear hR k8 x7 x8 r7
            go_wp2
            go_meet
            exact ⟨rfl, h, p', HK'.out, HX8.out⟩
          · have hH := HX1.out.shade a' n' rank
            have hR := fun W (y : P4 wA wA.heap.size W hb rb pb qb h h (p.shade h (a', n') rank) p (fun k => k = g5)) => y.rshade HK.out.pi (by have := HL.out; omega) a' n' rank
            have HK' : Hid (PK h (p.shade h (a', n') rank) (i + 1)) := HK.out.shade HO.out (a', n') rank
            generalize (p.shade h (a', n') rank) = p' at *
            go_wp2_with fail
            refine hH.mono ?_
            rintro e w7 ⟨rfl, x7, k7⟩
            have r7 := its_row k7 rfl HR1.out
            clear hH k7 d0 d1 d2 d3 d4 d5 hgl
            obtain ⟨d0, d1, d2, d3, d4, d5⟩ := boxed6 r7
            have hgl := r7.lt
            go_wp2_with fail
            refine (hR _ x7).mono ?_
            rintro e w8 ⟨rfl, x8, k8⟩
            have HX8 : Hid _ := hidden x8
            clear hR k8 x7 x8 r7
            go_wp2
            go_meet
            exact ⟨rfl, h, p', HK'.out, HX8.out⟩
          · have hH := fun W p2 (y : P4 wA wA.heap.size W hb rb pb qb h h p p2 (fun k => k = g5)) => y.scan s' HS'.out
            have hR := fun W p1 (y : P4 wA wA.heap.size W hb rb pb qb h h p1 p (fun k => k = g5)) => y.rscan HK.out.pi (by have := HL.out; omega) s'
            have HK' : Hid (PK h (p.scan h s') (i + 1)) := HK.out.scan HO.out s'
            generalize (p.scan h s') = p' at *
            generalize (scanR h p s') = R at *
            have x1d := HX1.out.read ((Below.refl _ _).drew)
            have r1d := HR1.out.below ((Below.refl _ _).drew)
            have hq3 : (R == R) = true := beq_self_eq_true _
            go_wp2
            go_region_held (fun W => W.cell? ⟨g5, 2, none⟩ = some (.int .u64 (s' : Int))) (go_keep) (first
              | (go_at_call 9; refine (hH _ _ x1d).mono ?_; rintro e w2 ⟨rfl, x2, k2⟩; have r2 := its_row k2 rfl r1d; obtain ⟨_, _, v2, _, _, _⟩ := boxed6 r2)
              | (go_at_call 9; refine (hH _ _ x3).mono ?_; rintro e w2 ⟨rfl, x2, k2⟩; have r2 := its_row k2 rfl r3; obtain ⟨_, _, z2, _, _, _⟩ := boxed6 r2)
              | (go_at_call 10; refine (hR _ _ x2).mono ?_; rintro e w3 ⟨rfl, x3, k3⟩; have r3 := its_row k3 rfl r2; obtain ⟨_, _, z2, _, _, _⟩ := boxed6 r3)
              | (go_at_call 10; refine (hR _ _ x1d).mono ?_; rintro e w3 ⟨rfl, x3, k3⟩; have r3 := its_row k3 rfl r1d; obtain ⟨_, _, v2, _, _, _⟩ := boxed6 r3))
            all_goals
              go_wp2
              go_meet
              first
                | exact ⟨rfl, h, p', HK'.out, x3⟩
                | exact ⟨rfl, h, p', HK'.out, x2⟩
          · have hH := fun W p2 (y : P4 wA wA.heap.size W hb rb pb qb h h p p2 (fun k => k = g5)) => y.scan s' HS'.out
            have hR := fun W p1 (y : P4 wA wA.heap.size W hb rb pb qb h h p1 p (fun k => k = g5)) => y.rscan HK.out.pi (by have := HL.out; omega) s'
            have HK' : Hid (PK h (p.scan h s') (i + 1)) := HK.out.scan HO.out s'
            generalize (p.scan h s') = p' at *
            generalize (scanR h p s') = R at *
            have x1d := HX1.out.read ((Below.refl _ _).drew)
            have r1d := HR1.out.below ((Below.refl _ _).drew)
            have hq3 : (R == R) = true := beq_self_eq_true _
            go_wp2
            go_region_held (fun W => W.cell? ⟨g5, 2, none⟩ = some (.int .u64 (s' : Int))) (go_keep) (first
              | (go_at_call 9; refine (hH _ _ x1d).mono ?_; rintro e w2 ⟨rfl, x2, k2⟩; have r2 := its_row k2 rfl r1d; obtain ⟨_, _, v2, _, _, _⟩ := boxed6 r2)
              | (go_at_call 9; refine (hH _ _ x3).mono ?_; rintro e w2 ⟨rfl, x2, k2⟩; have r2 := its_row k2 rfl r3; obtain ⟨_, _, z2, _, _, _⟩ := boxed6 r2)
              | (go_at_call 10; refine (hR _ _ x2).mono ?_; rintro e w3 ⟨rfl, x3, k3⟩; have r3 := its_row k3 rfl r2; obtain ⟨_, _, z2, _, _, _⟩ := boxed6 r3)
              | (go_at_call 10; refine (hR _ _ x1d).mono ?_; rintro e w3 ⟨rfl, x3, k3⟩; have r3 := its_row k3 rfl r1d; obtain ⟨_, _, v2, _, _, _⟩ := boxed6 r3))
            all_goals
              go_wp2
              go_meet
              first
                | exact ⟨rfl, h, p', HK'.out, x3⟩
                | exact ⟨rfl, h, p', HK'.out, x2⟩
          · have hH := HX1.out.pop
            have hR := fun W (y : P4 wA wA.heap.size W hb rb pb qb h h p.pop p (fun k => k = g5)) => y.rpop
            have hs64 := SB.popR HK.out.st
            have HKP : Hid (PI p.pop (i * 20)) := ⟨HK.out.pi.nd, HK.out.pi.nm, HK.out.pi.ml, HK.out.pi.el⟩
            have HK' : Hid (PK h (p.pop.scan h (popR p).1) (i + 1)) := HK.out.pops HO.out (popR p).1
            generalize popR p = R at *
            obtain ⟨s0, R2⟩ := R
            simp only at hH hR hs64 HK'
            have hS1 := fun W p2 (y : P4 wA wA.heap.size W hb rb pb qb h h p.pop p2 (fun k => k = g5)) => y.scan s0 hs64
            have hS2 := fun W p1 (y : P4 wA wA.heap.size W hb rb pb qb h h p1 p.pop (fun k => k = g5)) => y.rscan HKP.out (by have := HL.out; omega) s0
            generalize (p.pop.scan h s0) = p' at *
            generalize (scanR h p.pop s0) = R3 at *
            generalize p.pop = pp at *
            have hq1 : ((s0 : Int) == (s0 : Int)) = true := beq_self_eq_true _
            have hq2 : (R2 == R2) = true := beq_self_eq_true _
            have hq3 : (R3 == R3) = true := beq_self_eq_true _
            clear hs64
            go_wp2_with fail
            refine hH.mono ?_
            rintro e w7 ⟨rfl, x7, k7⟩
            clear hH k7 d0 d1 d2 d3 d4 d5 hgl
            go_wp2_with fail
            refine (hR _ x7).mono ?_
            rintro e w8 ⟨rfl, x8, k8⟩
            clear hR k8 x7
            go_wp2_with fail
            refine (hS1 _ _ x8).mono ?_
            rintro e w9 ⟨rfl, x9, k9⟩
            clear hS1 k9 x8
            go_wp2_with fail
            refine (hS2 _ _ x9).mono ?_
            rintro e w10 ⟨rfl, x10, k10⟩
            have HX10 : Hid _ := hidden x10
            clear hS2 k10 x9 x10
            go_wp2
            go_meet
            exact ⟨rfl, h, p', HK'.out, HX10.out⟩
          · have hH := HX1.out.blacken s' HS'.out
            have hR := fun W (y : P4 wA wA.heap.size W hb rb pb qb h h (p.blacken h s') p (fun k => k = g5)) => y.rblacken HK.out.pi (by have := HL.out; omega) s'
            have HK' : Hid (PK h (p.blacken h s') (i + 1)) := HK.out.blacken s'
            generalize (p.blacken h s') = p' at *
            go_wp2_with fail
            refine hH.mono ?_
            rintro e w7 ⟨rfl, x7, k7⟩
            have r7 := its_row k7 rfl HR1.out
            clear hH k7 d0 d1 d2 d3 d4 d5 hgl
            obtain ⟨d0, d1, d2, d3, d4, d5⟩ := boxed6 r7
            have hgl := r7.lt
            go_wp2_with fail
            refine (hR _ x7).mono ?_
            rintro e w8 ⟨rfl, x8, k8⟩
            have HX8 : Hid _ := hidden x8
            clear hR k8 x7 x8 r7
            go_wp2
            go_meet
            exact ⟨rfl, h, p', HK'.out, HX8.out⟩
          · have hH := HX1.out.forget s'
            have hR := fun W (y : P4 wA wA.heap.size W hb rb pb qb h h (p.forget s') p (fun k => k = g5)) => y.rforget s'
            have HK' : Hid (PK h (p.forget s') (i + 1)) := HK.out.forget s'
            generalize (p.forget s') = p' at *
            go_wp2_with fail
            refine hH.mono ?_
            rintro e w7 ⟨rfl, x7, k7⟩
            have r7 := its_row k7 rfl HR1.out
            clear hH k7 d0 d1 d2 d3 d4 d5 hgl
            obtain ⟨d0, d1, d2, d3, d4, d5⟩ := boxed6 r7
            have hgl := r7.lt
            go_wp2_with fail
            refine (hR _ x7).mono ?_
            rintro e w8 ⟨rfl, x8, k8⟩
            have HX8 : Hid _ := hidden x8
            clear hR k8 x7 x8 r7
            go_wp2
            go_meet
            exact ⟨rfl, h, p', HK'.out, HX8.out⟩
          · have hH := HX1.out.rest
            have HK' : Hid (PK h p.rest (i + 1)) := HK.out.rest
            have hR := fun W (y : P4 wA wA.heap.size W hb rb pb qb h h p.rest p (fun k => k = g5)) => y.rrest
            generalize p.rest = p' at *
            go_wp2_with fail
            refine hH.mono ?_
            rintro e w7 ⟨rfl, x7, k7⟩
            obtain ⟨x8, k8, u1, u2, u3⟩ := hR _ x7
            have HX8 : Hid _ := hidden x8
            clear hH hR k7 d0 d1 d2 d3 d4 d5 hgl x7 x8 k8
            go_wp2
            go_meet
            exact ⟨rfl, h, p', HK'.out, HX8.out⟩
          · by_cases hr7 : rank.tmod 7 = 0
            · have hr7b : (rank.tmod 7 == 0) = true := by rw [beq_iff_eq]; exact hr7
              have hH := HX1.out.turn (by have := HK.out.tu; have := HL.out; omega)
              have hR := fun W (y : P4 wA wA.heap.size W hb rb pb qb h h p.turn p (fun k => k = g5)) => y.rturn (by have := HK.out.tu; have := HL.out; omega)
              have HK' : Hid (PK h p.turn (i + 1)) := HK.out.turn
              generalize p.turn = p' at *
              go_wp2_with fail
              refine hH.mono ?_
              rintro e w7 ⟨rfl, x7, k7⟩
              clear hH k7 d0 d1 d2 d3 d4 d5 hgl
              go_wp2_with fail
              refine (hR _ x7).mono ?_
              rintro e w8 ⟨rfl, x8, k8⟩
              have HX8 : Hid _ := hidden x8
              clear hR k8 x7 x8
              go_wp2
              go_meet
              exact ⟨rfl, h, p', HK'.out, HX8.out⟩
            · have hr7b : (rank.tmod 7 == 0) = false := by rw [beq_eq_false_iff_ne]; exact hr7
              go_wp2
              go_meet
              exact ⟨rfl, h, p, HK.out.stay, HX1.out⟩
          · have hH := HX1.out.hmake 1 0
            have hR := fun W (y : P4 wA wA.heap.size W hb rb pb qb (h.makeS 1 0) h p p (fun k => k = g5)) => y.rmake 1 0
            have HK' : Hid (PK (h.makeS 1 0) p (i + 1)) := HK.out.make 1 0
            generalize (h.makeS 1 0) = h' at *
            generalize (h.makeR 1 0) = R at *
            go_wp2_with fail
            refine hH.mono ?_
            rintro e w7 ⟨rfl, x7, k7⟩
            have r7 := its_row k7 rfl HR1.out
            clear hH k7 d0 d1 d2 d3 d4 d5 hgl
            obtain ⟨d0, d1, d2, d3, d4, d5⟩ := boxed6 r7
            have hgl := r7.lt
            go_wp2_with fail
            refine (hR _ x7).mono ?_
            rintro e w8 ⟨rfl, x8, k8⟩
            have HX8 : Hid _ := hidden x8
            clear hR k8 x7 x8 r7
            go_wp2
            go_meet
            exact ⟨rfl, h', p, HK'.out, HX8.out⟩
          · have hH := HX1.out.hfree s' HS'.out
            have hR := fun W (y : P4 wA wA.heap.size W hb rb pb qb (h.freeS s') h p p (fun k => k = g5)) => y.rfree s'
            have HK' : Hid (PK (h.freeS s') p (i + 1)) := HK.out.free s'
            generalize (h.freeS s') = h' at *
            generalize (h.freeR s') = R at *
            go_wp2_with fail
            refine hH.mono ?_
            rintro e w7 ⟨rfl, x7, k7⟩
            have r7 := its_row k7 rfl HR1.out
            clear hH k7 d0 d1 d2 d3 d4 d5 hgl
            obtain ⟨d0, d1, d2, d3, d4, d5⟩ := boxed6 r7
            have hgl := r7.lt
            go_wp2_with fail
            refine (hR _ x7).mono ?_
            rintro e w8 ⟨rfl, x8, k8⟩
            have HX8 : Hid _ := hidden x8
            clear hR k8 x7 x8 r7
            go_wp2
            go_meet
            exact ⟨rfl, h', p, HK'.out, HX8.out⟩
        case rest =>
          obtain ⟨rfl, h', p', K', x2⟩ := hcut
          obtain ⟨w7, hw7⟩ : ∃ x, x = wc := ⟨_, rfl⟩
          subst hw7
          clear d0 d1 d2 d3 d4 d5 hgl HS' HR1 HX1 HO hk12
          have hc := x2.last
          have hrl := cell_lt hc
          have hSm := x2.same K'.pi (by have := HL.out; omega) (N := h'.last) (by have := K'.la; have := HL.out; omega)
          have HX2 : Hid _ := hidden x2
          have HK2 : Hid _ := hidden K'
          generalize h'.last = N at *
          clear x2 K' HK
          go_wp2_with (go_at_call 26; refine hSm.mono ?_; rintro e w8 ⟨rfl, b8⟩)
          go_roundw
          case rel => exact ⟨i + 1, h', p', HL.out, by go_num, HK2.out, (HX2.out.read b8).off _ (fun _ e => e.elim)⟩
          case measure => have := HL.out; simp [intOf]; omega
    · have HB : Hid _ := hidden (HWA.out _ z.bel)
      have hex : (¬ (i : Int) < (xs.length : Int)) ∨ ((i : Int) < (xs.length : Int) ∧ ¬ (i : Int) < 120) := by omega
      clear z K hlt
      rcases hex with hx | ⟨hx1, hx2⟩
      all_goals
        go_wp2
        go_ret
        exact ⟨rfl, HB.out⟩
end Go.Proofs.YtfonlolgkaobcaaGreatDoor

namespace Go.Proofs.YtfonlolgkaobcaaGreatDoor
open Go.RowKit
theorem paintPlays_any {w : World} {vr vo vi vl : Value} {g : Gr} {xs : List StepP} (most : Int) (x : GI w vr vo vi g) (hT : TB w) (hl : WS w vl 6 cStepP xs) (hR : ∀ y ∈ xs, y.Ok) :
    Calls Tryz.prog 3 #[.agg #[vr, vo, vi], .int .i64 most, vl] w fun e w' => e = .returned (.bool true) ∧ Below w.heap.size w w' := by
  by_cases h : most < 1 ∨ 64 < most
  · exact paintPlays_no most h x hT vl
  · obtain ⟨M, rfl⟩ := Int.eq_ofNat_of_zero_le (show 0 ≤ most by omega)
    exact paintPlays_ok M (by omega) (by omega) x hT hl hR
end Go.Proofs.YtfonlolgkaobcaaGreatDoor

