/- MarkPlays, walked (made by tools/mkplays.py). -/
import Derived.Test.YtebcigjnjapcgaaGreatDoorMqAP
import Derived.BigQuiet
namespace Go.Proofs.YtebcigjnjapcgaaGreatDoor
open Go.RowKit

theorem boxed2 {W : World} {g : Nat} {T : TypeId} {a b : Value} (r : Row W g T [a, b]) : W.cell? ⟨g, 0, none⟩ = some a ∧ W.cell? ⟨g, 1, none⟩ = some b := ⟨r.cell 0 (by simp), r.cell 1 (by simp)⟩
set_option maxRecDepth 20000 in
set_option maxHeartbeats 8000000 in
theorem markPlays_any {w : World} {vr vo vi vl : Value} {g : Gr} {xs : List StepM} (x : GI w vr vo vi g) (hT : TB w) (grey : Int) (hl : WS w vl 5 cStepM xs) (hR : ∀ y ∈ xs, y.Ok) :
    Calls Tryz.prog 3 #[.agg #[vr, vo, vi], .int .i64 grey, vl] w fun e w' => e = .returned (.bool true) ∧ Below w.heap.size w w' := by
  obtain ⟨a1, c1, a2, c2, a3, c3, e1, e2, e3⟩ := x.shape
  obtain ⟨ao, cap, rfl, _, _⟩ := hl.slice
  have hA : ∀ o, Below w.heap.size w (w.alloc o) := fun o => bel_alloc w o
  have hHp := fun o => heaps_at (x.below (hA o)) (hT.below (hA o)) 25 (by omega)
  have hP := fun W => pick_any grey 6 (by omega) (by omega) W
  have hpk := pickN_lt grey 6 (by omega)
  generalize pickN grey 6 = gk0 at *
  have HWS : Hid _ := hidden hl
  have HOK : Hid _ := hidden hR
  rw [e1, e2, e3] at hHp ⊢
  clear x e1 e2 e3 hl hR
  have hNw := fun hb B W (hB : B ≤ W.heap.size) => pnew_ok hb B (1 + gk0) (by omega) (by omega) W hB
  have hNq := fun rb B W (hB : B ≤ W.heap.size) => rnewp_any (1 + gk0) (by omega) (by omega) rb B W hB
  have hcast : ((1 + gk0 : Nat) : Int) = 1 + (gk0 : Int) := by omega
  rw [hcast] at hNw hNq
  have hpk2 : (gk0 : Int) < 6 := by omega
  clear hcast
  go_enter Tryz.func3, Tryz.ntmps3
  go_wp2_with fail
  refine (hHp _).mono ?_
  rintro e w1 ⟨hb, rb, h, rfl, y1, m1⟩
  obtain ⟨wA, hwA⟩ : ∃ z, z = w.alloc (.cells #[.slice a1 g.refs.length c1, .slice a2 g.out.length c2, .slice a3 g.inn.length c3] 26) := ⟨_, rfl⟩
  rw [← hwA] at y1
  have hbA : Below w.heap.size w wA := by rw [hwA]; exact hA _
  have hTA : TB wA := hT.below hbA
  clear hHp hwA hA hT
  have HK0 : Hid (PK h (PSt.new (1 + gk0)) 0) := PK.new (1 + gk0) (by have := m1.last; omega)
  clear m1
  go_wp2_with fail
  refine (mknown_any _ (hTA.below (y1.bel.mono (Nat.le_refl _)))).mono ?_
  rintro e w2 ⟨rfl, b2⟩
  have y2 := y1.read b2
  clear y1 b2
  go_wp2_with fail
  refine (hP _).mono ?_
  rintro e _ ⟨rfl, rfl⟩
  clear hP
  go_wp2_with fail
  refine (hNw _ wA.heap.size _ y2.le).mono ?_
  rintro e w3 ⟨pb, G, rfl, pn, hG, b3⟩
  clear hNw
  go_wp2_with fail
  refine (mnew_ok hb pb w3).mono ?_
  rintro e w4 ⟨rfl, r4, l4, b4⟩
  have hx3 : wA.heap.size ≤ w3.heap.size := Nat.le_trans y2.le b3.size
  go_wp2_with fail
  refine (hNq rb wA.heap.size _ (Nat.le_trans hx3 b4.size)).mono ?_
  rintro e w5 ⟨rfl, q5, b5⟩
  have HZ : Hid _ := hidden (P6.start y2 pn hG b3 r4 l4 b4 q5 b5)
  have HWA : Hid (∀ W : World, Below wA.heap.size wA W → Below w.heap.size w W) := fun W hB => hbA.trans (hB.mono hbA.size)
  clear hNq y2 pn hG b3 r4 l4 b4 q5 b5 hTA hbA hx3
  generalize w3.heap.size = xb at *
  generalize w4.heap.size = qb at *
  go_wp2
  generalize w5.heap.size = yb at *
  go_loopw [15, 16, 17, 18, 19, 20, 21, 22, 23, 24] (fun t _ _ _ _ _ _ _ _ _ wr => ∃ (i : Nat) (h : HSt) (p : PSt) (m : MSt), i ≤ 200 ∧ t = .int .i64 (i : Int) ∧ PK h p i ∧ P6 wA wA.heap.size wr hb rb pb qb xb yb h h p p m m (fun _ => False)) (fun t _ _ _ _ _ _ _ _ _ _ => 200 - (intOf t).toNat)
  case atStart => exact ⟨0, h, _, _, by omega, rfl, HK0.out, HZ.out⟩
  case round =>
    clear HZ HK0
    obtain ⟨i, h, p, m, hi, rfl, K, z⟩ := hrel
    by_cases hlt : i < xs.length ∧ i < 200
    · obtain ⟨hl1, hl2⟩ := hlt
      have hws := HWS.out.below (w' := wr) (HWA.out _ z.p4.bel)
      obtain ⟨b, off, rfl, hbw, q0, q1, q2, q3, q4⟩ := hws.stepM i hl1
      have hokx := HOK.out _ (List.getElem_mem hl1)
      have HQ : Hid (∀ W, Below w.heap.size w W → b < W.heap.size ∧ W.cell? ⟨b, off + i * 5, none⟩ = some (.int .i64 xs[i].what) ∧ W.cell? ⟨b, off + i * 5 + 1, none⟩ = some (.int .i64 xs[i].a)) := fun W hB => by
        obtain ⟨b', off', e, h1, h2, h3, _⟩ := (HWS.out.below hB).stepM i hl1
        simp only [Option.some.injEq, Addr.mk.injEq] at e
        obtain ⟨rfl, rfl, _⟩ := e
        exact ⟨h1, h2, h3⟩
      have hlti : (i : Int) < (xs.length : Int) := by omega
      have hlt200 : (i : Int) < 200 := by omega
      generalize xs[i] = st at *
      obtain ⟨what, sa, ser, xn, xs'⟩ := st
      simp only at q0 q1 q2 q3 q4 HQ
      have HS : Hid (ser < 18446744073709551616) := hidden hokx.1
      have HL : Hid (i + 1 ≤ 200) := hl2
      have HBg : Hid (wA.heap.size ≤ wr.heap.size) := hidden z.p4.le
      have HK : Hid _ := hidden K
      have HZ : Hid _ := hidden z
      have HBW : Hid (∀ W, Below wA.heap.size wA W → Below w.heap.size w W) := HWA.out
      have hc := z.p4.last
      have hrl := cell_lt hc
      obtain ⟨N, hN⟩ : ∃ N, N = h.last := ⟨_, rfl⟩
      rw [← hN] at hc
      have hN2 : N ≤ 1000 := by have := K.la; omega
      obtain ⟨q, hq⟩ : ∃ q, q = ser % (N + 2) := ⟨_, rfl⟩
      obtain ⟨D, hDN⟩ : ∃ D, D = N + 2 := ⟨_, rfl⟩
      have hq64 : q < 18446744073709551616 := by have := Nat.mod_le ser (N + 2); have := HS.out; omega
      have HQ64 : Hid (q < 18446744073709551616) := hidden hq64
      have hadd : (N : Int) + 2 = (D : Int) := by omega
      have hrem : (ser : Int).tmod (D : Int) = (q : Int) := by rw [hq, hDN]; rfl
      have hrem2 : (ser : Int) % (D : Int) = (q : Int) := by rw [hq, hDN]; rfl
      have hne : ((D : Int) == 0) = false := by rw [beq_eq_false_iff_ne]; omega
      have hne2 : ¬ (D : Int) = 0 := by omega
      have hne3 : ¬ D = 0 := by omega
      have hwA : IntKind.u64.wrap ((N : Int) + 2) = (D : Int) := by rw [IntKind.wrap_u64]; omega
      have hwB : ((N : Int) + 2) % 18446744073709551616 = (D : Int) := by omega
      have hdr : Below wr.heap.size wr wr.drew := ⟨rfl, rfl, rfl, Nat.le_refl _, fun _ _ => rfl⟩
      clear z hokx hws hl1 hl2 K hi hq hDN hq64 hN2 hN hadd
      go_upto_region 14 with fail
      go_cut [15, 16] from 82 to 92 (fun a s wc => a = .int .i64 (i : Int) ∧ s = .int .u64 (q : Int) ∧ wc = wr.drew)
      case first =>
        go_region
        all_goals
          go_wp2
          go_meet
          exact ⟨rfl, rfl, rfl⟩
      case rest =>
        obtain ⟨rfl, rfl, hwc⟩ := hcut
        subst hwc
        have zd := HZ.out.read hdr
        have q3d : wr.drew.cell? ⟨b, off + i * 5 + 3, none⟩ = _ := q3
        have q4d : wr.drew.cell? ⟨b, off + i * 5 + 4, none⟩ = _ := q4
        have q1d : wr.drew.cell? ⟨b, off + i * 5 + 1, none⟩ = _ := q1
        have hbd : b < wr.drew.heap.size := hbw
        have hBgd : wA.heap.size ≤ wr.drew.heap.size := HBg.out
        clear q0 q1 q2 q3 q4 hbw hc hrl hrem hrem2 hne hne2 hne3 hwA hwB hdr HZ HBg
        generalize wr.drew = w5 at *
        have xb5 := zd.box (.cells #[.int .i64 xn, .int .u64 (xs' : Int)] 48)
        have r5 : Row (w5.alloc (.cells #[.int .i64 xn, .int .u64 (xs' : Int)] 48)) w5.heap.size 48 [.int .i64 xn, .int .u64 (xs' : Int)] := heap_alloc_new w5 _
        have HX5 : Hid _ := hidden xb5
        have HR5 : Hid _ := hidden r5
        have hba : b < (w5.alloc (.cells #[.int .i64 xn, .int .u64 (xs' : Int)] 48)).heap.size := by simp; omega
        have q1a : (w5.alloc (.cells #[.int .i64 xn, .int .u64 (xs' : Int)] 48)).cell? ⟨b, off + i * 5 + 1, none⟩ = some (.int .i64 sa) := ((bel_alloc w5 _).cell (p := ⟨b, off + i * 5 + 1, none⟩) hbd).trans q1d
        clear zd xb5 r5
        go_upto_if 104 with fail
        generalize (w5.alloc (.cells #[.int .i64 xn, .int .u64 (xs' : Int)] 48)) = w5a at *
        have HG5 : Hid (wA.heap.size ≤ w5.heap.size) := hBgd
        clear q1d q3d q4d hbd hBgd
        generalize w5.heap.size = g5 at *
        go_cut [15, 16, 17] from 104 to 106 (fun a s t wc => a = .int .i64 (i : Int) ∧ s = .int .u64 (q : Int) ∧ t = .pointer (some ⟨g5, 0, none⟩) ∧ ∃ (a' : Int) (n' : Nat), Row wc g5 48 [.int .i64 a', .int .u64 (n' : Int)] ∧ P6 wA wA.heap.size wc hb rb pb qb xb yb h h p p m m (fun k => k = g5))
        case first =>
          obtain ⟨d0, d1⟩ := boxed2 HR5.out
          have f0 := HR5.out.frozen 0
          have f1 := HR5.out.frozen 1
          have hgl := HR5.out.lt
          by_cases h3 : 0 < sa.tmod 3
          · have r6 := (HR5.out.set 0 (.int .i64 1)).set 1 (.int .u64 (q : Int))
            have k6 : Kept w5a ((w5a.setCell ⟨g5, 0, none⟩ (.int .i64 1)).setCell ⟨g5, 1, none⟩ (.int .u64 (q : Int))) (fun k => k = g5) := ((Kept.refl w5a (fun k => k = g5)).put ⟨g5, 0, none⟩ (.int .i64 1) rfl).put ⟨g5, 1, none⟩ (.int .u64 (q : Int)) rfl
            have HX6 : Hid _ := hidden (HX5.out.set k6 HG5.out)
            have HR6 : Hid _ := hidden r6
            clear r6 k6
            go_wp2
            go_meet
            exact ⟨rfl, rfl, rfl, 1, q, HR6.out, HX6.out⟩
          · go_wp2
            go_meet
            exact ⟨rfl, rfl, rfl, xn, xs', HR5.out, HX5.out⟩
        case rest =>
          obtain ⟨rfl, rfl, rfl, a', n', r1, x1⟩ := hcut
          obtain ⟨w6, hw6⟩ : ∃ x, x = wc := ⟨_, rfl⟩
          subst hw6
          clear HR5 HX5 HS q1a hba
          obtain ⟨hbw, q0, q1⟩ := HQ.out _ (HBW.out _ x1.p4.bel)
          obtain ⟨d0, d1⟩ := boxed2 r1
          have hgl := r1.lt
          have hP := fun W => pick_any what 10 (by omega) (by omega) W
          have hk10 := pickN_lt what 10 (by omega)
          generalize pickN what 10 = k at *
          have HS' : Hid _ := hidden HQ64.out
          have HR1 : Hid _ := hidden r1
          have HX1 : Hid _ := hidden x1
          have HO : Hid _ := hidden x1.p4.okh
          clear r1 x1 HQ64
          generalize q = s' at *
          go_upto_block 2 with (go_at_call 6; refine (hP _).mono ?_; rintro e _ ⟨rfl, rfl⟩)
          clear hP
          go_cut [15, 16, 17] from 112 to 198 (fun a _ _ wc => a = .int .i64 (i : Int) ∧ ∃ (h' : HSt) (p' : PSt) (m' : MSt), PK h' p' (i + 1) ∧ P6 wA wA.heap.size wc hb rb pb qb xb yb h' h' p' p' m' m' (fun k => k = g5))
          case first =>
            have hcase : k = 0 ∨ k = 1 ∨ k = 2 ∨ k = 3 ∨ k = 4 ∨ k = 5 ∨ k = 6 ∨ k = 7 ∨ k = 8 ∨ k = 9 := by omega
            clear hk10
            rcases hcase with rfl | rfl | rfl | rfl | rfl | rfl | rfl | rfl | rfl | rfl
            · have hH := HX1.out.step HK.out.st
              have hR := fun W h1 p1 m1 (y : P6 wA wA.heap.size W hb rb pb qb xb yb h1 h p1 p m1 m (fun k => k = g5)) => y.rstep HK.out.pi (by have := HL.out; omega)
              have HK' : Hid (PK h (stepR h p m).2.1 (i + 1)) := HK.out.next HO.out m
              generalize stepR h p m = R at *
              obtain ⟨b, p', m'⟩ := R
              simp only at hH hR HK'
              have hqb : (b == b) = true := beq_self_eq_true _
              go_wp2_with fail
              refine hH.mono ?_
              rintro e w7 ⟨rfl, x7⟩
              clear hH q0 q1 hbw
              go_wp2_with fail
              refine (hR _ _ _ _ x7).mono ?_
              rintro e w8 ⟨rfl, x8⟩
              have HX8 : Hid _ := hidden x8
              clear hR x7 x8
              go_wp2
              go_meet
              first | exact ⟨rfl, h, p', m', HK'.out, HX8.out⟩ | exact ⟨h, p', m', HK'.out, HX8.out⟩
            · have hH := HX1.out.step HK.out.st
              have hR := fun W h1 p1 m1 (y : P6 wA wA.heap.size W hb rb pb qb xb yb h1 h p1 p m1 m (fun k => k = g5)) => y.rstep HK.out.pi (by have := HL.out; omega)
              have HK' : Hid (PK h (stepR h p m).2.1 (i + 1)) := HK.out.next HO.out m
              generalize stepR h p m = R at *
              obtain ⟨b, p', m'⟩ := R
              simp only at hH hR HK'
              have hqb : (b == b) = true := beq_self_eq_true _
              go_wp2_with fail
              refine hH.mono ?_
              rintro e w7 ⟨rfl, x7⟩
              clear hH q0 q1 hbw
              go_wp2_with fail
              refine (hR _ _ _ _ x7).mono ?_
              rintro e w8 ⟨rfl, x8⟩
              have HX8 : Hid _ := hidden x8
              clear hR x7 x8
              go_wp2
              go_meet
              first | exact ⟨rfl, h, p', m', HK'.out, HX8.out⟩ | exact ⟨h, p', m', HK'.out, HX8.out⟩
            · have hH := HX1.out.step HK.out.st
              have hR := fun W h1 p1 m1 (y : P6 wA wA.heap.size W hb rb pb qb xb yb h1 h p1 p m1 m (fun k => k = g5)) => y.rstep HK.out.pi (by have := HL.out; omega)
              have HK' : Hid (PK h (stepR h p m).2.1 (i + 1)) := HK.out.next HO.out m
              generalize stepR h p m = R at *
              obtain ⟨b, p', m'⟩ := R
              simp only at hH hR HK'
              have hqb : (b == b) = true := beq_self_eq_true _
              go_wp2_with fail
              refine hH.mono ?_
              rintro e w7 ⟨rfl, x7⟩
              clear hH q0 q1 hbw
              go_wp2_with fail
              refine (hR _ _ _ _ x7).mono ?_
              rintro e w8 ⟨rfl, x8⟩
              have HX8 : Hid _ := hidden x8
              clear hR x7 x8
              go_wp2
              go_meet
              first | exact ⟨rfl, h, p', m', HK'.out, HX8.out⟩ | exact ⟨h, p', m', HK'.out, HX8.out⟩
            · have hH := HX1.out.step HK.out.st
              have hR := fun W h1 p1 m1 (y : P6 wA wA.heap.size W hb rb pb qb xb yb h1 h p1 p m1 m (fun k => k = g5)) => y.rstep HK.out.pi (by have := HL.out; omega)
              have HK' : Hid (PK h (stepR h p m).2.1 (i + 1)) := HK.out.next HO.out m
              generalize stepR h p m = R at *
              obtain ⟨b, p', m'⟩ := R
              simp only at hH hR HK'
              have hqb : (b == b) = true := beq_self_eq_true _
              go_wp2_with fail
              refine hH.mono ?_
              rintro e w7 ⟨rfl, x7⟩
              clear hH q0 q1 hbw
              go_wp2_with fail
              refine (hR _ _ _ _ x7).mono ?_
              rintro e w8 ⟨rfl, x8⟩
              have HX8 : Hid _ := hidden x8
              clear hR x7 x8
              go_wp2
              go_meet
              first | exact ⟨rfl, h, p', m', HK'.out, HX8.out⟩ | exact ⟨h, p', m', HK'.out, HX8.out⟩
            · have hH := HX1.out.step HK.out.st
              have hR := fun W h1 p1 m1 (y : P6 wA wA.heap.size W hb rb pb qb xb yb h1 h p1 p m1 m (fun k => k = g5)) => y.rstep HK.out.pi (by have := HL.out; omega)
              have HK' : Hid (PK h (stepR h p m).2.1 (i + 1)) := HK.out.next HO.out m
              generalize stepR h p m = R at *
              obtain ⟨b, p', m'⟩ := R
              simp only at hH hR HK'
              have hqb : (b == b) = true := beq_self_eq_true _
              go_wp2_with fail
              refine hH.mono ?_
              rintro e w7 ⟨rfl, x7⟩
              clear hH q0 q1 hbw
              go_wp2_with fail
              refine (hR _ _ _ _ x7).mono ?_
              rintro e w8 ⟨rfl, x8⟩
              have HX8 : Hid _ := hidden x8
              clear hR x7 x8
              go_wp2
              go_meet
              first | exact ⟨rfl, h, p', m', HK'.out, HX8.out⟩ | exact ⟨h, p', m', HK'.out, HX8.out⟩
            · have hPk := fun W => pick_any sa 9 (by omega) (by omega) W
              generalize pickN sa 9 = pk at *
              have hH := fun W (y : P6 wA wA.heap.size W hb rb pb qb xb yb h h p p m m (fun k => k = g5)) => y.p4.shade a' n' (pk : Int)
              have hR := fun W p1 (y : P6 wA wA.heap.size W hb rb pb qb xb yb h h p1 p m m (fun k => k = g5)) => y.p4.rshade HK.out.pi (by have := HL.out; omega) a' n' (pk : Int)
              have HK' : Hid (PK h (p.shade h (a', n') (pk : Int)) (i + 1)) := HK.out.shade HO.out (a', n') (pk : Int)
              generalize (p.shade h (a', n') (pk : Int)) = p' at *
              have x6d := HX1.out.read (below_drewN0 w6 1)
              have r6d := HR1.out.below (below_drewN0 w6 1)
              have hP6 := hPk (w6.drewN 1)
              go_upto_region 22 with fail
              go_cut [15, 16, 17] from 120 to 128 (fun a b c wc => a = .int .i64 (i : Int) ∧ b = .int .u64 (s' : Int) ∧ c = .pointer (some ⟨g5, 0, none⟩) ∧ P6 wA wA.heap.size wc hb rb pb qb xb yb h h p' p m m (fun k => k = g5) ∧ Row wc g5 48 [.int .i64 a', .int .u64 (n' : Int)] ∧ Kept w6 wc (Its wA.heap.size (fun k => k = g5)))
              case first =>
                go_region_held (fun W => W.cell? ⟨b, off + i * 5 + 1, none⟩ = some (.int .i64 sa) ∧ W.cell? ⟨g5, 0, none⟩ = some (.int .i64 a') ∧ W.cell? ⟨g5, 1, none⟩ = some (.int .u64 (n' : Int))) (exact ⟨by assumption, by assumption, by assumption⟩) (first
                  | (go_at_call 6; refine hP6.mono ?_; rintro e _ ⟨rfl, rfl⟩)
                  | (go_at_call 10; refine (hH _ x6d).mono ?_; rintro e w7 ⟨rfl, z7, k7⟩; obtain ⟨x7, k7'⟩ := x6d.go z7 k7; have r7 := its_row k7' rfl r6d; obtain ⟨t0, t1⟩ := boxed2 r7; obtain ⟨_, _, tq⟩ := HQ.out _ (HBW.out _ x7.p4.bel)))
                all_goals
                  go_wp2
                  go_meet
                  exact ⟨rfl, rfl, rfl, x7, r7, (kept_of_below (below_drewN0 w6 1) (Its wA.heap.size (fun k => k = g5))).trans k7' (fun _ _ e => e)⟩
              case rest =>
                obtain ⟨rfl, rfl, rfl, x7, r7, k7⟩ := hcut
                obtain ⟨w7, hw7⟩ : ∃ x, x = wc := ⟨_, rfl⟩
                subst hw7
                clear q0 q1 d0 d1 hgl hH x6d r6d hP6 hbw
                obtain ⟨d0, d1⟩ := boxed2 r7
                have hgl := r7.lt
                obtain ⟨hbw, q0, q1⟩ := HQ.out _ (HBW.out _ x7.p4.bel)
                have x7d := x7.read (below_drewN0 w7 1)
                have r7d := r7.below (below_drewN0 w7 1)
                have hP7 := hPk (w7.drewN 1)
                go_upto_region 23 with fail
                go_region_held (fun W => W.cell? ⟨b, off + i * 5 + 1, none⟩ = some (.int .i64 sa) ∧ W.cell? ⟨g5, 0, none⟩ = some (.int .i64 a') ∧ W.cell? ⟨g5, 1, none⟩ = some (.int .u64 (n' : Int))) (exact ⟨by assumption, by assumption, by assumption⟩) (first
                  | (go_at_call 6; refine hP7.mono ?_; rintro e _ ⟨rfl, rfl⟩)
                  | (go_at_call 11; refine (hR _ _ x7d).mono ?_; rintro e w8 ⟨rfl, z8, k8⟩; obtain ⟨x8, k8'⟩ := x7d.go z8 k8; have r8 := its_row k8' rfl r7d; obtain ⟨t0, t1⟩ := boxed2 r8; obtain ⟨_, _, tq⟩ := HQ.out _ (HBW.out _ x8.p4.bel)))
                all_goals
                  have HX8 : Hid _ := hidden x8
                  clear x8 r8
                  go_wp2
                  go_meet
                  first | exact ⟨rfl, h, p', m, HK'.out, HX8.out⟩ | exact ⟨h, p', m, HK'.out, HX8.out⟩
            · have hPk := fun W => pick_any sa 3 (by omega) (by omega) W
              generalize pickN sa 3 = pk at *
              have hH := fun W (y : P6 wA wA.heap.size W hb rb pb qb xb yb h h p p m m (fun k => k = g5)) => y.p4.hsetRef s' HS'.out (pk : Int) a' n'
              have hR := fun W h1 (y : P6 wA wA.heap.size W hb rb pb qb xb yb h1 h p p m m (fun k => k = g5)) => y.p4.rsetRef s' (pk : Int) a' n'
              have HK' : Hid (PK (h.setRefS s' (pk : Int) (a', n')) p (i + 1)) := HK.out.setRef s' (pk : Int) (a', n')
              generalize (h.setRefS s' (pk : Int) (a', n')) = h' at *
              generalize (h.setRefR s' (pk : Int) (a', n')) = R at *
              have x6d := HX1.out.read (below_drewN0 w6 1)
              have r6d := HR1.out.below (below_drewN0 w6 1)
              have hP6 := hPk (w6.drewN 1)
              go_upto_region 25 with fail
              go_cut [15, 16, 17] from 140 to 149 (fun a b c wc => a = .int .i64 (i : Int) ∧ b = .int .u64 (s' : Int) ∧ c = .pointer (some ⟨g5, 0, none⟩) ∧ P6 wA wA.heap.size wc hb rb pb qb xb yb h' h p p m m (fun k => k = g5) ∧ Row wc g5 48 [.int .i64 a', .int .u64 (n' : Int)] ∧ Kept w6 wc (Its wA.heap.size (fun k => k = g5)))
              case first =>
                go_region_held (fun W => W.cell? ⟨b, off + i * 5 + 1, none⟩ = some (.int .i64 sa) ∧ W.cell? ⟨g5, 0, none⟩ = some (.int .i64 a') ∧ W.cell? ⟨g5, 1, none⟩ = some (.int .u64 (n' : Int))) (exact ⟨by assumption, by assumption, by assumption⟩) (first
                  | (go_at_call 6; refine hP6.mono ?_; rintro e _ ⟨rfl, rfl⟩)
                  | (go_at_call 12; refine (hH _ x6d).mono ?_; rintro e w7 ⟨rfl, z7, k7⟩; obtain ⟨x7, k7'⟩ := x6d.go z7 k7; have r7 := its_row k7' rfl r6d; obtain ⟨t0, t1⟩ := boxed2 r7; obtain ⟨_, _, tq⟩ := HQ.out _ (HBW.out _ x7.p4.bel)))
                all_goals
                  go_wp2
                  go_meet
                  exact ⟨rfl, rfl, rfl, x7, r7, (kept_of_below (below_drewN0 w6 1) (Its wA.heap.size (fun k => k = g5))).trans k7' (fun _ _ e => e)⟩
              case rest =>
                obtain ⟨rfl, rfl, rfl, x7, r7, k7⟩ := hcut
                obtain ⟨w7, hw7⟩ : ∃ x, x = wc := ⟨_, rfl⟩
                subst hw7
                clear q0 q1 d0 d1 hgl hH x6d r6d hP6 hbw
                obtain ⟨d0, d1⟩ := boxed2 r7
                have hgl := r7.lt
                obtain ⟨hbw, q0, q1⟩ := HQ.out _ (HBW.out _ x7.p4.bel)
                have x7d := x7.read (below_drewN0 w7 1)
                have r7d := r7.below (below_drewN0 w7 1)
                have hP7 := hPk (w7.drewN 1)
                go_upto_region 26 with fail
                go_region_held (fun W => W.cell? ⟨b, off + i * 5 + 1, none⟩ = some (.int .i64 sa) ∧ W.cell? ⟨g5, 0, none⟩ = some (.int .i64 a') ∧ W.cell? ⟨g5, 1, none⟩ = some (.int .u64 (n' : Int))) (exact ⟨by assumption, by assumption, by assumption⟩) (first
                  | (go_at_call 6; refine hP7.mono ?_; rintro e _ ⟨rfl, rfl⟩)
                  | (go_at_call 13; refine (hR _ _ x7d).mono ?_; rintro e w8 ⟨rfl, z8, k8⟩; obtain ⟨x8, k8'⟩ := x7d.go z8 k8; have r8 := its_row k8' rfl r7d; obtain ⟨t0, t1⟩ := boxed2 r8; obtain ⟨_, _, tq⟩ := HQ.out _ (HBW.out _ x8.p4.bel)))
                all_goals
                  have HX8 : Hid _ := hidden x8
                  clear x8 r8
                  go_wp2
                  go_meet
                  first | exact ⟨rfl, h', p, m, HK'.out, HX8.out⟩ | exact ⟨h', p, m, HK'.out, HX8.out⟩
            · have hH := HX1.out.p4.hmake 2 0
              have hR := fun W h1 (y : P6 wA wA.heap.size W hb rb pb qb xb yb h1 h p p m m (fun k => k = g5)) => y.p4.rmake 2 0
              have HK' : Hid (PK (h.makeS 2 0) p (i + 1)) := HK.out.make 2 0
              generalize (h.makeS 2 0) = h' at *
              generalize (h.makeR 2 0) = R at *
              go_wp2_with fail
              refine hH.mono ?_
              rintro e w7 ⟨rfl, z7, k7⟩
              obtain ⟨x7, _⟩ := HX1.out.go z7 k7
              clear hH q0 q1 hbw z7 k7
              go_wp2_with fail
              refine (hR _ _ x7).mono ?_
              rintro e w8 ⟨rfl, z8, k8⟩
              obtain ⟨x8, _⟩ := x7.go z8 k8
              have HX8 : Hid _ := hidden x8
              clear hR z8 k8 x7 x8
              go_wp2
              go_meet
              first | exact ⟨rfl, h', p, m, HK'.out, HX8.out⟩ | exact ⟨h', p, m, HK'.out, HX8.out⟩
            · have hPk := fun W => pick_any sa 9 (by omega) (by omega) W
              generalize pickN sa 9 = pk at *
              have hH := fun W (y : P6 wA wA.heap.size W hb rb pb qb xb yb h h p p m m (fun k => k = g5)) => y.p4.hsetIn s' HS'.out (pk : Int)
              have hR := fun W h1 (y : P6 wA wA.heap.size W hb rb pb qb xb yb h1 h p p m m (fun k => k = g5)) => y.p4.rsetIn s' (pk : Int)
              have HK' : Hid (PK (h.setInS s' (pk : Int)) p (i + 1)) := HK.out.setIn s' (pk : Int)
              generalize (h.setInS s' (pk : Int)) = h' at *
              generalize (h.setInR s' (pk : Int)) = R at *
              go_wp2_with fail
              refine (hPk _).mono ?_
              rintro e _ ⟨rfl, rfl⟩
              go_wp2_with fail
              refine (hH _ HX1.out).mono ?_
              rintro e w7 ⟨rfl, z7, k7⟩
              obtain ⟨x7, k7'⟩ := HX1.out.go z7 k7
              clear q0 q1 hH hbw z7 k7
              obtain ⟨hbw, q0, q1⟩ := HQ.out _ (HBW.out _ x7.p4.bel)
              go_wp2_with fail
              refine (hPk _).mono ?_
              rintro e _ ⟨rfl, rfl⟩
              go_wp2_with fail
              refine (hR _ _ x7).mono ?_
              rintro e w8 ⟨rfl, z8, k8⟩
              obtain ⟨x8, k8'⟩ := x7.go z8 k8
              have HX8 : Hid _ := hidden x8
              clear q0 q1 hR hPk hbw z8 k8 x7 x8 k7' k8'
              go_wp2
              go_meet
              first | exact ⟨rfl, h', p, m, HK'.out, HX8.out⟩ | exact ⟨h', p, m, HK'.out, HX8.out⟩
            · by_cases hr5 : sa.tmod 5 = 0
              · have hr5b : (sa.tmod 5 == 0) = true := by rw [beq_iff_eq]; exact hr5
                have hH := HX1.out.begin
                have hR := fun W m1 (y : P6 wA wA.heap.size W hb rb pb qb xb yb h h p p m1 m (fun k => k = g5)) => y.rbegin
                go_wp2_with fail
                refine hH.mono ?_
                rintro e w7 ⟨rfl, x7⟩
                clear hH q0 q1 hbw
                go_wp2_with fail
                refine (hR _ _ x7).mono ?_
                rintro e w8 ⟨rfl, x8⟩
                have HX8 : Hid _ := hidden x8
                clear hR x7 x8
                go_wp2
                go_meet
                first | exact ⟨rfl, h, p, _, HK.out.stay, HX8.out⟩ | exact ⟨h, p, _, HK.out.stay, HX8.out⟩
              · have hr5b : (sa.tmod 5 == 0) = false := by rw [beq_eq_false_iff_ne]; exact hr5
                go_wp2
                go_meet
                first | exact ⟨rfl, h, p, m, HK.out.stay, HX1.out⟩ | exact ⟨h, p, m, HK.out.stay, HX1.out⟩
          case rest =>
            obtain ⟨rfl, h', p', m', K', x2⟩ := hcut
            obtain ⟨w7, hw7⟩ : ∃ x, x = wc := ⟨_, rfl⟩
            subst hw7
            clear d0 d1 q0 q1 hbw hgl HS' HR1 HX1 HO hk10 HK HQ
            obtain ⟨N', hN'⟩ : ∃ N', N' = h'.last := ⟨_, rfl⟩
            have HN' : Hid (N' ≤ 1000) := by
              have e : N' ≤ 1000 := by have := K'.la; have := HL.out; omega
              exact e
            have HC : Hid (∀ W, Below w7.heap.size w7 W → W.cell? ⟨rb, 2, none⟩ = some (.int .u64 (N' : Int)) ∧ rb < W.heap.size) := fun W hB => by
              have hc := (x2.read hB).p4.last
              rw [← hN'] at hc
              exact ⟨hc, cell_lt hc⟩
            have HX2 : Hid _ := hidden x2
            have HK2 : Hid _ := hidden K'
            clear x2 K' hN'
            go_wp2
            go_loopw [18, 19, 20, 21, 22, 23, 24] (fun t _ _ _ _ _ _ wr => ∃ s : Nat, s ≤ N' + 1 ∧ t = .int .u64 (s : Int) ∧ Below w7.heap.size w7 wr) (fun t _ _ _ _ _ _ _ => N' + 1 - (intOf t).toNat)
            case atStart => exact ⟨0, by omega, rfl, Below.refl _ _⟩
            case round =>
              obtain ⟨s, hs, rfl, hb2⟩ := hrel
              obtain ⟨hc, hrl⟩ := HC.out _ hb2
              by_cases hle : s ≤ N'
              · have hlt : (s : Int) ≤ (N' : Int) := by omega
                have zz := HX2.out.read hb2
                have hK1 := zz.p4.mark s (by have := HN'.out; omega)
                have hK2 := fun W (hB : Below wr.heap.size wr W) => (zz.read hB).p4.rmark s
                generalize markR h' p' s = R at *
                obtain ⟨rk, gr, ok⟩ := R
                simp only at hK1 hK2
                have HB2 : Hid _ := hidden hb2
                have HM : Hid (s + 1 ≤ N' + 1) := by
                  have e : s + 1 ≤ N' + 1 := by omega
                  exact e
                have hsb : s ≤ 1000 := by have := HN'.out; omega
                have hqr : ((rk : Int) == (rk : Int)) = true := beq_self_eq_true _
                have hqo : (ok == ok) = true := beq_self_eq_true _
                have hqg : (gr == gr) = true := beq_self_eq_true _
                clear zz hb2 hle
                go_wp2_with fail
                refine hK1.mono ?_
                rintro e wa ⟨rfl, ba⟩
                go_wp2_with fail
                refine (hK2 _ ba).mono ?_
                rintro e wb ⟨rfl, bb⟩
                have HBB : Hid _ := hidden (HB2.out.trans ((ba.trans (bb.mono ba.size)).mono HB2.out.size))
                clear hK1 hK2 ba bb hc hrl
                go_wp2
                go_roundw
                case rel => exact ⟨s + 1, HM.out, by go_num, HBB.out⟩
                case measure => have := HM.out; simp [intOf]; omega
              · have hlt : ¬ (s : Int) ≤ (N' : Int) := by omega
                have HX3 : Hid _ := hidden ((HX2.out.read hb2).off)
                clear hb2 hle HX2
                go_wp2
                go_roundw
                case rel => exact ⟨i + 1, h', p', m', HL.out, by go_num, HK2.out, HX3.out⟩
                case measure => have := HL.out; simp [intOf]; omega
    · have HB : Hid _ := hidden (HWA.out _ z.p4.bel)
      have hex : (¬ (i : Int) < (xs.length : Int)) ∨ ((i : Int) < (xs.length : Int) ∧ ¬ (i : Int) < 200) := by omega
      obtain ⟨L, ao', cap', hll, hql, c2', c3', hst, hWt, hOv, hPO, hQO⟩ := z.p4.last4 K.pi (by omega)
      have HWt : Hid _ := hidden hWt
      have HOv : Hid _ := hidden hOv
      have HPO : Hid _ := hidden hPO
      have HQO : Hid _ := hidden hQO
      have HBB : Hid (∀ W, Below wr.heap.size wr W → Below w.heap.size w W) := fun W hB => HWA.out _ ((z.read hB).p4.bel)
      generalize p.stk.length = ns at *
      generalize p.ov = po at *
      clear z K hlt hWt hOv hPO hQO
      rcases hex with hx | ⟨hx1, hx2⟩
      all_goals
        go_upto_region 44 with fail
        refine plays_region wr pb qb ns cap' ao' po L hll (fun W hW => (hW.cell (p := ⟨qb, 2, none⟩) hql).trans c2') (fun W hW => (hW.cell (p := ⟨qb, 3, none⟩) hql).trans c3') HWt HOv HPO HQO _ (fun _ _ _ _ _ h => h) _ _ _ _ _ _ _ _ _ _ _ _ _ _ _ _ _ _ _ _ _ _ _ _ _ _ _ _ _ _ _ _ _ _ _ _ _ _ _ _ _ _ _ _ _ _ _ _ _ _ _ _ _ _ _ _ _ _ _ _ _ _ _ _ _ _ _ _ _ _ _ _ _ _ _ _ _ _ _ _ _ _ _ _ _ _ _ _ _ _ _ _ _ _ _ _ _ _ _ _ _ _ _ _ _ _ _ _ _ _ _ _ _ _ _ _ _ _ _ _ _ _ _ _ _ _ _ _ _ _ _ _ _ _ _ _ _ _ _ _ _ _ _ _ _ _ _ _ _ _ _ _ _ _ _ _ _ _ _ _ _ _ _ _ _ _ _ _ _ _ _ _ _ _ _ _ _ _ _ _ _ _ _ _ _ _ _ _ _ _ _ _ _ _ _ _ _ _ _ _ _ _ _ _ _ _ _ _ _ _ _ _ _ _ _ _ _ _ _ _ _ _ _ _ _ _ _ _ _ _ _ _ _ _ _ _ _ _ _ _ _ _ _ _ _ _ _ _ _ _ _ _ _ _ _ _ _ _ ?_
        intro z234 z235 z236 z237 z238 z239 z240 z241 z242 z243 z244 z245 z246 z247 z248 z249 z250 z251 z252 z253 z254 z255 z256 z257 z258 z259 w9 hb9
        have HB9 : Hid _ := hidden (HBB.out _ hb9)
        clear hb9 HWt HOv HPO HQO c2' c3'
        go_simp
        go_wp2
        go_ret
        exact ⟨rfl, HB9.out⟩
end Go.Proofs.YtebcigjnjapcgaaGreatDoor
