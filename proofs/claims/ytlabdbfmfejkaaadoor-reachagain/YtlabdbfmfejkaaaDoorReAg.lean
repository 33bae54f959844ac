/- Begun anew, a reacher tells the same; with a greater bound, less. -/
import Derived.Test.YtlabdbfmfejkaaaDoorReZP
namespace Go.Proofs.YtlabdbfmfejkaaaDoor
open Go.RowKit
open Go.Sort hiding Below

theorem sum_pick (a b : Nat) (h1 : a < 9) (h2 : b < 9) : IntKind.i64.wrap ((a : Int) + (b : Int)) = (a : Int) + (b : Int) ∧ wrap64 ((a : Int) + (b : Int)) = (a : Int) + (b : Int) := by
  refine ⟨by rw [IntKind.wrap_i64]; omega, by rw [wrap64]; omega⟩
set_option maxRecDepth 20000 in
set_option maxHeartbeats 800000 in
theorem reachAgain_any {w : World} {vr vo vi vl : Value} {g : Gr} {xs : List Way} (a b : Int) (x : GI w vr vo vi g) (hT : TB w) (hl : WS w vl 5 cWay xs) (hR : ∀ y ∈ xs, y.Ok) :
    Calls Tryd.prog 7 #[.agg #[vr, vo, vi], vl, .int .i64 a, .int .i64 b] w fun e w' => e = .returned (.bool true) ∧ Below w.heap.size w w' := by
  obtain ⟨a1, c1, a2, c2, a3, c3, rfl, rfl, rfl⟩ := x.shape
  obtain ⟨lo, lc, rfl, _, _⟩ := hl.slice
  have hA : ∀ o, Below w.heap.size w (w.alloc o) := fun o => bel_alloc w o
  have hHp := fun o => heaps_at (x.below (hA o)) (hT.below (hA o)) 25 (by omega)
  have HL : Hid _ := hidden hl
  have HRW : Hid _ := hidden hR
  clear x hl hR
  go_enter Tryd.func7, Tryd.ntmps7
  go_wp2_with fail
  refine (hHp _).mono ?_
  rintro e w1 ⟨hb, rb, h, rfl, y1, m1⟩
  obtain ⟨wA, hwA⟩ : ∃ z, z = w.alloc (.cells #[.slice a1 g.refs.length c1, .slice a2 g.out.length c2, .slice a3 g.inn.length c3] 26) := ⟨_, rfl⟩
  rw [← hwA] at y1
  have hbA : Below w.heap.size w wA := by rw [hwA]; exact hA _
  have hTA : TB wA := hT.below hbA
  have HWL : Hid _ := hidden (HL.out.below hbA)
  clear hHp hwA hA hT
  have hok := y1.ok
  obtain ⟨N, hN⟩ : ∃ N, N = min g.refs.length 25 := ⟨_, rfl⟩
  rw [← hN] at m1
  have hla : h.last = N := m1.last
  have hN25 : N ≤ 25 := by omega
  have HIN : Hid (∀ k o, getC h.cs k = some o → 1 ≤ k ∧ k ≤ N) := m2_inC m1 hok
  have HRF : Hid (∀ s, ∀ x ∈ refsC h.cs s, x.2 < 18446744073709551616) := m2_u64 m1 hok (by omega)
  have HLN : Hid (h.cs.length ≤ N) := Nat.le_of_eq m1.len
  have HOK : Hid h.Ok := hok
  have hEE : N * (N + 2) ≤ 25 * 27 := Nat.mul_le_mul hN25 (by omega)
  obtain ⟨E, hE⟩ : ∃ E, E = N * (N + 2) := ⟨_, rfl⟩
  rw [← hE] at hEE
  have HEE : Hid (E ≤ 675) := hEE
  clear m1 hN hok hEE
  go_wp2_with fail
  refine (reknown_any _ (hTA.below (y1.bel.mono (Nat.le_refl _)))).mono ?_
  rintro e w2 ⟨rfl, b2⟩
  have hPt := painted_any (y1.read b2) HWL.out HRW.out (by omega)
  clear y1 b2 hTA hla HWL HRW HL
  go_wp2_with fail
  refine hPt.mono ?_
  rintro e w3 ⟨pb, qb, p, rfl, z3, K3⟩
  have H := hos_p4 wA wA.heap.size hb rb pb qb h h p p
  have hNw := H.rnew z3
  have HNM : Hid (∀ e ∈ p.me, namesB e.1 = true) := K3.nm
  clear hPt z3 K3
  go_wp2_with fail
  refine hNw.mono ?_
  rintro e w4 ⟨rfl, x4, b4⟩
  generalize w3.heap.size = xb at *
  clear hNw b4
  go_wp2_with fail
  refine (pick_any a 9 (by omega) (by omega) _).mono ?_
  rintro e _ ⟨rfl, rfl⟩
  go_wp2_with fail
  refine (pick_any b 9 (by omega) (by omega) _).mono ?_
  rintro e _ ⟨rfl, rfl⟩
  have hp1 := pickN_lt a 9 (by omega)
  have hp2 := pickN_lt b 9 (by omega)
  generalize pickN a 9 = s at *
  generalize pickN b 9 = d at *
  obtain ⟨hw1, hw2⟩ := sum_pick s d hp1 hp2
  clear hp1 hp2
  have hbg : wA.heap.size ≤ w4.heap.size := (x4.out H).bel.size
  obtain ⟨w6, hw6⟩ : ∃ z, z = (w4.alloc (.cells #[.slice none 0 0, .slice none 0 0, .slice none 0 0] 77)).alloc (.cells #[.int .i64 (s : Int), .int .i64 (s : Int), .int .i64 ((s : Int) + (d : Int))] 3) := ⟨_, rfl⟩
  have HW6 : Hid _ := hidden hw6
  have hz6 : w6.heap.size = w4.heap.size + 2 := by rw [hw6]; simp
  have hb6 : Below w4.heap.size w4 w6 := by rw [hw6]; exact (bel_alloc w4 _).trans ((bel_alloc _ _).mono (by simp))
  have hr1 : Row w6 w4.heap.size 77 [.slice none 0 0, .slice none 0 0, .slice none 0 0] := by
    rw [hw6]
    exact Row.below (heap_alloc_new w4 _) (bel_alloc _ _)
  have hr2 : Row w6 (w4.heap.size + 1) 3 [.int .i64 (s : Int), .int .i64 (s : Int), .int .i64 ((s : Int) + (d : Int))] := by
    rw [hw6]
    have := heap_alloc_new (w4.alloc (.cells #[.slice none 0 0, .slice none 0 0, .slice none 0 0] 77)) (.cells #[.int .i64 (s : Int), .int .i64 (s : Int), .int .i64 ((s : Int) + (d : Int))] 3)
    simp only [World.size_alloc] at this
    exact this
  have x6 := x4.grow H hb6
  have HX6 : Hid _ := hidden x6
  have HR1 : Hid _ := hidden hr1
  have HR2 : Hid _ := hidden hr2
  go_wp2
  rw [← hw6]
  clear x4 x6 hb6 hr1 hr2 hw6 HW6
  generalize w4.heap.size = gb at *
  have HZ : Hid (wA.heap.size ≤ gb ∧ w6.heap.size = gb + 2) := ⟨hbg, hz6⟩
  clear hbg hz6
  obtain ⟨bd, hbd⟩ : ∃ bd : Nat → Int, bd = fun j => if j < 2 then (s : Int) else (s : Int) + (d : Int) := ⟨_, rfl⟩
  have HBD : Hid (bd 0 = (s : Int) ∧ bd 1 = (s : Int) ∧ bd 2 = (s : Int) + (d : Int)) := by rw [hbd]; exact ⟨rfl, rfl, rfl⟩
  clear hbd
  go_loopw [64] (fun t wr => ∃ (i : Nat) (r : RSt) (X : Nat → Prop) (vs : Nat → Value), t = .int .i64 (i : Int) ∧ i ≤ 3 ∧ RcS (fun w X => P4 wA wA.heap.size w hb rb pb qb h h p p X) wr wA.heap.size xb hb pb r X ∧ X gb ∧ X (gb + 1) ∧ Gt h p bd wr gb X i vs ∧ Row wr (gb + 1) 3 [.int .i64 (s : Int), .int .i64 (s : Int), .int .i64 ((s : Int) + (d : Int))]) (fun t _ => 3 - (intOf t).toNat)
  case atStart => exact ⟨0, _, _, fun _ => .slice none 0 0, rfl, Nat.zero_le _, HX6.out, Or.inr ⟨Nat.le_refl _, by have := HZ.out.2; omega⟩, Or.inr ⟨Nat.le_succ _, by have := HZ.out.2; omega⟩, Gt.new HR1.out, HR2.out⟩
  case round =>
    clear HX6 HR1 HR2
    obtain ⟨i, r, X, vs, rfl, hi3, x, hXg, hXs, hG, hrow⟩ := hrel
    by_cases hi : i < 3
    · have hii : (i : Int) < 3 := by omega
      obtain ⟨tt, htt⟩ : ∃ tt, tt = bd i := ⟨_, rfl⟩
      have cI : wr.cell? ⟨gb + 1, i, none⟩ = some (.int .i64 tt) := by
        refine hrow.at i _ ?_
        rw [htt]
        obtain ⟨e0, e1, e2⟩ := HBD.out
        rcases i with _ | _ | _ | i
        · rw [e0]; rfl
        · rw [e1]; rfl
        · rw [e2]; rfl
        · omega
      have HTT : Hid (tt = bd i) := htt
      have hBe := x.begin H tt
      have HG : Hid _ := hidden hG
      have HROW : Hid _ := hidden hrow
      have HXX : Hid (X gb ∧ X (gb + 1)) := ⟨hXg, hXs⟩
      clear htt x hG hrow hXg hXs
      go_wp2_with fail
      refine hBe.mono ?_
      rintro e w5 ⟨rfl, x5, k5⟩
      have HX5 : Hid _ := hidden x5
      have HG5 : Hid _ := hidden (HG.out.kept k5 (fun e => e.2 HXX.out.1) (fun _ a e => e.2 a))
      have HR5 : Hid _ := hidden (HROW.out.kept k5 (fun e => e.2 HXX.out.2))
      clear hBe x5 k5 cI HG HROW
      go_wp2
      go_loopw [18] (fun t wr' => ∃ (k : Nat) (r : RSt), t = .int .i64 (k : Int) ∧ RcS (fun w X => P4 wA wA.heap.size w hb rb pb qb h h p p X) wr' wA.heap.size xb hb pb r X ∧ Stp h p tt N E k r ∧ Gt h p bd wr' gb X i vs ∧ Row wr' (gb + 1) 3 [.int .i64 (s : Int), .int .i64 (s : Int), .int .i64 ((s : Int) + (d : Int))]) (fun t _ => E + 1 - (intOf t).toNat)
      case atStart => exact ⟨0, RSt.new tt, rfl, HX5.out, by rw [hE]; exact Stp.new tt HLN.out (m2_one HOK.out), HG5.out, HR5.out⟩
      case round =>
        clear HX5 HG5 HR5
        obtain ⟨k, r, rfl, x, hst, hG, hrow⟩ := hrel
        have hke := hst.lt
        have hk2 : (k : Int) < 2000 := by have := HEE.out; omega
        have hS := x.step H HNM.out HRF.out hst.rb (by have := HEE.out; omega)
        have hq := hst.step HOK.out HNM.out HIN.out
        have hq2 := hst.stop HOK.out HIN.out
        have HRB : Hid (RB r (7 * k)) := hst.rb
        have HKE : Hid (k ≤ E) := hke
        have HG : Hid _ := hidden hG
        have HROW : Hid _ := hidden hrow
        generalize r.step h p = R at *
        obtain ⟨b, r2⟩ := R
        simp only at hS hq hq2
        cases b with
        | true =>
          have HST : Hid _ := hidden (hq rfl)
          clear x hst hke hq hq2 hG hrow
          go_wp2_with fail
          refine hS.mono ?_
          rintro e w6 ⟨rfl, x6, k6⟩
          have HX6 : Hid _ := hidden x6
          have HG6 : Hid _ := hidden (HG.out.kept k6 (fun e => e.2 HXX.out.1) (fun _ a e => e.2 a))
          have HR6 : Hid _ := hidden (HROW.out.kept k6 (fun e => e.2 HXX.out.2))
          clear hS x6 k6
          go_wp2
          go_roundw
          case rel => exact ⟨k + 1, r2, by go_num, HX6.out, HST.out, HG6.out, HR6.out⟩
          case measure => have := HKE.out; simp [intOf]; omega
        | false =>
          obtain ⟨e1, hen⟩ := hq2 rfl
          subst e1
          have HEN : Hid _ := hidden hen
          clear x hst hke hq hq2 hG hrow hen
          go_wp2_with fail
          refine hS.mono ?_
          rintro e w6 ⟨rfl, x6, k6⟩
          have hRo := x6.rows HRB.out (by have := HKE.out; have := HEE.out; omega)
          have HX6 : Hid _ := hidden x6
          have HG6 : Hid _ := hidden (HG.out.kept k6 (fun e => e.2 HXX.out.1) (fun _ a e => e.2 a))
          have HR6 : Hid _ := hidden (HROW.out.kept k6 (fun e => e.2 HXX.out.2))
          have hgl := HG6.out.row
          clear hS x6 k6
          go_wp2_with fail
          refine hRo.mono ?_
          rintro e w7 ⟨v, ts, rfl, hrl, hts, b7⟩
          obtain ⟨vao, vc, hv, _, _, _⟩ := own_slice hrl.ow
          subst hv
          have hg7 := hgl.below b7
          have fz := hg7.frozen i
          have cz := hg7.lt
          have HEN' : Hid (Ends h p (bd i) (ts.map (·.1))) := by
            rw [hts, ← HTT.out]
            exact HEN.out
          have HRL : Hid _ := hidden hrl
          have HB7 : Hid _ := hidden b7
          have c7 := hg7.cell i (by simp; omega)
          clear hRo hgl hrl hts b7 hg7
          go_wp2
          go_roundw
          case rel =>
            have x7 := HX6.out.grow H HB7.out
            refine ⟨i + 1, _, _, _, by go_num, by omega, x7.other H (Kept.setCell w7 ⟨gb, i, none⟩ _) (fun k e => ?_), Or.inl HXX.out.1, Or.inl HXX.out.2, HG6.out.put hi HB7.out HRL.out HEN'.out, (HR6.out.below HB7.out).kept (Kept.setCell w7 ⟨gb, i, none⟩ _) (fun e => by simp only at e; omega)⟩
            simp only at e
            subst e
            exact ⟨Or.inl HXX.out.1, HZ.out.1⟩
          case measure => simp [intOf]; omega
    · have e : i = 3 := by omega
      have hi33 : ¬ (i : Int) < 3 := by omega
      generalize wr = wc at *
      obtain ⟨l0, lo0, hi0, q0, _, _, E0⟩ := hG.it 0 (by omega)
      obtain ⟨l1, lo1, hi1, q1, _, _, E1⟩ := hG.it 1 (by omega)
      obtain ⟨l2, lo2, hi2, q2, _, _, E2⟩ := hG.it 2 (by omega)
      obtain ⟨bd0, bd1, bd2⟩ := HBD.out
      rw [bd0] at E0
      rw [bd1] at E1
      rw [bd2] at E2
      have e01 : l0 = l1 := E0.uniq E1
      subst e01
      have HAT : Hid (AtOk l0 l2 0 0) := AtOk.new (E0.less E2 (by omega))
      have HS0 : Hid ((l0.map (·.1)).Pairwise (· < ·)) := E0.srt
      have HS2 : Hid ((l2.map (·.1)).Pairwise (· < ·)) := E2.srt
      obtain ⟨ts0, R0, f0⟩ := q0.rl
      obtain ⟨ts1, R1, f1⟩ := q1.rl
      obtain ⟨ts2, R2, f2⟩ := q2.rl
      have hRow := hG.row
      have HEQ : Hid (∀ W, Below wc.heap.size wc W → Calls Tryd.prog 29 #[vs 0, vs 1] W fun e w' => e = .returned (.bool true) ∧ Below W.heap.size W w') := fun W hB => rowsEq_any ts0 ts1 _ _ lo0 lo1 W (R0.below hB) (R1.below hB) (f0.trans f1.symm)
      obtain ⟨ao0, c0, hv0, hc0, hm0, A0⟩ := R0.at2 f0
      obtain ⟨ao2, c2, hv2, hc2, hm2, A2⟩ := R2.at2 f2
      have HBX : Hid (Below w.heap.size w wc) := hbA.trans (((x.out H).bel).mono hbA.size)
      rw [if_pos (by omega), if_pos (by omega), if_pos (by omega), hv0, hv2] at hRow
      rw [hv0] at HEQ
      have HC : Hid (∀ W, Below wc.heap.size wc W → W.cell? ⟨gb, 0, none⟩ = some (.slice ao0 l0.length c0) ∧ W.cell? ⟨gb, 1, none⟩ = some (vs 1) ∧ W.cell? ⟨gb, 2, none⟩ = some (.slice ao2 l2.length c2)) := fun W hB => by
        have hW := hRow.below hB
        exact ⟨hW.at 0 _ rfl, hW.at 1 _ rfl, hW.at 2 _ rfl⟩
      have HA0 : Hid _ := hidden A0
      have HA2 : Hid _ := hidden A2
      unfold maxLen at hm0 hm2
      obtain ⟨n0, hn0⟩ : ∃ n, n = l0.length := ⟨_, rfl⟩
      obtain ⟨n2, hn2⟩ : ∃ n, n = l2.length := ⟨_, rfl⟩
      have HN : Hid (n0 = l0.length ∧ n2 = l2.length) := ⟨hn0, hn2⟩
      rw [← hn0] at HC HEQ hc0
      rw [← hn2] at HC hc2
      have HB0 : Hid (Below wc.heap.size wc wc) := Below.refl _ _
      clear x hXg hXs hG hrow q0 q1 q2 E0 E1 E2 bd0 bd1 bd2 R0 R1 R2 f0 f1 f2 hRow hv0 hv2 A0 A2 hn0 hn2 hi hi3 e
      generalize vs 1 = v1 at *
      go_wp2
      clear hi33
      go_loopw [8, 19, 20] (fun _ ta ti wr' => ∃ (at_ i : Nat), ta = .int .i64 (at_ : Int) ∧ ti = .int .i64 (i : Int) ∧ i ≤ n2 ∧ AtOk l0 l2 at_ i ∧ Below wc.heap.size wc wr') (fun _ _ ti _ => n2 - (intOf ti).toNat)
      case atStart => exact ⟨0, 0, rfl, rfl, Nat.zero_le _, HAT.out, HB0.out⟩
      case round =>
        clear HAT HB0
        obtain ⟨at_, i, rfl, rfl, hi2, hat, hbr⟩ := hrel
        have HBR : Hid _ := hidden hbr
        obtain ⟨c00, c01, c02⟩ := HC.out _ hbr
        by_cases hi : i < n2
        · have hii : (i : Int) < (n2 : Int) := by omega
          have HAT : Hid _ := hidden hat
          clear hat hbr c00 c01
          go_wp2
          clear c02
          go_loopw [19] (fun ta wr'' => ∃ (at_ : Nat), ta = .int .i64 (at_ : Int) ∧ AtOk l0 l2 at_ i ∧ Below wc.heap.size wc wr'') (fun ta _ => n0 - (intOf ta).toNat)
          case atStart => exact ⟨at_, rfl, HAT.out, HBR.out⟩
          case round =>
            clear HAT HBR
            obtain ⟨at_, rfl, hat, hbr⟩ := hrel
            have hi' : i < l2.length := by rw [← HN.out.2]; exact hi
            have ha' : at_ < l0.length := hat.lt hi'
            have ha : at_ < n0 := by rw [HN.out.1]; exact ha'
            have haa : (at_ : Int) < (n0 : Int) := by omega
            obtain ⟨c00, _, c02⟩ := HC.out _ hbr
            obtain ⟨g0, oa0, oc0, rfl, hg0, d0, d1⟩ := HA0.out at_ ha'
            obtain ⟨g2, oa2, oc2, rfl, hg2, u0, u1⟩ := HA2.out i hi'
            have d0 := (hbr.cell (p := ⟨g0, at_ * 2, none⟩) hg0).trans d0
            have d1 := (hbr.cell (p := ⟨g0, at_ * 2 + 1, none⟩) hg0).trans d1
            have u0 := (hbr.cell (p := ⟨g2, i * 2, none⟩) hg2).trans u0
            have u1 := (hbr.cell (p := ⟨g2, i * 2 + 1, none⟩) hg2).trans u1
            have HBR : Hid _ := hidden hbr
            by_cases he : l0[at_].1 = l2[i].1
            · have hle := hat.here HS0.out hi' ha' he
              have HAT : Hid _ := hidden hat
              rw [← he] at u0
              generalize l0[at_].1 = i0 at *
              generalize l0[at_].2.length = m0 at *
              generalize l2[i].2.length = m2 at *
              have hne : ((i0 : Int) != (i0 : Int)) = false := by simp
              have hgt : ¬ (m0 : Int) < (m2 : Int) := by omega
              have hge : ¬ (n0 : Int) ≤ (at_ : Int) := by omega
              clear hat he hbr
              go_wp2
              go_quiet (fail)
              go_wp2
              go_quiet (fail)
              go_wp2
              go_roundw
              case rel => exact ⟨at_, i + 1, rfl, by go_num, by omega, HAT.out.up, HBR.out.trans (below_drewN0 _ _ |>.mono HBR.out.size)⟩
              case measure => simp [intOf]; omega
            · have HNX : Hid _ := hidden (hat.next HS0.out HS2.out hi' ha' he)
              generalize l0[at_].1 = i0 at *
              generalize l2[i].1 = i2 at *
              have hne : ((i0 : Int) != (i2 : Int)) = true := by simp; omega
              clear hat he hbr
              go_wp2
              go_quiet (fail)
              go_wp2
              go_roundw
              case rel => exact ⟨at_ + 1, by go_num, HNX.out, HBR.out.trans (below_drewN0 _ _ |>.mono HBR.out.size)⟩
              case measure => simp [intOf]; omega
        · have hii : ¬ (i : Int) < (n2 : Int) := by omega
          have hE := HEQ.out
          clear hat hbr
          go_wp2_with fail
          refine (hE _ HBR.out).mono ?_
          rintro e w9 ⟨rfl, b9⟩
          go_wp2
          go_ret
          exact ⟨rfl, HBX.out.trans ((HBR.out.trans (b9.mono HBR.out.size)).mono HBX.out.size)⟩
end Go.Proofs.YtlabdbfmfejkaaaDoor
