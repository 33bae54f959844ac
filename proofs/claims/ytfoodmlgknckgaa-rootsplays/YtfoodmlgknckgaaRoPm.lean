/- RootsPlays, walked: numbers that may be. -/
import Derived.Test.YtfoodmlgknckgaaRoQ
import Derived.Test.YtfoodmlgknckgaaRoPr
import Derived.Test.YtfoodmlgknckgaaRoS
import Derived.Deep.CutRange
import Derived.Deep.CutBlock
import Derived.Deep.RegionHeld
namespace Go.Proofs.Ytfoodmlgknckgaa
open Go.RowKit

theorem kept_set2 (w : World) (g i j : Nat) (u v : Value) : Kept w ((w.setCell ⟨g, i, none⟩ u).setCell ⟨g, j, none⟩ v) (fun k => k = g) :=
  (Kept.setCell w ⟨g, i, none⟩ u).trans (Kept.setCell _ ⟨g, j, none⟩ v) (fun _ _ e => e)
theorem wrap_mod3 (n : Nat) : (n : Int) % 3 = ((n % 3 : Nat) : Int) := by omega
theorem has_set (S : List Rw) (m s : Int) (x : Int × Nat) : hasB (setS S m s x) m s = hasB S m s := by
  cases h : setB S m s x with
  | false => rw [setS_no h]
  | true =>
    have hh : hasB S m s = true := by unfold setB at h; simp only [Bool.and_eq_true] at h; exact h.1
    have hr : rightI x = true := by unfold setB at h; simp only [Bool.and_eq_true] at h; exact h.2
    obtain ⟨i, j, rfl, rfl, hi, hj⟩ := hasB_nat hh
    rw [setS_at hi hj hr, hh]
    exact hasB_at (by simpa using hi) (by simpa using hj)

set_option maxRecDepth 20000 in
set_option maxHeartbeats 2000000 in
theorem rootsPlays_ok (M K : Nat) (h1 : 1 ≤ M ∧ M ≤ 4) (h2 : 1 ≤ K ∧ K ≤ 8) (v : Value) (l : List StepR) (w : World) (hv : WS w v 5 cStepR l) :
    Calls Try.prog 4 #[.int .i64 (M : Int), .int .i64 (K : Int), v] w fun e w' => e = .returned (.bool true) ∧ Below w.heap.size w w' := by
  have hNew := LR.new M K h1 h2 w
  obtain ⟨ao, vc, rfl, hlc, _⟩ := hv.slice
  have HV : Hid _ := hidden hv
  clear hv
  have h1a : (1 : Int) ≤ (M : Int) ∧ (M : Int) ≤ 4 := by omega
  have h2a : (1 : Int) ≤ (K : Int) ∧ (K : Int) ≤ 8 := by omega
  generalize hG : w.heap.size = B at *
  go_enter Try.func4, Try.ntmps4
  go_wp2_with fail
  refine hNew.mono ?_
  rintro e w1 ⟨rb, tb, gs, rfl, x1⟩
  go_wp2_with fail
  refine (rknown_any _).mono ?_
  rintro e w2 ⟨rfl, b2⟩
  have x2 := x1.read b2
  clear x1 b2 hNew
  go_wp2_with fail
  refine (TW.new x2 h1 h2 rfl).mono ?_
  rintro e w3 ⟨A, rfl, hrb, hAK, t3⟩
  subst hrb hAK
  clear x2
  go_upto_block 0 with fail
  go_cut [10, 11, 12, 13, 14] from 53 to 188 (fun _ _ _ _ _ wc => ∃ S, TW w B wc A S S)
  case first =>
    go_wp2
    go_loopw [10] (fun i wr => ∃ (k : Nat) (S : List Rw), k ≤ l.length ∧ k ≤ 300 ∧ i = .int .i64 (k : Int) ∧ TW w B wr A S S) (fun i _ => 300 - (intOf i).toNat)
    case atStart => exact ⟨0, _, Nat.zero_le _, Nat.zero_le _, rfl, t3⟩
    case round =>
      clear t3
      obtain ⟨w4, hw4⟩ : ∃ x, x = wr := ⟨_, rfl⟩
      subst hw4
      obtain ⟨k, S, hk, hk5, rfl, t⟩ := hrel
      by_cases hlt : (k : Int) < (l.length : Int)
      · by_cases hlt5 : (k : Int) < 300
        · obtain ⟨b, off, rfl, hbl, d0, d1, d2, d3, d4⟩ := HV.out.stepR k (by omega)
          have hkl : k < l.length := by omega
          generalize l[k].m = pm at *
          generalize l[k].s = ps at *
          generalize l[k].xn = pn at *
          generalize l[k].xs = px at *
          generalize l[k].near = nr at *
          have c0 := (t.bel.cell (p := ⟨b, off + k * 5, none⟩) (by show b < B; omega)).trans d0
          have c1 := (t.bel.cell (p := ⟨b, off + k * 5 + 1, none⟩) (by show b < B; omega)).trans d1
          have c2 := (t.bel.cell (p := ⟨b, off + k * 5 + 2, none⟩) (by show b < B; omega)).trans d2
          have c3 := (t.bel.cell (p := ⟨b, off + k * 5 + 3, none⟩) (by show b < B; omega)).trans d3
          have c4 := (t.bel.cell (p := ⟨b, off + k * 5 + 4, none⟩) (by show b < B; omega)).trans d4
          have hA := bel_alloc w4 (.cells #[.int .i64 pm, .int .i64 ps, .int .i64 pn, .int .u64 (px : Int), .bool nr] 39)
          have bx : BX5 (w4.alloc (.cells #[.int .i64 pm, .int .i64 ps, .int .i64 pn, .int .u64 (px : Int), .bool nr] 39)) A w4.heap.size pm ps pn px nr := ⟨heap_alloc_new w4 _, fun e => by have := t.lt _ e; omega⟩
          have ta := t.read hA
          have hgB := t.le
          clear d0 d1 d2 d3 d4 hA t hkl
          go_upto_if 68 with fail
          generalize w4.alloc (.cells #[.int .i64 pm, .int .i64 ps, .int .i64 pn, .int .u64 (px : Int), .bool nr] 39) = w5 at *
          generalize w4.heap.size = g at *
          clear c0 c1 c2 c3 c4
          go_cut [11] from 67 to 97 (fun t wc => t = .pointer (some ⟨g, 0, none⟩) ∧ ∃ (m' s' a' : Int) (n' : Nat), BX5 wc A g m' s' a' n' nr ∧ TW w B wc A S S)
          case first =>
            obtain ⟨c0, c1, c2, c3, c4⟩ := bx.c
            have f0 := bx.f
            cases nr with
            | false =>
              go_wp2
              go_meet
              exact ⟨rfl, pm, ps, pn, px, bx, ta⟩
            | true =>
              have hP1 := fun W => pick_any pm (M + 1) (by omega) (by omega) W
              have hP2 := fun W => pick_any ps (A.K + 1) (by omega) (by omega) W
              have hP3 := fun W => pick_any pn 3 (by omega) (by omega) W
              have e1 : ((M + 1 : Nat) : Int) = (M : Int) + 1 := by omega
              have e2 : ((A.K + 1 : Nat) : Int) = (A.K : Int) + 1 := by omega
              rw [e1] at hP1
              rw [e2] at hP2
              have hp3 := pickN_lt pn 3 (by omega)
              have hq3 : px % 3 < 3 := Nat.mod_lt _ (by omega)
              have hrem : (px : Int) % 3 = ((px % 3 : Nat) : Int) := wrap_mod3 _
              have hrem2 : (px : Int).tmod 3 = ((px % 3 : Nat) : Int) := by rw [← hrem]; exact Int.tmod_eq_emod_of_nonneg (by omega)
              have hA1 : (1 : Int) + (pickN pn 3 : Int) = ((1 + pickN pn 3 : Nat) : Int) := by omega
              have hQ1 : (1 : Int) + ((px % 3 : Nat) : Int) = ((1 + px % 3 : Nat) : Int) := by omega
              have wA : IntKind.i64.wrap ((1 + pickN pn 3 : Nat) : Int) = ((1 + pickN pn 3 : Nat) : Int) := by
                simp [IntKind.wrap, IntKind.bits, IntKind.signed]; omega
              have wQ : IntKind.u64.wrap ((1 + px % 3 : Nat) : Int) = ((1 + px % 3 : Nat) : Int) := by
                simp [IntKind.wrap, IntKind.bits, IntKind.signed]; omega
              generalize 1 + pickN pn 3 = Aa at *
              generalize 1 + px % 3 = Q at *
              generalize px % 3 = q at *
              generalize pickN pn 3 = p at *
              generalize pickN pm (M + 1) = m1 at *
              generalize pickN ps (A.K + 1) = s1 at *
              have b1 := (bx.set0 (m1 : Int)).set1 (s1 : Int)
              have hF : ∀ W W', Kept W W' (fun k => k = g) → TW w B W A S S → TW w B W' A S S := fun W W' hk y => y.other hk (fun k e => by have e' : k = g := e; omega) (fun k e => by have e' : k = g := e; rw [e']; exact bx.off)
              have HF : Hid _ := hidden hF
              have HB1 : Hid _ := hidden b1
              have HT : Hid _ := hidden ta
              clear e1 e2 hp3 hq3 bx ta b1 hF
              go_wp2_with (first
                | (go_at_call 14; refine (hP1 _).mono ?_; rintro e _ ⟨rfl, rfl⟩; clear hP1)
                | (go_at_call 14; refine (hP2 _).mono ?_; rintro e _ ⟨rfl, rfl⟩; clear hP2))
              have b6 := HB1.out
              have t6 := HF.out _ _ (kept_set2 w5 g 0 1 (.int .i64 (m1 : Int)) (.int .i64 (s1 : Int))) HT.out
              generalize (w5.setCell ⟨g, 0, none⟩ (.int .i64 (m1 : Int))).setCell ⟨g, 1, none⟩ (.int .i64 (s1 : Int)) = w6 at *
              clear HB1 HT c0 c1 c2 c3 c4 f0
              obtain ⟨c0, c1, c2, c3, c4⟩ := b6.c
              have f0 := b6.f
              have HB6 : Hid _ := hidden b6
              have HT6 : Hid _ := hidden t6
              clear b6 t6
              go_cut [11] from 81 to 92 (fun t wc => t = .pointer (some ⟨g, 0, none⟩) ∧ wc = ((w6.setCell ⟨g, 2, none⟩ (.int .i64 (Aa : Int))).setCell ⟨g, 3, none⟩ (.int .u64 (Q : Int))).drew)
              case first =>
                go_region_with (go_at_call 14; refine (hP3 _).mono ?_; rintro e _ ⟨rfl, rfl⟩)
                all_goals
                  go_wp2
                  go_meet
                  exact ⟨rfl, rfl⟩
              case rest =>
                obtain ⟨rfl, rfl⟩ := hcut
                have b7 := (HB6.out.set2 (Aa : Int) Q).kept (w' := ((w6.setCell ⟨g, 2, none⟩ (.int .i64 (Aa : Int))).setCell ⟨g, 3, none⟩ (.int .u64 (Q : Int))).drew) ((Kept.drew _).mono (fun _ _ e => e.elim))
                have t7 := (HF.out _ _ (kept_set2 w6 g 2 3 (.int .i64 (Aa : Int)) (.int .u64 (Q : Int))) HT6.out).read (w' := ((w6.setCell ⟨g, 2, none⟩ (.int .i64 (Aa : Int))).setCell ⟨g, 3, none⟩ (.int .u64 (Q : Int))).drew) ((Below.refl _ _).drew)
                generalize ((w6.setCell ⟨g, 2, none⟩ (.int .i64 (Aa : Int))).setCell ⟨g, 3, none⟩ (.int .u64 (Q : Int))).drew = w7 at *
                clear HB6 HT6 c0 c1 c2 c3 c4 f0 hP3 hA1 hQ1 wA wQ hrem hrem2
                obtain ⟨c0, c1, c2, c3, c4⟩ := b7.c
                have f0 := b7.f
                have HB7 : Hid _ := hidden b7
                have HT7 : Hid _ := hidden t7
                clear b7 t7
                go_wp2
                · go_meet
                  exact ⟨rfl, m1, s1, 0, 0, HB7.out.set2 0 0, HF.out _ _ (kept_set2 w7 g 2 3 (.int .i64 0) (.int .u64 0)) HT7.out⟩
                · go_meet
                  exact ⟨rfl, m1, s1, Aa, Q, HB7.out, HT7.out⟩
          case rest =>
            obtain ⟨rfl, m', s', a', n', bx', t'⟩ := hcut
            obtain ⟨w6, hw6⟩ : ∃ x, x = wc := ⟨_, rfl⟩
            subst hw6
            clear bx ta
            have hbe := t'.bel
            obtain ⟨c0, c1, c2, c3, _⟩ := bx'.c
            go_upto_region 19 with fail
            go_cut [12] from 98 to 108 (fun t wc => t = .bool (setB S m' s' (a', n')) ∧ BX5 wc A g m' s' a' n' nr ∧ TW w B wc A S S)
            case first =>
              have hH := t'.rhas m' s'
              have HBx : Hid _ := hidden bx'
              have HTx : Hid _ := hidden t'
              clear bx' t' hbe
              cases hh : hasB S m' s' with
              | false =>
                have e : setB S m' s' (a', n') = false := by unfold setB; rw [hh]; rfl
                have HE : Hid _ := hidden e
                rw [hh] at hH
                clear hh e
                go_wp2_with (go_at_call 15; refine hH.mono ?_; rintro e _ ⟨rfl, rfl⟩)
                go_meet
                exact ⟨by rw [HE.out], HBx.out, HTx.out⟩
              | true =>
                have e : setB S m' s' (a', n') = rightI (a', n') := by unfold setB; rw [hh]; rfl
                have HE : Hid _ := hidden e
                have hI := fun W => rid_any a' n' W
                rw [hh] at hH
                generalize rightI (a', n') = ri at *
                clear hh e
                go_wp2_with (first
                  | (go_at_call 15; refine hH.mono ?_; rintro e _ ⟨rfl, rfl⟩)
                  | (go_at_call 16; refine (hI _).mono ?_; rintro e w7 ⟨rfl, b7⟩))
                go_meet
                exact ⟨by rw [HE.out], HBx.out.below b7, HTx.out.read b7⟩
            case rest =>
              obtain ⟨rfl, bx7, t7⟩ := hcut
              obtain ⟨w7, hw7⟩ : ∃ x, x = wc := ⟨_, rfl⟩
              subst hw7
              clear bx' t' hbe c0 c1 c2 c3
              obtain ⟨c0, c1, c2, c3, _⟩ := bx7.c
              have hSt := t7.set m' s' a' n'
              have hyes : setB S m' s' (a', n') = true → ∃ i j : Nat, m' = (i : Int) ∧ s' = (j : Int) ∧ ∃ hi : i < S.length, ∃ _ : j < S[i].length, setS S m' s' (a', n') = S.set i (S[i].set j (a', n')) := fun h => by
                have hh : hasB S m' s' = true := by unfold setB at h; simp only [Bool.and_eq_true] at h; exact h.1
                have hr : rightI (a', n') = true := by unfold setB at h; simp only [Bool.and_eq_true] at h; exact h.2
                obtain ⟨i, j, rfl, rfl, hi, hj⟩ := hasB_nat hh
                exact ⟨i, j, rfl, rfl, hi, hj, setS_at hi hj hr⟩
              have hno : setB S m' s' (a', n') = false → setS S m' s' (a', n') = S := fun h => setS_no h
              have hbb : (setB S m' s' (a', n') != setB S m' s' (a', n')) = false := bne_self_eq_false _
              have HY : Hid _ := hidden hyes
              have HN : Hid _ := hidden hno
              have HB7 : Hid _ := hidden bx7
              generalize setS S m' s' (a', n') = S' at *
              generalize setB S m' s' (a', n') = wb at *
              clear bx7 t7 hyes hno
              go_upto_if 119 with (go_at_call 9; refine hSt.mono ?_; rintro e w8 ⟨rfl, t8, k8⟩)
              have bx8 := HB7.out.kept k8
              clear hSt HB7 k8 c0 c1 c2 c3 hbb
              go_cut [12] from 119 to 132 (fun _ wc => BX5 wc A g m' s' a' n' nr ∧ TW w B wc A S' S')
              case first =>
                cases wb with
                | false =>
                  have e := HN.out rfl
                  subst e
                  go_wp2
                  go_meet
                  exact ⟨bx8, t8⟩
                | true =>
                  obtain ⟨i, j, rfl, rfl, hi, hj, hS'⟩ := HY.out rfl
                  obtain ⟨gp, hgp, p1, hr, hl⟩ := t8.y.at i hi
                  have p0 := t8.y.box
                  have hfw := t8.y.few
                  unfold maxLen at hfw
                  have e0 := idsV_len S[i]
                  have p2 := hr.cell (j * 2) (by omega)
                  have p3 := hr.cell (j * 2 + 1) (by omega)
                  have fr := hr.frozen
                  obtain ⟨c0, c1, c2, c3, _⟩ := bx8.c
                  obtain ⟨hp1, hp2⟩ := t8.put hi hj hgp (a', n')
                  rw [← hS'] at hp1
                  have hmem : A.has gp := Or.inr (Or.inr (Or.inr (List.mem_of_getElem? hgp)))
                  have hn1 : ¬ (A.pb = gp) := fun e => t8.y.off.1 (by rw [e]; exact List.mem_of_getElem? hgp)
                  have hn2 : ¬ (A.pt = gp) := fun e => t8.y.off.2 (by rw [e]; exact List.mem_of_getElem? hgp)
                  have hn3 : ¬ (g = gp) := fun e => bx8.off (by rw [e]; exact hmem)
                  have hn1' : ¬ (gp = A.pb) := fun e => hn1 e.symm
                  have hn2' : ¬ (gp = A.pt) := fun e => hn2 e.symm
                  have hn3' : ¬ (gp = g) := fun e => hn3 e.symm
                  have hiN : (i : Int) < (S.length : Int) := by omega
                  have hjK : (j : Int) < (A.K : Int) := by omega
                  have HP1 : Hid _ := hidden hp1
                  have HP2 : Hid _ := hidden hp2
                  have HB8 : Hid _ := hidden bx8
                  generalize (idsV S[i])[j * 2] = u0 at *
                  generalize (idsV S[i])[j * 2 + 1] = u1 at *
                  clear hp1 hp2 bx8 t8 hr hl e0 hmem hgp HY HN hS' hj hi
                  generalize S.length = NS at *
                  go_wp2
                  go_region_held (fun W => W.cell? ⟨A.pb, 0, none⟩ = some (.slice (some ⟨A.pt, 0, none⟩) NS A.pc) ∧ W.cell? ⟨A.pt, i, none⟩ = some (.slice (some ⟨gp, 0, none⟩) A.K A.K) ∧ W.cell? ⟨g, 0, none⟩ = some (.int .i64 (i : Int)) ∧ W.cell? ⟨g, 1, none⟩ = some (.int .i64 (j : Int)) ∧ W.cell? ⟨g, 2, none⟩ = some (.int .i64 a') ∧ W.cell? ⟨g, 3, none⟩ = some (.int .u64 (n' : Int))) (go_keep) (fail)
                  all_goals
                    go_wp2
                    go_meet
                    exact ⟨(HB8.out.kept HP2.out).kept ((Kept.drew _).mono (fun _ _ e => e.elim)), HP1.out.read ((Below.refl _ _).drew)⟩
              case rest =>
                obtain ⟨bx9, t9⟩ := hcut
                obtain ⟨w9, hw9⟩ : ∃ x, x = wc := ⟨_, rfl⟩
                subst hw9
                clear bx8 t8 HY HN
                cases hh : hasB S' m' s' with
                | true =>
                  obtain ⟨i, j, rfl, rfl, hi, hj⟩ := hasB_nat hh
                  have hGt := t9.get (i : Int) (j : Int)
                  rw [getR_at hi hj] at hGt
                  simp only at hGt
                  obtain ⟨gp, hgp, _, hr9, hl⟩ := t9.y.at i hi
                  have hiN : (i : Int) < (S'.length : Int) := by omega
                  have hjK : (j : Int) < (A.K : Int) := by omega
                  have hrow : ∀ W, Row W gp 30 (idsV S'[i]) → W.cell? ⟨gp, j * 2, none⟩ = some (.int .i64 S'[i][j].1) ∧ W.cell? ⟨gp, j * 2 + 1, none⟩ = some (.int .u64 (S'[i][j].2 : Int)) := fun W h => by
                    obtain ⟨e0, e1⟩ := idsV_at S'[i] j hj
                    exact ⟨h.at _ _ e0, h.at _ _ e1⟩
                  have hrr := fun W (h : TW w B W A S' S') => hrow W (h.y.rows i gp _ hgp (List.getElem?_eq_getElem hi))
                  generalize S'[i][j] = y at *
                  clear hr9 hl hrow hj hi
                  have HBx : Hid _ := hidden bx9
                  have HHh : Hid _ := hidden hh
                  have HRr : Hid _ := hidden hrr
                  obtain ⟨c0, c1, c2, c3, _⟩ := bx9.c
                  clear bx9 hh hrr t9
                  go_upto_region 25 with (go_at_call 17; refine hGt.mono ?_; rintro e w10 ⟨rfl, t10, b10⟩)
                  have t11 := t10.read (bel_alloc w10 (.cells #[.int .i64 y.1, .int .u64 (y.2 : Int)] 30))
                  have bx11 := (HBx.out.below b10).below (bel_alloc w10 (.cells #[.int .i64 y.1, .int .u64 (y.2 : Int)] 30))
                  have q11 : Row (w10.alloc (.cells #[.int .i64 y.1, .int .u64 (y.2 : Int)] 30)) w10.heap.size 30 [.int .i64 y.1, .int .u64 (y.2 : Int)] := heap_alloc_new w10 _
                  generalize w10.alloc (.cells #[.int .i64 y.1, .int .u64 (y.2 : Int)] 30) = w11 at *
                  generalize w10.heap.size = g2 at *
                  have HR1 : Hid (∀ W, Below w11.heap.size w11 W → W.cell? ⟨gp, j * 2, none⟩ = some (.int .i64 y.1) ∧ W.cell? ⟨gp, j * 2 + 1, none⟩ = some (.int .u64 (y.2 : Int))) := fun W hW => HRr.out W (t11.read hW)
                  have HH : Hid (∀ W, Below w11.heap.size w11 W → Calls Try.prog 15 #[.pointer (some ⟨A.pb, 0, none⟩), .int .i64 (i : Int), .int .i64 (j : Int)] W fun e w' => e = .returned (.bool true) ∧ W = w') := fun W hW => by
                    have := (t11.read hW).rhas (i : Int) (j : Int)
                    rw [HHh.out] at this
                    exact this
                  have HC : Hid (∀ W, Below w11.heap.size w11 W → Calls Try.prog 12 #[.pointer (some ⟨A.rb, 0, none⟩), .agg #[.int .i64 a', .int .u64 (n' : Int)]] W fun e w' => e = .returned (.int .i64 (cntR S' (a', n') : Int)) ∧ Below w11.heap.size w11 w') := fun W hW => ((t11.read hW).count a' n').mono (fun _ _ ⟨h1, _, h3⟩ => ⟨h1, hW.trans (h3.mono hW.size)⟩)
                  have HR : Hid (∀ W, Below w11.heap.size w11 W → Calls Try.prog 18 #[.pointer (some ⟨A.pb, 0, none⟩), .agg #[.int .i64 a', .int .u64 (n' : Int)]] W fun e w' => e = .returned (.int .i64 (cntR S' (a', n') : Int)) ∧ Below w11.heap.size w11 w') := fun W hW => ((t11.read hW).rcount a' n').mono (fun _ _ ⟨h1, _, h3⟩ => ⟨h1, hW.trans (h3.mono hW.size)⟩)
                  refine region25_yes w11 A.rb A.pb g g2 a' n' (cntR S' (a', n')) i j S'.length A.K A.pc A.pt gp y.2 y.1 hiN hjK (fun W hW => (bx11.below hW).c.1) (fun W hW => (bx11.below hW).c.2.1) (fun W hW => (bx11.below hW).c.2.2.1) (fun W hW => (bx11.below hW).c.2.2.2.1) (fun W hW => (q11.below hW).cell 0 (by simp)) (fun W hW => (q11.below hW).cell 1 (by simp)) (fun W hW => (t11.read hW).y.box) (fun W hW => (t11.read hW).y.tab i gp hgp) (fun W hW => (HR1.out W hW).1) (fun W hW => (HR1.out W hW).2) HH HC HR _ (fun _ _ _ _ _ h => h) _ _ _ _ _ _ _ _ _ _ _ _ _ _ _ _ _ _ _ _ _ _ _ _ _ _ _ _ _ _ _ _ _ _ _ _ _ _ _ _ _ _ _ _ _ _ _ _ _ _ _ _ _ _ _ _ _ _ _ _ _ _ _ _ _ _ _ _ _ _ _ _ _ _ _ _ _ _ _ _ _ _ _ _ _ _ _ _ _ _ _ _ _ _ _ _ _ _ _ _ _ _ _ _ _ _ _ _ _ _ _ _ _ _ _ _ _ _ _ _ _ _ _ _ _ _ _ _ _ _ _ _ _ _ _ _ _ _ _ _ _ _ _ _ _ _ _ _ _ _ _ _ _ _ _ _ _ _ _ _ _ _ _ _ _ _ _ _ _ _ _ _ _ _ _ _ _ _ _ _ _ _ _ _ _ _ _ _ _ _ _ _ _ _ _ _ _ _ _ _ _ _ ?_
                  intro _ _ _ _ _ _ _ _ _ _ _ _ _ _ _ _ _ _ _ _ _ _ _ _ _ _ _ _ _ _ _ _ _ _ _ _ _ _ _ _ _ _ _ _ _ _ w12 q12
                  have t12 := t11.read q12
                  clear t11 bx11 q11 HH HC HR HR1 HBx HHh HRr hGt c0 c1 c2 c3
                  go_wp2
                  go_roundw
                  case rel => exact ⟨k + 1, S', by omega, by omega, by go_num, t12⟩
                  case measure => simp [intOf]; omega
                | false =>
                  have hGt := t9.get m' s'
                  rw [getR_no hh] at hGt
                  simp only at hGt
                  have HBx : Hid _ := hidden bx9
                  have HHh : Hid _ := hidden hh
                  obtain ⟨c0, c1, c2, c3, _⟩ := bx9.c
                  clear bx9 hh t9
                  go_upto_region 25 with (go_at_call 17; refine hGt.mono ?_; rintro e w10 ⟨rfl, t10, b10⟩)
                  have t11 := t10.read (bel_alloc w10 (.cells #[.int .i64 0, .int .u64 0] 30))
                  have bx11 := (HBx.out.below b10).below (bel_alloc w10 (.cells #[.int .i64 0, .int .u64 0] 30))
                  have q11 : Row (w10.alloc (.cells #[.int .i64 0, .int .u64 0] 30)) w10.heap.size 30 [.int .i64 0, .int .u64 0] := heap_alloc_new w10 _
                  generalize w10.alloc (.cells #[.int .i64 0, .int .u64 0] 30) = w11 at *
                  generalize w10.heap.size = g2 at *
                  have HH : Hid (∀ W, Below w11.heap.size w11 W → Calls Try.prog 15 #[.pointer (some ⟨A.pb, 0, none⟩), .int .i64 m', .int .i64 s'] W fun e w' => e = .returned (.bool false) ∧ W = w') := fun W hW => by
                    have := (t11.read hW).rhas m' s'
                    rw [HHh.out] at this
                    exact this
                  have HC : Hid (∀ W, Below w11.heap.size w11 W → Calls Try.prog 12 #[.pointer (some ⟨A.rb, 0, none⟩), .agg #[.int .i64 a', .int .u64 (n' : Int)]] W fun e w' => e = .returned (.int .i64 (cntR S' (a', n') : Int)) ∧ Below w11.heap.size w11 w') := fun W hW => ((t11.read hW).count a' n').mono (fun _ _ ⟨h1, _, h3⟩ => ⟨h1, hW.trans (h3.mono hW.size)⟩)
                  have HR : Hid (∀ W, Below w11.heap.size w11 W → Calls Try.prog 18 #[.pointer (some ⟨A.pb, 0, none⟩), .agg #[.int .i64 a', .int .u64 (n' : Int)]] W fun e w' => e = .returned (.int .i64 (cntR S' (a', n') : Int)) ∧ Below w11.heap.size w11 w') := fun W hW => ((t11.read hW).rcount a' n').mono (fun _ _ ⟨h1, _, h3⟩ => ⟨h1, hW.trans (h3.mono hW.size)⟩)
                  refine region25_no w11 A.rb A.pb g g2 a' n' (cntR S' (a', n')) m' s' (fun W hW => (bx11.below hW).c.1) (fun W hW => (bx11.below hW).c.2.1) (fun W hW => (bx11.below hW).c.2.2.1) (fun W hW => (bx11.below hW).c.2.2.2.1) (fun W hW => (q11.below hW).cell 0 (by simp)) (fun W hW => (q11.below hW).cell 1 (by simp)) HH HC HR _ (fun _ _ _ _ _ h => h) _ _ _ _ _ _ _ _ _ _ _ _ _ _ _ _ _ _ _ _ _ _ _ _ _ _ _ _ _ _ _ _ _ _ _ _ _ _ _ _ _ _ _ _ _ _ _ _ _ _ _ _ _ _ _ _ _ _ _ _ _ _ _ _ _ _ _ _ _ _ _ _ _ _ _ _ _ _ _ _ _ _ _ _ _ _ _ _ _ _ _ _ _ _ _ _ _ _ _ _ _ _ _ _ _ _ _ _ _ _ _ _ _ _ _ _ _ _ _ _ _ _ _ _ _ _ _ _ _ _ _ _ _ _ _ _ _ _ _ _ _ _ _ _ _ _ _ _ _ _ _ _ _ _ _ _ _ _ _ _ _ _ _ _ _ _ _ _ _ _ _ _ _ _ _ _ _ _ _ _ _ _ _ _ _ _ _ _ _ _ _ _ _ _ _ _ _ _ _ _ _ _ ?_
                  intro _ _ _ _ _ _ _ _ _ _ _ _ _ _ _ _ _ _ _ _ _ _ _ _ _ _ _ _ _ _ _ _ _ _ _ _ _ _ _ _ _ _ _ _ _ _ w12 q12
                  have t12 := t11.read q12
                  clear t11 bx11 q11 HH HC HR HBx HHh hGt c0 c1 c2 c3
                  go_wp2
                  go_roundw
                  case rel => exact ⟨k + 1, S', by omega, by omega, by go_num, t12⟩
                  case measure => simp [intOf]; omega
        · go_wp2
          go_meet
          exact ⟨S, t⟩
      · go_wp2
        go_meet
        exact ⟨S, t⟩
  case rest =>
    obtain ⟨S, t4⟩ := hcut
    obtain ⟨w4, hw4⟩ : ∃ x, x = wc := ⟨_, rfl⟩
    subst hw4
    clear t3 HV hlc
    go_upto_block 2 with fail
    go_cut [15] from 189 to 201 (fun _ wc => TW w B wc A S S)
    case first =>
      go_wp2
      go_loopw [15] (fun i wr => ∃ k : Nat, k ≤ M + 2 ∧ i = .int .i64 ((k : Int) - 1) ∧ TW w B wr A S S) (fun i _ => M + 2 - (intOf i + 1).toNat)
      case atStart => exact ⟨0, Nat.zero_le _, rfl, t4⟩
      case round =>
        clear t4
        obtain ⟨k, hk, rfl, t⟩ := hrel
        by_cases hlt : (k : Int) - 1 ≤ (M : Int)
        · have hO1 := t.of ((k : Int) - 1)
          have hO2 := fun W (y : TW w B W A S S) => y.rof ((k : Int) - 1)
          have hkM : k ≤ M + 1 := by omega
          have hk6 : (k : Int) - 1 ≤ 5 := by omega
          have hk7 : -1 ≤ (k : Int) - 1 := by omega
          have hkk : (k : Int) - 1 + 1 = ((k + 1 : Nat) : Int) - 1 := by omega
          have HKK : Hid _ := hidden hkk
          clear hkk
          generalize hI : (k : Int) - 1 = ii at *
          have HI : Hid _ := hidden hI
          clear hI t
          go_wp2_with (first
            | (go_at_call 10; refine hO1.mono ?_; rintro e w5 ⟨v5, rfl, o5, t5, b5⟩)
            | (go_at_call 20; refine (hO2 _ t5).mono ?_; rintro e w6 ⟨v6, rfl, o6, t6, b6⟩)
            | (go_at_call 19; refine (idsEq_any (ofR S ii) _ _ _ _ _ (o5.below b6) o6).mono ?_; rintro e w7 ⟨rfl, b7⟩; have t7 := t6.read b7; clear o5 o6 t5 t6 b5 b6 b7))
          go_roundw
          case rel => exact ⟨k + 1, by omega, by rw [HKK.out], t7⟩
          case measure => have := HI.out; simp [intOf]; omega
        · go_wp2
          go_meet
          exact t
    case rest =>
      have t5 := hcut
      obtain ⟨w5, hw5⟩ : ∃ x, x = wc := ⟨_, rfl⟩
      subst hw5
      clear hcut t4
      go_wp2_with fail
      refine t5.all.mono ?_
      rintro e w6 ⟨v6, rfl, o6, t6, b6⟩
      go_wp2_with fail
      refine t6.rall.mono ?_
      rintro e w7 ⟨v7, rfl, o7, t7, b7⟩
      go_wp2_with fail
      refine (idsEq_any (allR S) _ _ _ _ _ (o6.below b7) o7).mono ?_
      rintro e w8 ⟨rfl, b8⟩
      have HB : Hid _ := hidden (t7.read b8).bel
      clear t5 t6 t7 o6 o7 b6 b7 b8
      go_wp2
      go_ret
      exact ⟨rfl, HB.out⟩

end Go.Proofs.Ytfoodmlgknckgaa
