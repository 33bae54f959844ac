/- RootsCount, walked. -/
import Derived.Test.YtfoodmlgknckgaaRoS
import Derived.Test.YtfoodmlgknckgaaRoCm
import Derived.Deep.CutRange
import Derived.Deep.CutBlock
import Derived.Deep.RegionHeld
namespace Go.Proofs.Ytfoodmlgknckgaa
open Go.RowKit

theorem wrap_mod2 (n : Nat) : (n : Int) % 2 = ((n % 2 : Nat) : Int) := by omega

set_option maxRecDepth 20000 in
set_option maxHeartbeats 2000000 in
theorem rootsCount_any (v : Value) (l : List StepR) (m : Int) (w : World) (hv : WS w v 5 cStepR l) :
    Calls Try.prog 6 #[v, .int .i64 m] w fun e w' => e = .returned (.bool true) ∧ Below w.heap.size w w' := by
  have hNew : Calls Try.prog 7 #[.int .i64 4, .int .i64 8] w fun e w' => ∃ rb tb gs, e = .returned (.tuple #[.pointer (some ⟨rb, 0, none⟩), .int .i64 0]) ∧ LR w w.heap.size w' rb tb 4 gs 8 (List.replicate 4 (List.replicate 8 (0, 0))) := LR.new 4 8 (by omega) (by omega) w
  obtain ⟨ao, vc, rfl, hlc, _⟩ := hv.slice
  have HV : Hid _ := hidden hv
  clear hv
  generalize hG : w.heap.size = B at *
  have hm4 := pickN_lt m 4 (by omega)
  go_enter Try.func6, Try.ntmps6
  go_wp2_with fail
  refine hNew.mono ?_
  rintro e w1 ⟨rb, tb, gs, rfl, x1⟩
  go_wp2_with fail
  refine (rknown_any _).mono ?_
  rintro e w2 ⟨rfl, b2⟩
  have x2 := x1.read b2
  clear x1 b2 hNew
  go_wp2_with fail
  refine (pick_any m 4 (by omega) (by omega) _).mono ?_
  rintro e _ ⟨rfl, rfl⟩
  generalize pickN m 4 = mm at *
  go_upto_block 0 with fail
  go_cut [7, 8, 9, 10, 11] from 31 to 93 (fun t7 _ _ _ _ wc => ∃ (k : Nat) (S : List Rw), k ≤ 100 ∧ t7 = .int .i64 (k : Int) ∧ Good S ∧ (k = 0 → allR S = []) ∧ LR w B wc rb tb 4 gs 8 S)
  case first =>
    go_wp2
    go_loopw [7, 8] (fun t7 t8 wr => ∃ (k : Nat) (S : List Rw), k ≤ l.length ∧ k ≤ 100 ∧ t7 = .int .i64 (k : Int) ∧ t8 = .int .i64 (k : Int) ∧ Good S ∧ (k = 0 → allR S = []) ∧ LR w B wr rb tb 4 gs 8 S) (fun _ i _ => 100 - (intOf i).toNat)
    case atStart => exact ⟨0, _, Nat.zero_le _, Nat.zero_le _, rfl, rfl, good0, fun _ => all0, x2⟩
    case round =>
      obtain ⟨k, S, hk, hk5, rfl, rfl, hgd, h00, x⟩ := hrel
      clear x2
      by_cases hlt : k < l.length
      · by_cases hlt5 : k < 100
        · obtain ⟨b, off, rfl, hbl, h0, h1, h2, h3, _⟩ := HV.out.stepR k hlt
          have hk4 := pickN_lt l[k].m 4 (by omega)
          have hs8 := pickN_lt l[k].s 8 (by omega)
          have hp2 := pickN_lt l[k].xn 2 (by omega)
          have hq2 : l[k].xs % 2 < 2 := Nat.mod_lt _ (by omega)
          have hvo : vOk (((1 + pickN l[k].xn 2 : Nat) : Int), 1 + l[k].xs % 2) := by
            unfold vOk
            rcases (show pickN l[k].xn 2 = 0 ∨ pickN l[k].xn 2 = 1 by omega) with e | e <;> rcases (show l[k].xs % 2 = 0 ∨ l[k].xs % 2 = 1 by omega) with e' | e' <;> rw [e, e'] <;> simp
          obtain ⟨hB1, hG1⟩ := good_set hgd hk4 hs8 hvo
          have hS := fun W (y : LR w B W rb tb 4 gs 8 S) => y.set (pickN l[k].m 4 : Int) (pickN l[k].s 8 : Int) ((1 + pickN l[k].xn 2 : Nat) : Int) (1 + l[k].xs % 2)
          rw [hB1] at hS
          have hOo := fun (h : mm ≠ pickN l[k].m 4) => of_other (S := S) (i := pickN l[k].m 4) (j := pickN l[k].s 8) (x := (((1 + pickN l[k].xn 2 : Nat) : Int), 1 + l[k].xs % 2)) h
          have hO1 := fun W (y : LR w B W rb tb 4 gs 8 S) => y.of (mm : Int)
          have hO2 := fun W S' (y : LR w B W rb tb 4 gs 8 S') => y.of (mm : Int)
          have hrem : (l[k].xs : Int) % 2 = ((l[k].xs % 2 : Nat) : Int) := wrap_mod2 _
          have hrem2 : (l[k].xs : Int).tmod 2 = ((l[k].xs % 2 : Nat) : Int) := by rw [← hrem]; exact Int.tmod_eq_emod_of_nonneg (by omega)
          generalize setS S (pickN l[k].m 4 : Int) (pickN l[k].s 8 : Int) (((1 + pickN l[k].xn 2 : Nat) : Int), 1 + l[k].xs % 2) = S' at *
          have hA : (1 : Int) + (pickN l[k].xn 2 : Int) = ((1 + pickN l[k].xn 2 : Nat) : Int) := by omega
          have hQ : (1 : Int) + ((l[k].xs % 2 : Nat) : Int) = ((1 + l[k].xs % 2 : Nat) : Int) := by omega
          have wA : IntKind.i64.wrap ((1 + pickN l[k].xn 2 : Nat) : Int) = ((1 + pickN l[k].xn 2 : Nat) : Int) := by
            simp [IntKind.wrap, IntKind.bits, IntKind.signed]; omega
          have wQ : IntKind.u64.wrap ((1 + l[k].xs % 2 : Nat) : Int) = ((1 + l[k].xs % 2 : Nat) : Int) := by
            simp [IntKind.wrap, IntKind.bits, IntKind.signed]; omega
          generalize 1 + pickN l[k].xn 2 = A at *
          generalize 1 + l[k].xs % 2 = Q at *
          generalize l[k].xs % 2 = q at *
          have hPk1 := fun W => pick_any l[k].m 4 (by omega) (by omega) W
          have hPk2 := fun W => pick_any l[k].xn 2 (by omega) (by omega) W
          have hPk3 := fun W => pick_any l[k].s 8 (by omega) (by omega) W
          generalize pickN l[k].xn 2 = p at *
          generalize pickN l[k].m 4 = km at *
          generalize pickN l[k].s 8 = ks at *
          generalize l[k].m = pm at *
          generalize l[k].s = ps at *
          generalize l[k].xn = pn at *
          generalize l[k].xs = px at *
          have hcc : ∀ W, Below B w W → W.cell? ⟨b, off + k * 5, none⟩ = some (.int .i64 pm) ∧ W.cell? ⟨b, off + k * 5 + 1, none⟩ = some (.int .i64 ps) ∧ W.cell? ⟨b, off + k * 5 + 2, none⟩ = some (.int .i64 pn) ∧ W.cell? ⟨b, off + k * 5 + 3, none⟩ = some (.int .u64 (px : Int)) := fun W hW =>
            ⟨(hW.cell (p := ⟨b, off + k * 5, none⟩) (by show b < B; omega)).trans h0, (hW.cell (p := ⟨b, off + k * 5 + 1, none⟩) (by show b < B; omega)).trans h1, (hW.cell (p := ⟨b, off + k * 5 + 2, none⟩) (by show b < B; omega)).trans h2, (hW.cell (p := ⟨b, off + k * 5 + 3, none⟩) (by show b < B; omega)).trans h3⟩
          obtain ⟨d0, d1, d2, d3⟩ := hcc _ x.bel
          have HS : Hid _ := hidden hS
          have HO1 : Hid _ := hidden hO1
          have HO2 : Hid _ := hidden hO2
          have HOo : Hid _ := hidden hOo
          have HG1 : Hid _ := hidden hG1
          have HC : Hid _ := hidden hcc
          have HP3 : Hid _ := hidden hPk3
          have hx0 := x.le
          have hxb : b < wr.heap.size := by omega
          have HX : Hid _ := hidden x
          have HS4 : Hid (0 < S.length) := by
            have e : 0 < S.length := by rw [hgd.len]; omega
            exact e
          clear h0 h1 h2 h3 hS hO1 hO2 hOo hG1 hcc hB1 hvo hgd h00 hPk3 x hk4 hs8 hp2 hq2
          go_wp2_with (go_at_call 14; refine (hPk1 _).mono ?_; rintro e _ ⟨rfl, rfl⟩)
          clear hPk1
          go_cut [10] from 47 to 63 (fun t wc => t = .pointer (some ⟨wr.heap.size, 0, none⟩) ∧ wc = (wr.alloc (.cells #[.int .i64 (A : Int), .int .u64 (Q : Int)] 30)).drew)
          case first =>
           go_region_held (fun W => W.cell? ⟨b, off + k * 5 + 2, none⟩ = some (.int .i64 pn) ∧ W.cell? ⟨b, off + k * 5 + 3, none⟩ = some (.int .u64 (px : Int))) (go_keep) ((go_at_call 14; refine (hPk2 _).mono ?_; rintro e _ ⟨rfl, rfl⟩))
           all_goals
            go_wp2
            go_meet
            exact ⟨rfl, rfl⟩
          case rest =>
           obtain ⟨rfl, rfl⟩ := hcut
           have x := HX.out
           have hnb : ¬ wr.heap.size ∈ gs := fun e => by have := x.x.lt _ (Or.inr (Or.inr e)) HS4.out; omega
           have qb : Row (wr.alloc (.cells #[.int .i64 (A : Int), .int .u64 (Q : Int)] 30)) wr.heap.size 30 [.int .i64 (A : Int), .int .u64 (Q : Int)] := heap_alloc_new wr _
           have qbd := qb.below ((Below.refl _ _).drew)
           have x4 := (x.read (bel_alloc wr (.cells #[.int .i64 (A : Int), .int .u64 (Q : Int)] 30))).read ((Below.refl _ _).drew)
           generalize (wr.alloc (.cells #[.int .i64 (A : Int), .int .u64 (Q : Int)] 30)).drew = w4 at *
           clear x HX d0 d1 d2 d3 qb hPk2 hA hQ wA wQ hrem hrem2
           go_wp2_with fail
           refine (HO1.out _ x4).mono ?_
           rintro e w5 ⟨v5, rfl, o5, x5, b5⟩
           have q5 := qbd.below b5
           obtain ⟨a5, c5, rfl, _⟩ := o5.slice
           have q5d := q5.below ((Below.refl _ _).drew)
           have x5d := x5.read ((Below.refl _ _).drew)
           have d4 := q5.cell 0 (by simp)
           have d5 := q5.cell 1 (by simp)
           simp only [List.getElem_cons_succ, List.getElem_cons_zero] at d4 d5
           obtain ⟨_, d1, _, _⟩ := HC.out _ x5.bel
           have HX5 : Hid _ := hidden x5d
           have HQ5 : Hid _ := hidden q5d
           generalize hbo : wr.heap.size = bo at *
           have HNB : Hid (¬ bo ∈ gs) := hnb
           clear x4 qbd o5 b5 x5 q5 q5d x5d HO1 hnb
           obtain ⟨N5, hN5⟩ : ∃ N5, N5 = (ofR S (mm : Int)).length := ⟨_, rfl⟩
           rw [← hN5]
           have HN5 : Hid (N5 = (ofR S (mm : Int)).length) := hN5
           clear hN5
           by_cases hne : km = mm
           · have hneq : ((km : Int) != (mm : Int)) = false := by rw [hne]; exact bne_self_eq_false _
             clear hne
             go_wp2
             go_cut [91] from 68 to 91 (fun t wc => t = .bool false ∧ LR w B wc rb tb 4 gs 8 S')
             case first =>
               first | go_region_held (fun W => W.cell? ⟨b, off + k * 5 + 1, none⟩ = some (.int .i64 ps) ∧ W.cell? ⟨bo, 0, none⟩ = some (.int .i64 (A : Int)) ∧ W.cell? ⟨bo, 1, none⟩ = some (.int .u64 (Q : Int))) (go_keep) (first
                 | (go_at_call 14; refine (HP3.out _).mono ?_; rintro e _ ⟨rfl, rfl⟩)
                 | (go_at_call 9; refine (HS.out _ HX5.out).mono ?_; rintro e w6 ⟨rfl, x6, k6⟩; obtain ⟨_, e1, _, _⟩ := HC.out _ x6.bel; have q6 := HQ5.out.kept k6 HNB.out; have e4 := q6.cell 0 (by simp); have e5 := q6.cell 1 (by simp); simp only [List.getElem_cons_succ, List.getElem_cons_zero] at e4 e5; clear q6 k6)) | fail
               all_goals
                 go_wp2
                 go_meet
                 exact ⟨rfl, x6⟩
             case rest =>
               obtain ⟨rfl, x6⟩ := hcut
               obtain ⟨w6, hw6⟩ : ∃ x, x = wc := ⟨_, rfl⟩
               subst hw6
               clear HS HO2 HOo HC HP3 HX5 HQ5
               go_wp2
               go_roundw
               case rel => exact ⟨k + 1, S', by omega, by omega, by go_num, by go_num, HG1.out, fun h => by omega, x6⟩
               case measure => simp [intOf]; omega
           · have hneq : ((km : Int) != (mm : Int)) = true := by rw [bne_iff_ne]; omega
             have HOm : Hid _ := hidden (HOo.out (fun e => hne e.symm))
             clear hne HOo
             go_wp2
             go_cut [91] from 68 to 91 (fun t wc => t = .bool false ∧ LR w B wc rb tb 4 gs 8 S')
             case first =>
               first | go_region_held (fun W => W.cell? ⟨b, off + k * 5 + 1, none⟩ = some (.int .i64 ps) ∧ W.cell? ⟨bo, 0, none⟩ = some (.int .i64 (A : Int)) ∧ W.cell? ⟨bo, 1, none⟩ = some (.int .u64 (Q : Int))) (go_keep) (first
                 | (go_at_call 14; refine (HP3.out _).mono ?_; rintro e _ ⟨rfl, rfl⟩)
                 | (go_at_call 9; refine (HS.out _ HX5.out).mono ?_; rintro e w6 ⟨rfl, x6, k6⟩; obtain ⟨_, e1, _, _⟩ := HC.out _ x6.bel; have q6 := HQ5.out.kept k6 HNB.out; have e4 := q6.cell 0 (by simp); have e5 := q6.cell 1 (by simp); simp only [List.getElem_cons_succ, List.getElem_cons_zero] at e4 e5; have HQ6 : Hid _ := hidden q6; clear q6 k6)
                 | (go_at_call 10; refine (HO2.out _ _ x6).mono ?_; rintro e w7 ⟨v7, rfl, o7, x7, b7⟩; rw [HOm.out] at o7; obtain ⟨a7, c7, hv7, _⟩ := o7.slice; rw [← HN5.out] at hv7; subst hv7; obtain ⟨_, e6, _, _⟩ := HC.out _ x7.bel; have q7 := HQ6.out.below b7; have e7 := q7.cell 0 (by simp); have e8 := q7.cell 1 (by simp); simp only [List.getElem_cons_succ, List.getElem_cons_zero] at e7 e8; clear q7 b7 o7)) | fail
               all_goals
                 go_wp2
                 go_meet
                 exact ⟨rfl, x7⟩
             case rest =>
               obtain ⟨rfl, x6⟩ := hcut
               obtain ⟨w6, hw6⟩ : ∃ x, x = wc := ⟨_, rfl⟩
               subst hw6
               clear HS HO2 HOm HC HP3 HX5 HQ5
               go_wp2
               go_roundw
               case rel => exact ⟨k + 1, S', by omega, by omega, by go_num, by go_num, HG1.out, fun h => by omega, x6⟩
               case measure => simp [intOf]; omega
        · go_wp2
          go_meet
          exact ⟨k, S, hk5, rfl, hgd, h00, x⟩
      · go_wp2
        go_meet
        exact ⟨k, S, hk5, rfl, hgd, h00, x⟩
  case rest =>
    obtain ⟨k, S, hk, rfl, hgd, h00, x3⟩ := hcut
    obtain ⟨w3, hw3⟩ : ∃ x, x = wc := ⟨_, rfl⟩
    subst hw3
    clear x2 HV hlc hm4
    have hC := fun (a : Int) (n : Nat) W (y : LR w B W rb tb 4 gs 8 S) => y.count a n
    have hAl := fun W (y : LR w B W rb tb 4 gs 8 S) => y.all
    have hle := tot_le S hgd
    have hts := tot_start S
    have hst := tot_step S
    have htn := tot_next S
    have hte := tot_end hgd
    have hae := all_end hgd
    have hC0 := hC 0 0
    rw [← hts] at hC0
    have HC : Hid _ := hidden hC
    have HA : Hid _ := hidden hAl
    have HL : Hid _ := hidden hle
    have HT : Hid _ := hidden hst
    have HN : Hid _ := hidden htn
    have HE : Hid _ := hidden hte
    have HAE : Hid _ := hidden hae
    have HTS : Hid _ := hidden hts
    have H00 : Hid _ := hidden h00
    clear hC hAl hle hst htn hte hae hts h00 hgd
    go_wp2_with fail
    refine (hC0 _ x3).mono ?_
    rintro e w4 ⟨rfl, x4, _⟩
    clear hC0 x3
    go_upto_block 2 with fail
    go_cut [12, 13, 14] from 97 to 112 (fun t12 _ _ wc => t12 = .int .i64 32 ∧ LR w B wc rb tb 4 gs 8 S)
    case first =>
      go_wp2
      go_loopw [12, 13] (fun t12 t13 wr => ∃ a : Nat, (1 ≤ a ∧ a ≤ 3) ∧ t12 = .int .i64 (totN S a 1 : Int) ∧ t13 = .int .i64 (a : Int) ∧ LR w B wr rb tb 4 gs 8 S) (fun _ t _ => 3 - (intOf t).toNat)
      case atStart => exact ⟨1, by omega, rfl, rfl, x4⟩
      case round =>
        obtain ⟨a, ha, rfl, rfl, x5⟩ := hrel
        clear x4
        by_cases hlt : (a : Int) ≤ 2
        · have HNa := HN.out a ⟨ha.1, by omega⟩
          have HNx : Hid _ := hidden HNa
          clear HNa
          go_wp2
          go_loopw [12, 14] (fun t12 t14 wr => ∃ b : Nat, (1 ≤ b ∧ b ≤ 3) ∧ t12 = .int .i64 (totN S a b : Int) ∧ t14 = .int .i64 (b : Int) ∧ LR w B wr rb tb 4 gs 8 S) (fun _ t _ => 3 - (intOf t).toNat)
          case atStart => exact ⟨1, by omega, rfl, rfl, x5⟩
          case round =>
            obtain ⟨b, hb, rfl, rfl, x6⟩ := hrel
            clear x5
            by_cases hlb : (b : Int) ≤ 2
            · have hC1 := HC.out (a : Int) b _ x6
              have h1 := HT.out a b ⟨ha.1, by omega⟩ ⟨hb.1, by omega⟩
              have h2 := HL.out a b
              have h3 := HL.out a (b + 1)
              have hcv : IntKind.u64.wrap (b : Int) = (b : Int) := by
                simp [IntKind.wrap, IntKind.bits, IntKind.signed]; omega
              have hsum : (totN S a b : Int) + (cntR S ((a : Int), b) : Int) = (totN S a (b + 1) : Int) := by omega
              have hc32 : cntR S ((a : Int), b) ≤ 32 := by omega
              clear h1
              generalize cntR S ((a : Int), b) = c at *
              obtain ⟨T1, hT1⟩ : ∃ T1, T1 = totN S a (b + 1) := ⟨_, rfl⟩
              rw [← hT1] at hsum h3
              have HT1 : Hid (T1 = totN S a (b + 1)) := hT1
              clear hT1
              generalize totN S a b = T0 at *
              go_wp2_with (go_at_call 12; refine hC1.mono ?_; rintro e w7 ⟨rfl, x7, _⟩)
              go_roundw
              case rel => exact ⟨b + 1, by omega, by rw [HT1.out], by go_num, x7⟩
              case measure => simp [intOf]; omega
            · have hb3 : b = 3 := by omega
              rw [hb3, ← HNx.out]
              clear hb3
              go_wp2
              go_roundw
              case rel => exact ⟨a + 1, by omega, rfl, by go_num, x6⟩
              case measure => simp [intOf]; omega
        · have ha3 : a = 3 := by omega
          rw [ha3, HE.out]
          clear ha3
          go_wp2
          go_meet
          exact ⟨rfl, x5⟩
    case rest =>
      obtain ⟨rfl, x5⟩ := hcut
      obtain ⟨w5, hw5⟩ : ∃ x, x = wc := ⟨_, rfl⟩
      subst hw5
      clear x4
      have hA1 := HA.out
      have hC0 := HC.out 0 0
      have hLa := HAE.out
      have hsub : (32 : Int) - (cntR S (0, 0) : Int) = ((allR S).length : Int) := by omega
      have hc32 : cntR S (0, 0) ≤ 32 := by omega
      have h0 : k = 0 → (allR S).length = 0 := fun h => by rw [H00.out h]; rfl
      have HH0 : Hid _ := hidden h0
      generalize cntR S (0, 0) = c0 at *
      obtain ⟨N, hN⟩ : ∃ N, N = (allR S).length := ⟨_, rfl⟩
      rw [← hN] at hsub hLa
      have HNn : Hid (N = (allR S).length) := hN
      have hAll : ∀ W (y : LR w B W rb tb 4 gs 8 S), Calls Try.prog 11 #[.pointer (some ⟨rb, 0, none⟩)] W fun e w' => ∃ ao c, e = .returned (.slice ao N c) ∧ LR w B w' rb tb 4 gs 8 S := fun W y => (hA1 W y).mono (fun e w' ⟨v, h1, h2, h3, _⟩ => by
        obtain ⟨ao, c, rfl, _⟩ := h2.slice
        exact ⟨ao, c, by rw [HNn.out]; exact h1, h3⟩)
      clear hA1 hN h0
      by_cases hk0 : k = 0
      · have hN0 : N = 0 := by rw [HNn.out]; exact HH0.out hk0
        subst hk0
        subst hN0
        go_wp2_with fail
        refine (hAll _ x5).mono ?_
        rintro e w6 ⟨ao6, c6, rfl, x6⟩
        clear x5
        go_wp2_with fail
        refine (hC0 _ x6).mono ?_
        rintro e w7 ⟨rfl, x7, _⟩
        clear x6 hC0
        go_wp2_with fail
        refine (hAll _ x7).mono ?_
        rintro e w8 ⟨ao8, c8, rfl, x8⟩
        have HB : Hid _ := hidden x8.bel
        clear x7 x8 hAll
        go_wp2
        go_ret
        exact ⟨rfl, HB.out⟩
      · have hk1 : (0 : Int) < (k : Int) := by omega
        go_wp2_with fail
        refine (hAll _ x5).mono ?_
        rintro e w6 ⟨ao6, c6, rfl, x6⟩
        clear x5
        go_wp2_with fail
        refine (hC0 _ x6).mono ?_
        rintro e w7 ⟨rfl, x7, _⟩
        have HB : Hid _ := hidden x7.bel
        clear x6 x7 hC0 hAll
        go_wp2
        go_ret
        exact ⟨rfl, HB.out⟩

end Go.Proofs.Ytfoodmlgknckgaa
