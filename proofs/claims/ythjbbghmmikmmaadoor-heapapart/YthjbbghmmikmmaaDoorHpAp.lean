/- HeapApart, walked. -/
import Derived.Test.YthjbbghmmikmmaaDoorHpAq
import Derived.Deep.CutRange
import Derived.Deep.CutBlock
import Derived.Deep.RegionHeld
namespace Go.Proofs.YthjbbghmmikmmaaDoor
open Go.RowKit

theorem setRef_ap {h : HSt} {n : Nat} {cc : Nat → Nat} {RF : Nat → Nat → Int × Nat} {VL : Nat → Nat → Nat} (hcs : h.cs = csA n cc RF VL) (k f : Nat) (h1 : 1 ≤ k) (h2 : k ≤ n) (hf : f < 2) (a : Int) (m : Nat) (hr : rightI (a, m) = true) :
    (h.setRefS k (f : Int) (a, m)).cs = csA n cc (up2 RF k f (a, m)) VL := by
  have hg := csA_get n cc RF VL k h1 h2
  rw [← hcs] at hg
  have e : (refR h.cs k (f : Int)).2 = 0 := by rw [refR_ok hg (by simpa using hf)]
  unfold HSt.setRefS
  rw [if_pos ⟨hr, e⟩]
  show updC h.cs k _ = _
  rw [hcs, Int.toNat_natCast, csA_setR n cc RF VL k f hf]
theorem setVal_ap {h : HSt} {n : Nat} {cc : Nat → Nat} {RF : Nat → Nat → Int × Nat} {VL : Nat → Nat → Nat} (hcs : h.cs = csA n cc RF VL) (k f : Nat) (h1 : 1 ≤ k) (h2 : k ≤ n) (hf : f < 2) (m : Nat) :
    (h.setValS k (f : Int) m).cs = csA n cc RF (up2 VL k f m) := by
  have hg := csA_get n cc RF VL k h1 h2
  rw [← hcs] at hg
  have e : (valR h.cs k (f : Int)).2 = 0 := by rw [valR_ok hg (by simpa using hf)]
  unfold HSt.setValS
  rw [if_pos e]
  show updC h.cs k _ = _
  rw [hcs, Int.toNat_natCast, csA_setV n cc RF VL k f hf]

set_option maxRecDepth 20000 in
set_option maxHeartbeats 4000000 in
theorem heapApart_any (n0 : Int) (xs : List StepH) (v : Value) (w : World) (hT : TB w) (hv : WS w v 8 cStepH xs) (hR : ∀ x ∈ xs, x.Ok) :
    Calls Tryd.prog 8 #[.int .i64 n0, v] w fun e w' => e = .returned (.bool true) ∧ Below w.heap.size w w' := by
  obtain ⟨ao, cap, rfl, _, _⟩ := hv.slice
  have hP := pickN_lt n0 10 (by omega)
  obtain ⟨n, hn⟩ : ∃ n, n = 2 + pickN n0 10 := ⟨_, rfl⟩
  have hni : (2 : Int) + (pickN n0 10 : Int) = (n : Int) := by omega
  have hn2 : 2 ≤ n := by omega
  have hn11 : n ≤ 11 := by omega
  clear hn hP
  have hNew : ∀ w, TB w → Calls Tryd.prog 9 #[.int .i64 1, .int .i64 512, .int .i64 16, .int .u64 0] w fun e w' => ∃ hb, e = .returned (.tuple #[.pointer (some ⟨hb, 0, none⟩), .int .i64 0]) ∧ HH w w.heap.size w' hb ⟨1, 16, 0, List.replicate 32 bk0, []⟩ (fun _ => False) := fun w hT => HH.new 1 32 16 0 (by omega) (by omega) (by omega) (by omega) w hT
  have HS0 : Hid (MkS ⟨1, 16, 0, List.replicate 32 bk0, []⟩ 0) := hidden MkS.zero
  have hGp := hT.size
  go_enter Tryd.func8, Tryd.ntmps8
  go_wp2_with fail
  refine (hNew _ hT).mono ?_
  rintro e w1 ⟨hb, rfl, x1⟩
  go_wp2_with fail
  refine (hknown_any _ x1.tb).mono ?_
  rintro e w2 ⟨rfl, hb2⟩
  have x2 := x1.read hb2
  clear x1 hb2 hNew
  go_upto_block 0 with (go_at_call 20; refine (pick_any n0 10 (by omega) (by omega) _).mono ?_; rintro e _ ⟨rfl, rfl⟩)
  generalize hG : w.heap.size = g at *
  go_cut [7, 8, 9] from 36 to 47 (fun _ _ _ wc => ∃ h, MkS h n ∧ HH w g wc hb h (fun _ => False))
  case first =>
    go_wp2
    go_loopw [7] (fun i wr => ∃ (k : Nat) (h : HSt), k ≤ n ∧ i = .int .i64 (k : Int) ∧ MkS h k ∧ HH w g wr hb h (fun _ => False)) (fun i _ => n - (intOf i).toNat)
    case atStart => exact ⟨0, _, Nat.zero_le _, rfl, HS0.out, x2⟩
    case round =>
      clear x2 HS0
      obtain ⟨k, h, hk, rfl, hS, x⟩ := hrel
      by_cases hlt : (k : Int) < (n : Int)
      · obtain ⟨e1, e2⟩ := hS.step x.ok (by omega)
        have hM := x.make 2 2
        rw [e1] at hM
        have HS : Hid _ := hidden e2
        have HK : Hid (k + 1 ≤ n) := by
          have e : k + 1 ≤ n := by omega
          exact e
        clear e1 e2 hS
        generalize h.makeS 2 2 = h' at *
        go_wp2_with (go_at_call 11; refine hM.mono ?_; rintro e w3 ⟨rfl, x3, _⟩)
        go_roundw
        case rel => exact ⟨k + 1, h', HK.out, by go_num, HS.out, x3⟩
        case measure => have := HK.out; simp [intOf]; omega
      · have : k = n := by omega
        subst this
        go_wp2
        go_meet
        exact ⟨h, hS, x⟩
  case rest =>
    obtain ⟨h, hS, x3⟩ := hcut
    obtain ⟨w3, hw3⟩ : ∃ x, x = wc := ⟨_, rfl⟩
    subst hw3
    clear x2 HS0
    obtain ⟨cc, hcs⟩ := hS.cs
    clear hS
    obtain ⟨i, hi, hz0, hz1, hz2⟩ := info_parts Tryd.infoID2
    obtain ⟨i2, hi2, hy0, hy1, hy2⟩ := info_parts Tryd.infoU2
    have hN1 : (n : Int) + 1 = ((n + 1 : Nat) : Int) := by omega
    have hm1 : ∀ W : World, (Instr.makeSlice 58 (.int .i64 ((n + 1 : Nat) : Int)) (.int .i64 ((n + 1 : Nat) : Int))).run Tryd.prog W = .ok (.slice (some ⟨W.heap.size, 0, none⟩) (n + 1) (n + 1)) (W.alloc (.cells (idsV (tbl n (fun _ _ => (0, 0)))).toArray 61)) := fun W => by
      have := run_make (P := Tryd.prog) W 58 61 i _ Tryd.underlying58 hi hz0 .i64 .i64 ((n + 1 : Nat) : Int) ((n + 1 : Nat) : Int) (by omega) (Int.le_refl _) (by rw [hz2]; omega) (by omega)
      rw [hz1, Int.toNat_natCast, made_ids2, ← tbl_const] at this
      exact this
    have hm2 : ∀ W : World, (Instr.makeSlice 59 (.int .i64 ((n + 1 : Nat) : Int)) (.int .i64 ((n + 1 : Nat) : Int))).run Tryd.prog W = .ok (.slice (some ⟨W.heap.size, 0, none⟩) (n + 1) (n + 1)) (W.alloc (.cells ((tbl n (fun _ _ => 0)).map uV).toArray 62)) := fun W => by
      have := run_make (P := Tryd.prog) W 59 62 i2 _ Tryd.underlying59 hi2 hy0 .i64 .i64 ((n + 1 : Nat) : Int) ((n + 1 : Nat) : Int) (by omega) (Int.le_refl _) (by rw [hy2]; omega) (by omega)
      rw [hy1, Int.toNat_natCast, made_u2, ← tbl_const] at this
      exact this
    clear hi hz0 hz1 hz2 hi2 hy0 hy1 hy2
    have y3 : ApS w g ((w3.alloc (.cells (idsV (tbl n (fun _ _ => (0, 0)))).toArray 61)).alloc (.cells ((tbl n (fun _ _ => 0)).map uV).toArray 62)) hb h n w3.heap.size (w3.heap.size + 1) cc (fun _ _ => (0, 0)) (fun _ _ => 0) (fun k => k = w3.heap.size ∨ k = w3.heap.size + 1) := by
      have hle := x3.le
      refine ⟨((x3.box _).box _).off _ (fun k hk => ?_), hcs, heap_a0 _ _ _, heap_a1 _ _ _, ⟨Or.inl rfl, Or.inr rfl⟩, by omega, by omega, by omega, by omega⟩
      rcases hk with e | e
      · exact Or.inl (Or.inr e)
      · exact Or.inr (by simpa using e)
    generalize (idsV (tbl n (fun _ _ => (0, 0)))).toArray = A at *
    generalize ((tbl n (fun _ _ => 0)).map uV).toArray = B at *
    obtain ⟨N1, HN1⟩ : ∃ N1, Hid (n + 1 = N1) := ⟨_, rfl⟩
    rw [HN1.out] at hN1 hm1 hm2
    go_upto_block 2 with fail
    generalize w3.heap.size = gr at *
    clear hm1 hm2 hcs x3 hN1
    go_cut [12, 13, 14, 15] from 54 to 129 (fun _ _ _ _ wc => ∃ h RF VL, ApS w g wc hb h n gr (gr + 1) cc RF VL (fun k => k = gr ∨ k = gr + 1))
    case first =>
      go_wp2
      go_loopw [12] (fun i wr => ∃ (k : Nat) (h : HSt) (RF : Nat → Nat → Int × Nat) (VL : Nat → Nat → Nat), k ≤ 200 ∧ i = .int .i64 (k : Int) ∧ ApS w g wr hb h n gr (gr + 1) cc RF VL (fun k => k = gr ∨ k = gr + 1)) (fun i _ => 200 - (intOf i).toNat)
      case atStart => exact ⟨0, h, _, _, by omega, rfl, y3⟩
      case round =>
        clear y3 h
        obtain ⟨k, h, RF, VL, hk, rfl, y⟩ := hrel
        by_cases hlt : k < xs.length ∧ k < 200
        · obtain ⟨hlt, h200⟩ := hlt
          have hk0 : (k : Int) < (xs.length : Int) := by omega
          have hk5 : (k : Int) < 200 := by omega
          have hvx := fun W (hW : Below g w W) => (hv.below (by rw [hG]; exact hW)).stepH k hlt
          obtain ⟨b, off, hao, hbl, hc0, hc1, hc2, hc3, hc4, _, _, hc7⟩ := hvx _ y.x.bel
          subst hao
          have hok := hR _ (List.getElem_mem hlt)
          generalize xs[k] = st at *
          obtain ⟨wh, sa, sb, ser, sv, xn, xs', near⟩ := st
          simp only at hc0 hc1 hc2 hc3 hc4 hc7 hok
          have hcc : ∀ W, Below g w W → W.cell? ⟨b, off + k * 8, none⟩ = some (.int .i64 wh) ∧ W.cell? ⟨b, off + k * 8 + 3, none⟩ = some (.int .u64 (ser : Int)) ∧ W.cell? ⟨b, off + k * 8 + 4, none⟩ = some (.int .u64 (sv : Int)) ∧ W.cell? ⟨b, off + k * 8 + 7, none⟩ = some (.bool near) := fun W hW => by
            obtain ⟨b', off', hao', _, e0, _, _, e3, e4, _, _, e7⟩ := hvx W hW
            cases hao'
            exact ⟨e0, e3, e4, e7⟩
          clear hvx
          have hpa := pickN_lt sa n (by omega)
          obtain ⟨K, hK⟩ : ∃ K, K = 1 + pickN sa n := ⟨_, rfl⟩
          have hKi : (1 : Int) + (pickN sa n : Int) = (K : Int) := by omega
          have hK1 : 1 ≤ K := by omega
          have hKn : K ≤ n := by omega
          have hKni : (K : Int) ≤ (n : Int) := by omega
          have hf2 := pickN_lt sb 2 (by omega)
          have hf2i : (pickN sb 2 : Int) < 2 := by omega
          have hw5 := pickN_lt wh 5 (by omega)
          obtain ⟨a5, ha5⟩ : ∃ a5, a5 = 1 + pickN wh 5 := ⟨_, rfl⟩
          have ha5i : (1 : Int) + (pickN wh 5 : Int) = (a5 : Int) := by omega
          have hs9 : (ser : Int) % 9 = ((ser % 9 : Nat) : Int) := by omega
          obtain ⟨m9, hm9⟩ : ∃ m9, m9 = 1 + ser % 9 := ⟨_, rfl⟩
          have hm9i : (1 : Int) + ((ser % 9 : Nat) : Int) = (m9 : Int) := by omega
          have hs9b : ((ser % 9 : Nat) : Int) ≤ 8 := by omega
          have hri : rightI ((a5 : Int), m9) = true := rightI_yes (Or.inr ⟨by omega, by omega, by omega, by omega⟩)
          have hn0 : 0 < n := by omega
          have hnB : n ≤ 4611686018427387904 := by omega
          have ha5b : a5 ≤ 5 := by omega
          have hm9b : m9 ≤ 9 := by omega
          clear hK ha5 hm9 hpa hw5
          generalize ser % 9 = r9 at *
          go_wp2_with fail
          refine (pick_any sa n hn0 hnB _).mono ?_
          rintro e _ ⟨rfl, rfl⟩
          go_wp2_with fail
          refine (pick_any sb 2 (by omega) (by omega) _).mono ?_
          rintro e _ ⟨rfl, rfl⟩
          generalize pickN sb 2 = f at *
          have hwa : IntKind.i64.wrap (a5 : Int) = (a5 : Int) := by
            simp [IntKind.wrap, IntKind.bits, IntKind.signed]
            omega
          have hwb : IntKind.u64.wrap (1 + Int.tmod (ser : Int) 9) = (m9 : Int) := by
            rw [show Int.tmod (ser : Int) 9 = (r9 : Int) by rw [← hs9]; rfl, hm9i]
            simp [IntKind.wrap, IntKind.bits, IntKind.signed]
            omega
          go_wp2
          go_cut [15] from 78 to 92 (fun t wc => t = .pointer (some ⟨wr.heap.size, 0, none⟩) ∧ wc = (wr.alloc (.cells #[.int .i64 (a5 : Int), .int .u64 (m9 : Int)] 31)).drew)
          case first =>
           go_region_held (fun W => W.cell? ⟨b, off + k * 8, none⟩ = some (.int .i64 wh) ∧ W.cell? ⟨b, off + k * 8 + 3, none⟩ = some (.int .u64 (ser : Int))) (go_keep) ((go_at_call 20; refine (pick_any _ 5 (by omega) (by omega) _).mono ?_; rintro e _ ⟨rfl, rfl⟩))
           all_goals
             go_wp2
             go_meet
             exact ⟨rfl, rfl⟩
          case rest =>
            obtain ⟨rfl, rfl⟩ := hcut
            have yb := (y.box (.cells #[.int .i64 (a5 : Int), .int .u64 (m9 : Int)] 31)).drew
            have rb : Row (wr.alloc (.cells #[.int .i64 (a5 : Int), .int .u64 (m9 : Int)] 31)).drew wr.heap.size 31 [.int .i64 (a5 : Int), .int .u64 (m9 : Int)] := heap_alloc_new wr _
            have d7 := (hcc _ yb.x.bel).2.2.2
            have hfr : (f : Int) < 2 := hf2i
            cases near
            · have hS := yb.x.setVal K (by omega) (f : Int) sv
              have HC : Hid _ := hidden (setVal_ap yb.cs K f hK1 hKn hf2 sv)
              have d4 := (hcc _ yb.x.bel).2.2.1
              generalize h.setValR K (f : Int) = er at *
              generalize h.setValS K (f : Int) sv = h' at *
              go_wp2_with (go_at_call 21; refine hS.mono ?_; rintro e w4 ⟨rfl, x4, k4⟩)
              obtain ⟨⟨rr4, rv4⟩, _, _⟩ := yb.go x4 k4 HC.out
              have e4 := (hcc _ x4.bel).2.2.1
              have dv := (tbl_at n VL K f hKn hf2)
              have dc := rv4.at (K * 2 + f) (uV (VL K f)) (by rw [List.getElem?_map, dv]; rfl)
              have df := rv4.frozen
              have hKN : (K : Int) < (N1 : Int) := by have := HN1.out; omega
              have HY : Hid _ := hidden (((ApS.setV x4 K f hf2 sv HC.out rr4 rv4 yb.inX yb.ne yb.ge).drew).off (fun k => k = gr ∨ k = gr + 1) (fun k e => Or.inl e) ⟨Or.inl rfl, Or.inr rfl⟩)
              generalize uV (VL K f) = old at *
              clear rr4 rv4 dv x4 k4 hS HC yb rb y hcc
              go_region
              go_wp2
              go_roundw
              case rel => exact ⟨k + 1, h', RF, _, by omega, by go_num, HY.out⟩
              case measure => simp [intOf]; omega
            · have hS := yb.x.setRef K (by omega) (f : Int) (a5 : Int) m9
              have HC : Hid _ := hidden (setRef_ap yb.cs K f hK1 hKn hf2 (a5 : Int) m9 hri)
              generalize h.setRefR K (f : Int) ((a5 : Int), m9) = er at *
              generalize h.setRefS K (f : Int) ((a5 : Int), m9) = h' at *
              go_wp2_with (go_at_call 25; refine hS.mono ?_; rintro e w4 ⟨rfl, x4, k4⟩)
              obtain ⟨⟨rr4, rv4⟩, _, _⟩ := yb.go x4 k4 HC.out
              have rb4 := its_row k4 (Or.inr rfl) rb
              have b0 := rb4.cell 0 (by simp)
              have b1 := rb4.cell 1 (by simp)
              simp only [List.getElem_cons_succ, List.getElem_cons_zero] at b0 b1
              have hq := tbl_at n RF K f hKn hf2
              have hql : K * 2 + f < (tbl n RF).length := by rw [tbl_len]; omega
              obtain ⟨q0, q1⟩ := idsV_at (tbl n RF) (K * 2 + f) hql
              rw [show (K * 2 + f) * 2 = K * 4 + f * 2 by omega] at q0 q1
              have c0 := rr4.at _ _ q0
              have c1 := rr4.at _ _ q1
              have cf := rr4.frozen
              have hKN : (K : Int) < (N1 : Int) := by have := HN1.out; omega
              have hbw : wr.heap.size < w4.heap.size := rb4.lt
              have hgw : gr < w4.heap.size := rr4.lt
              have hgne : gr < wr.heap.size := y.rr.lt
              have HY : Hid _ := hidden (((ApS.setR x4 K f hKn hf2 (a5 : Int) m9 HC.out rr4 rv4 yb.inX yb.ne yb.ge).drew).off (fun k => k = gr ∨ k = gr + 1) (fun k e => Or.inl e) ⟨Or.inl rfl, Or.inr rfl⟩)
              generalize (tbl n RF)[K * 2 + f].1 = o0 at *
              generalize (tbl n RF)[K * 2 + f].2 = o1 at *
              clear rr4 rv4 rb4 hq hql q0 q1 x4 k4 hS HC yb rb y hcc
              go_region
              go_wp2
              go_roundw
              case rel => exact ⟨k + 1, h', _, VL, by omega, by go_num, HY.out⟩
              case measure => simp [intOf]; omega
        · by_cases hk1 : (k : Int) < (xs.length : Int)
          · have hk2 : ¬ ((k : Int) < 200) := by omega
            go_wp2
            go_meet
            exact ⟨h, RF, VL, y⟩
          · go_wp2
            go_meet
            exact ⟨h, RF, VL, y⟩
    case rest =>
      obtain ⟨h', RF, VL, y4⟩ := hcut
      obtain ⟨w4, hw4⟩ : ∃ x, x = wc := ⟨_, rfl⟩
      subst hw4
      clear y3
      have hgd := guardID
      have heq := eqID
      go_wp2
      go_loopw [16] (fun i wr => ∃ k : Nat, 1 ≤ k ∧ k ≤ n + 1 ∧ i = .int .i64 (k : Int) ∧ ApS w g wr hb h' n gr (gr + 1) cc RF VL (fun k => k = gr ∨ k = gr + 1)) (fun i _ => n + 1 - (intOf i).toNat)
      case atStart => exact ⟨1, by omega, by omega, rfl, y4⟩
      case round =>
        clear y4
        obtain ⟨k, hk1, hk2, rfl, y⟩ := hrel
        by_cases hlt : (k : Int) ≤ (n : Int)
        · have hg := csA_get n cc RF VL k hk1 (by omega)
          rw [← y.cs] at hg
          have hO := y.x.objOk k (by omega) _ hg
          unfold Pl.v at hO
          simp only [List.length_cons, List.length_nil] at hO
          have hkN : (k : Int) < (N1 : Int) := by have := HN1.out; omega
          have HK : Hid (k + 1 ≤ n + 1) := by
            have e : k + 1 ≤ n + 1 := by omega
            exact e
          have hkn : k ≤ n := by omega
          have hA : ∀ (W : World) o, Below W.heap.size W (W.alloc o) := fun W o => (Below.refl _ _).alloc (Nat.le_refl _) o
          have HR : Hid (∀ W, Below wr.heap.size wr W → ApS w g W hb h' n gr (gr + 1) cc RF VL (fun k => k = gr ∨ k = gr + 1)) := fun W hB => ⟨y.x.read hB, y.cs, y.rr.below hB, y.rv.below hB, y.inX, y.ne, y.ge⟩
          clear hg y
          go_wp2_with fail
          refine hO.mono ?_
          rintro e w5 ⟨e1, e2, rfl, r1, r2, hg1, hg2, hb5⟩
          have y5 := HR.out w5 hb5
          have y6 := fun o => HR.out (w5.alloc o) (hb5.trans ((hA w5 o).mono hb5.size))
          have a0 := fun o => (r1.below (hA w5 o)).at 0 (.int .i64 (RF k 0).1) rfl
          have a1 := fun o => (r1.below (hA w5 o)).at 1 (.int .u64 ((RF k 0).2 : Int)) rfl
          have a2 := fun o => (r1.below (hA w5 o)).at 2 (.int .i64 (RF k 1).1) rfl
          have a3 := fun o => (r1.below (hA w5 o)).at 3 (.int .u64 ((RF k 1).2 : Int)) rfl
          have v0 := fun o => (r2.below (hA w5 o)).at 0 (.int .u64 (VL k 0 : Int)) rfl
          have v1 := fun o => (r2.below (hA w5 o)).at 1 (.int .u64 (VL k 1 : Int)) rfl
          have q0 : ∀ o, (w5.alloc o).cell? ⟨gr, k * 4, none⟩ = some (.int .i64 (RF k 0).1) := fun o => ((y6 o).rc k 0 hkn (by omega)).1
          have q1 : ∀ o, (w5.alloc o).cell? ⟨gr, k * 4 + 1, none⟩ = some (.int .u64 ((RF k 0).2 : Int)) := fun o => ((y6 o).rc k 0 hkn (by omega)).2
          have q2 : ∀ o, (w5.alloc o).cell? ⟨gr, k * 4 + 2, none⟩ = some (.int .i64 (RF k 1).1) := fun o => ((y6 o).rc k 1 hkn (by omega)).1
          have q3 : ∀ o, (w5.alloc o).cell? ⟨gr, k * 4 + 2 + 1, none⟩ = some (.int .u64 ((RF k 1).2 : Int)) := fun o => ((y6 o).rc k 1 hkn (by omega)).2
          have p0 : ∀ o, (w5.alloc o).cell? ⟨gr + 1, k * 2, none⟩ = some (.int .u64 (VL k 0 : Int)) := fun o => (y6 o).vc k 0 hkn (by omega)
          have p1 : ∀ o, (w5.alloc o).cell? ⟨gr + 1, k * 2 + 1, none⟩ = some (.int .u64 (VL k 1 : Int)) := fun o => (y6 o).vc k 1 hkn (by omega)
          have HY : Hid (∀ o q, ApS w g ((w5.alloc o).drewN q) hb h' n gr (gr + 1) cc RF VL (fun k => k = gr ∨ k = gr + 1)) := fun o q => by
            have h1 := hb5.trans ((hA w5 o).mono hb5.size)
            exact HR.out _ (h1.trans ((below_drewN0 _ q).mono h1.size))
          generalize (RF k 0).1 = A0 at *
          generalize (RF k 0).2 = A1 at *
          generalize (RF k 1).1 = A2 at *
          generalize (RF k 1).2 = A3 at *
          generalize VL k 0 = V0 at *
          generalize VL k 1 = V1 at *
          clear y5 y6 r1 r2 hb5 hO HR
          go_wp2
          go_quiet (fail)
          go_wp2
          go_roundw
          case rel => exact ⟨k + 1, by omega, HK.out, by go_num, HY.out _ _⟩
          case measure => have := HK.out; simp [intOf]; omega
        · go_wp2
          go_ret
          exact ⟨rfl, y.x.bel⟩

end Go.Proofs.YthjbbghmmikmmaaDoor
