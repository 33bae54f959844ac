/- The plain Shade: one of the own node. -/
import Derived.Test.YtdafpfdmnccelaaDoorPbS
import Derived.Test.YtdafpfdmnccelaaDoorPbKP
import Derived.Deep.RegionLaw
import Derived.Deep.CutRange
import Derived.Deep.CutBlock
import Derived.BigQuiet
namespace Go.Proofs.YtdafpfdmnccelaaDoor
open Go.RowKit

section
variable {w w' : World} {qb rb base ra rc rt : Nat} {sv mv kv vv lv : Value} {p : PSt} {L : List ((Int × Nat) × Nat)} {h : HSt} {M : List Pl}
theorem qpush_any (x : RQ w qb rb base sv mv kv vv p L) (a : Nat) :
    Calls Tryd.prog 50 #[.pointer (some ⟨qb, 1, none⟩), .int .u64 (a : Int)] w fun e w' => ∃ b sv', e = .returned (.bool b) ∧ RQ w' qb rb base sv' mv kv vv (p.push a) L ∧ Kept w w' (qBl qb sv mv kv vv) ∧ Moved w sv sv' := by
  unfold PSt.push
  have := x.few.1
  by_cases hr : p.stk.length < p.M
  · rw [if_pos hr]
    exact (qpush_room x hr a).mono (fun e w' ⟨h1, sv', h2, h3, h4⟩ => ⟨true, sv', h1, h2, h3, fun k e => Or.inr (h4 k e)⟩)
  · rw [if_neg hr]
    exact (qpush_full x (by omega) a).mono (fun e w' ⟨h1, h2, h3⟩ => ⟨false, sv, h1, h2, h3, Moved.refl _ _⟩)
set_option maxRecDepth 20000 in
set_option maxHeartbeats 4000000 in
theorem rshade_near (x : RQ w qb rb base sv mv kv vv p L) (y : RX w rb ra rc rt lv h M) (a : Int) (n : Nat) (r : Int) (hnm : namesB (a, n) = true) (heq : a = (h.node : Int)) (hnd : (p.ma.map (·.1)).Nodup) (hl : p.ma.length < 1000000) :
    Calls Tryd.prog 14 #[.pointer (some ⟨qb, 0, none⟩), .agg #[.int .i64 a, .int .u64 (n : Int)], .int .i64 r] w fun e w' => e = .returned (.tuple #[]) ∧ QGo w w' qb rb base (qBl qb sv mv kv vv) (p.own h n (clampR r)) := by
  have HX : Hid _ := hidden x
  have HY : Hid _ := hidden y
  have HGet : Hid (getC h.cs n = (getP M n).map (·.o)) := by
    have := getP_o M n
    rw [y.cs] at this
    exact this
  have hnode : (a == (h.node : Int)) = true := by rw [beq_iff_eq]; exact heq
  have hwas := x.few
  have hbs : base ≤ w.heap.size := by have := x.ge; have := x.box.lt; omega
  have HP0 : Hid (∀ c, getP M n = none → p.own h n c = p) := fun c e => by unfold PSt.own; rw [HGet.out, e]; rfl
  have HP1 : Hid (∀ c pl, getP M n = some pl → getA p.ma n = none → p.own h n c = PSt.push { p with ma := p.ma ++ [(n, (c, true))] } n) := fun c pl e e2 => by
    unfold PSt.own
    rw [HGet.out, e, e2, putA_new e2]
    rfl
  have HP2 : Hid (∀ c pl r0 g, getP M n = some pl → getA p.ma n = some (r0, g) → p.own h n c = if r0 ≤ c then p else if g then { p with ma := putA p.ma n (c, true) } else PSt.push { p with ma := putA p.ma n (c, true) } n) := fun c pl r0 g e e2 => by
    unfold PSt.own
    rw [HGet.out, e, e2]
    rfl
  clear x y heq HGet
  obtain ⟨po, hpo⟩ : ∃ po, po = p.own h n (clampR r) := ⟨_, rfl⟩
  have HPO : Hid (po = p.own h n (clampR r)) := hpo
  rw [← hpo]
  clear hpo
  have hcl : (clampR r : Int) = min (max r 0) 40 := by unfold clampR; omega
  generalize clampR r = c at *
  have HC : Hid ((c : Int) = min (max r 0) 40) := hidden hcl
  clear hcl
  have hNn := fun W => rnone_any a n W
  have hI := fun W => rid_any a n W
  have HNR := hidden (names_right a n)
  go_enter Tryd.func14, Tryd.ntmps14
  go_upto_region 1 with fail
  obtain ⟨w0, hw0⟩ : ∃ w0, w0 = w.alloc (.cells #[.int .i64 a, .int .u64 (n : Int)] 51) := ⟨_, rfl⟩
  rw [← hw0]
  have r0 : Row w0 w.heap.size 51 [.int .i64 a, .int .u64 (n : Int)] := by rw [hw0]; exact heap_alloc_new w _
  have b0 : Below w.heap.size w w0 := by rw [hw0]; exact bel_alloc _ _
  clear hw0
  have k0 := r0.cell 0 (by simp)
  have k1 := r0.cell 1 (by simp)
  simp only [List.getElem_cons_succ, List.getElem_cons_zero] at k0 k1
  have HR0 : Hid _ := hidden r0
  have HB0 : Hid _ := hidden b0
  have hw0l := r0.lt
  clear r0 b0
  go_cut [2] from 10 to 12 (fun t wc => t = .int .i64 (c : Int) ∧ w0 = wc)
  case first =>
    clear hNn hI HNR
    go_wp2
    go_meet
    refine ⟨congrArg (Value.int .i64) ?_, rfl⟩
    have := HC.out
    omega
  case rest =>
    obtain ⟨rfl, hwc⟩ := hcut
    subst hwc
    go_upto_region 2 with fail
    go_cut [19] from 13 to 19 (fun t wc => t = .bool false ∧ Below w0.heap.size w0 wc)
    case first =>
      cases hnn : (a == 0 && (n : Int) == 0) with
      | true =>
        have := HNR.out.1 hnn
        rw [hnm] at this
        cases this
      | false =>
        have hri := HNR.out.2 hnn
        rw [hnm] at hri
        rw [hnn] at hNn
        rw [← hri] at hI
        clear HNR hnn hri
        go_wp2_with (first
          | (go_at_call 43; refine (hNn _).mono ?_; rintro e w1 ⟨rfl, q1⟩; have u0 := (q1.cell (p := ⟨w.heap.size, 0, none⟩) hw0l).trans k0; have u1 := (q1.cell (p := ⟨w.heap.size, 1, none⟩) hw0l).trans k1)
          | (go_at_call 44; refine (hI _).mono ?_; rintro e w2 ⟨rfl, q2⟩))
        go_meet
        exact ⟨rfl, q1.trans (q2.mono q1.size)⟩
    case rest =>
      obtain ⟨rfl, hb2⟩ := hcut
      obtain ⟨w2, hw2⟩ : ∃ x, x = wc := ⟨_, rfl⟩
      subst hw2
      have HB2 : Hid (Below w.heap.size w w2) := HB0.out.trans (hb2.mono HB0.out.size)
      have r2 := HR0.out.below hb2
      clear hNn hI HNR k0 k1 hb2 HR0 HB0 hw0l
      have k0 := r2.cell 0 (by simp)
      have k1 := r2.cell 1 (by simp)
      simp only [List.getElem_cons_succ, List.getElem_cons_zero] at k0 k1
      have hw2l := r2.lt
      have hx2 := HX.out.below HB2.out
      have c0 : w2.cell? ⟨qb, 0, none⟩ = some (.pointer (some ⟨rb, 0, none⟩)) := hx2.box.cell 0 (by simp)
      have cn : w2.cell? ⟨rb, 0, none⟩ = some (.int .i64 (h.node : Int)) := (HY.out.below HB2.out).box.cell 0 (by simp)
      have HR2 : Hid _ := hidden r2
      clear hx2 r2
      go_upto_region 3 with fail
      go_cut [29] from 20 to 29 (fun t wc => t = .bool false ∧ Below w2.heap.size w2 wc)
      case first =>
        go_quiet (fail)
        go_wp2
        go_meet
        exact ⟨congrArg Value.bool (by show (!(a == _)) = false; rw [hnode]; rfl), below_drewN0 _ _⟩
      case rest =>
        obtain ⟨rfl, hb3⟩ := hcut
        obtain ⟨w3, hw3⟩ : ∃ x, x = wc := ⟨_, rfl⟩
        subst hw3
        have r3 := HR2.out.below hb3
        have HB3 : Hid (Below w.heap.size w w3) := HB2.out.trans (hb3.mono HB2.out.size)
        clear k0 k1 c0 cn hw2l HR2 hb3 HB2
        have k0 := r3.cell 0 (by simp)
        have k1 := r3.cell 1 (by simp)
        simp only [List.getElem_cons_succ, List.getElem_cons_zero] at k0 k1
        have hw3l := r3.lt
        have c0 : w3.cell? ⟨qb, 0, none⟩ = some (.pointer (some ⟨rb, 0, none⟩)) := (HX.out.below HB3.out).box.cell 0 (by simp)
        have hG : ∀ m, Calls Tryd.prog 48 #[.pointer (some ⟨rb, 0, none⟩), .int .u64 (n : Int)] (w3.drewN m) fun e w' => e = .returned (ptrOf (getP M n)) ∧ w' = w3.drewN m := fun m => (rget_any ((HY.out.below HB3.out).below (below_drewN0 w3 m)) n).mono (fun _ _ ⟨a, b⟩ => ⟨a, b.symm⟩)
        have HR3 : Hid _ := hidden r3
        clear r3
        cases hp : getP M n with
        | none =>
          have HE : Hid (po = p) := HPO.out.trans (HP0.out _ hp)
          rw [hp] at hG
          simp only [ptrOf, Option.map_none] at hG
          clear hp HP0 HP1 HP2 HPO
          go_upto_region 7 with fail
          go_cut [63] from 56 to 63 (fun t wc => t = .bool true ∧ Below w3.heap.size w3 wc)
          case first =>
            go_quiet ((go_at_call 48; exact Calls.quiet_of_same (hG _)))
            go_wp2
            go_meet
            exact ⟨rfl, below_drewN0 _ _⟩
          case rest =>
            obtain ⟨rfl, hb4⟩ := hcut
            have HQ : Hid _ := hidden (HX.out.qn.stay (HB3.out.trans (hb4.mono HB3.out.size)))
            clear hb4 k0 k1 c0 hG
            go_wp2
            (try simp only [Exit.inBlock, Exit.then]); refine bodyPost_ret (results_none rfl _ _ _) rfl ?_
            exact ⟨rfl, by rw [HE.out]; exact HQ.out⟩
        | some pl =>
          rw [hp] at hG
          simp only [ptrOf, Option.map_some] at hG
          have HI : Hid _ := hidden hp
          clear hp HP0
          go_upto_region 7 with fail
          go_cut [63] from 56 to 63 (fun t wc => t = .bool false ∧ Below w3.heap.size w3 wc)
          case first =>
            go_quiet ((go_at_call 48; exact Calls.quiet_of_same (hG _)))
            go_wp2
            go_meet
            exact ⟨rfl, below_drewN0 _ _⟩
          case rest =>
            obtain ⟨rfl, hb4⟩ := hcut
            obtain ⟨w4, hw4⟩ : ∃ x, x = wc := ⟨_, rfl⟩
            subst hw4
            have r4 := HR3.out.below hb4
            have HB4 : Hid (Below w.heap.size w w4) := HB3.out.trans (hb4.mono HB3.out.size)
            clear k0 k1 c0 hw3l HR3 hb4 HB3 hG
            have k0 := r4.cell 0 (by simp)
            have k1 := r4.cell 1 (by simp)
            simp only [List.getElem_cons_succ, List.getElem_cons_zero] at k0 k1
            have hw4l := r4.lt
            have x4 := HX.out.below HB4.out
            have hF := rfind_any x4 n
            have HX4 : Hid _ := hidden x4
            have HR4 : Hid _ := hidden r4
            clear x4 r4
            go_wp2_with fail
            refine hF.mono ?_
            rintro e _ ⟨rfl, he⟩
            clear hF
            unfold FoundAt at he
            rcases he with ⟨i, m, g, cap, rfl, hmv, h1, h2⟩ | ⟨rfl, h1⟩
            · have hg := found_get h1 h2
              obtain ⟨r0, gr⟩ := m
              have hE := HPO.out.trans (HP2.out _ pl r0 gr HI.out hg)
              rw [putA_set hnd h1] at hE
              obtain ⟨⟨q1, q2⟩, d1, d2, f1, f2, hgl, hgq⟩ := HX4.out.mark h1 hmv c true
              have hgw : g < w.heap.size := HX.out.lt g (Or.inr (Or.inr (Or.inl (by rw [hmv]; rfl))))
              have hgw1 : g ≠ w.heap.size := by omega
              have hgw2 : w.heap.size ≠ g := by omega
              have HQ1 : Hid _ := hidden q1
              have HQ2 : Hid _ := hidden q2
              simp only at d1 d2
              clear h1 h2 hg HP1 HP2 HPO HI q1 q2 hmv hgw
              by_cases hr0 : r0 ≤ c
              · rw [if_pos hr0] at hE
                have HE : Hid _ := hidden hE
                have hri : ¬ (c : Int) < (r0 : Int) := by omega
                have HS : Hid _ := hidden (HX.out.qn.stay HB4.out)
                clear hE hr0 HQ1 HQ2
                go_wp2
                (try simp only [Exit.inBlock, Exit.then])
                first
                | (refine bodyPost_end (results_none rfl _ _ _) rfl ?_; exact ⟨rfl, by rw [HE.out]; exact HS.out⟩)
                | (refine bodyPost_ret (results_none rfl _ _ _) rfl ?_; exact ⟨rfl, by rw [HE.out]; exact HS.out⟩)
              · rw [if_neg hr0] at hE
                have hri : (c : Int) < (r0 : Int) := by omega
                cases gr with
                | true =>
                  rw [if_pos rfl] at hE
                  have HE : Hid _ := hidden hE
                  have HS : Hid _ := hidden (HQ1.out.went (sv := sv) (mv := mv) (kv := kv) (vv := vv) ((kept_of_below HB4.out _).trans HQ2.out (fun _ _ e => e)) (Moved.refl _ _) (Moved.refl _ _) (Moved.refl _ _) (Moved.refl _ _))
                  clear hE hr0 HQ1 HQ2
                  go_wp2
                  (try simp only [Exit.inBlock, Exit.then])
                  first
                  | (refine bodyPost_end (results_none rfl _ _ _) rfl ?_; exact ⟨rfl, by rw [HE.out]; exact HS.out⟩)
                  | (refine bodyPost_ret (results_none rfl _ _ _) rfl ?_; exact ⟨rfl, by rw [HE.out]; exact HS.out⟩)
                | false =>
                  rw [if_neg (by simp)] at hE
                  have HE : Hid _ := hidden hE
                  clear hE hr0
                  go_upto_region 17 with fail
                  generalize hw5 : (w4.setCell ⟨g, i * 3 + 1, none⟩ (.int .i64 (c : Int))).setCell ⟨g, i * 3 + 2, none⟩ (.bool true) = w5 at *
                  have x5 := HQ1.out
                  have hk5 : Kept w w5 (qBl qb sv mv kv vv) := (kept_of_below HB4.out _).trans HQ2.out (fun _ _ e => e)
                  have k1' : w5.cell? ⟨w.heap.size, 1, none⟩ = some (.int .u64 (n : Int)) := cell_kept k1 HQ2.out (fun e => by have := HX.out.lt _ e; omega)
                  have hw5l := cell_lt k1'
                  have hPush := fun W (hb : Below w5.heap.size w5 W) => qpush_any (x5.below hb) n
                  have HFin : Hid (∀ W w7 sv7, Below w5.heap.size w5 W → RQ w7 qb rb base sv7 mv kv vv (PSt.push { p with ma := p.ma.set i (n, (c, true)) } n) L → Kept W w7 (qBl qb sv mv kv vv) → Moved W sv sv7 → QGo w w7 qb rb base (qBl qb sv mv kv vv) (PSt.push { p with ma := p.ma.set i (n, (c, true)) } n)) := fun W w7 sv7 hb q k m =>
                    q.went (sv := sv) (mv := mv) (kv := kv) (vv := vv) ((hk5.trans (kept_of_below hb _) (fun _ _ e => e)).trans k (fun _ _ e => e)) (fun j hj => by
                      rcases m j hj with e | e
                      · exact Or.inl e
                      · exact Or.inr (Nat.le_trans (Nat.le_trans hk5.size hb.size) e)) (Moved.refl _ _) (Moved.refl _ _) (Moved.refl _ _)
                  clear hw5 x5 hk5 HQ1 HQ2 k0 k1 d1 d2 f1 f2 hgl
                  go_region_with ((go_at_call 50; refine (hPush _ (by repeat (first | exact Below.refl _ _ | refine Below.drew ?_ | refine Below.alloc ?_ (by simp) _))).mono ?_; rintro e w7 ⟨b7, sv7, rfl, q7, kk7, mm7⟩; have HQ7 : Hid _ := hidden (HFin.out _ _ _ (by repeat (first | exact Below.refl _ _ | refine Below.drew ?_ | refine Below.alloc ?_ (by simp) _)) q7 kk7 mm7); clear q7 kk7 mm7))
                  all_goals
                    go_simp
                    go_wp2
                    (try simp only [Exit.inBlock, Exit.then])
                    first
                    | (refine bodyPost_end (results_none rfl _ _ _) rfl ?_; exact ⟨rfl, by rw [HE.out]; exact HQ7.out⟩)
                    | (refine bodyPost_ret (results_none rfl _ _ _) rfl ?_; exact ⟨rfl, by rw [HE.out]; exact HQ7.out⟩)
            · have hg := found_no h1
              have HE : Hid _ := hidden (HPO.out.trans (HP1.out _ pl HI.out hg))
              clear h1 hg HP1 HP2 HPO HI
              have x4 := HX4.out
              have c5 : w4.cell? ⟨qb, 5, none⟩ = some mv := x4.box.cell 5 (by simp)
              have hql4 := x4.box.lt
              have hbs4 : base ≤ w4.heap.size := Nat.le_trans hbs HB4.out.size
              have HO : Hid (∀ W, Below w4.heap.size w4 W → W.ownsRow base 113 3 mv p.ma.length (msV p.ma)) := fun W hb => (x4.below hb).ml
              have HMo : Hid (∀ W w1 mv', Below w4.heap.size w4 W → w1.ownsRow base 113 3 mv' (p.ma.length + 1) (msV p.ma ++ m3V (n, (c, true))) → Kept W w1 (fun k => mv.ownBlock = some k) → Moved W mv mv' →
                (RQ (w1.setCell ⟨qb, 5, none⟩ mv') qb rb base sv mv' kv vv { p with ma := p.ma ++ [(n, (c, true))] } L ∧ Kept w4 (w1.setCell ⟨qb, 5, none⟩ mv') (qBl qb sv mv kv vv) ∧ Moved w4 mv mv') ∧ w1.cell? ⟨qb, 5, none⟩ = some mv ∧ w1.frozen? ⟨qb, 5, none⟩ = false ∧ qb < w1.heap.size) := fun W w1 mv' hb ho hk hm => x4.more n c true hl hb ho hk hm
              obtain ⟨ao, cap, hmv⟩ := ownc_form x4.ml
              obtain ⟨i, hi, hz0, hz1, hz2⟩ := info_parts Tryd.infoMark
              have hml := x4.few.2.2.2.1
              have bA : ∀ o, Below w4.heap.size w4 (w4.alloc o).drew := fun o => (bel_alloc w4 o).drew
              clear x4
              rw [hmv] at c5
              go_upto_region 10 with fail
              go_cut [81] from 71 to 83 (fun _ wc => ∃ mv', RQ wc qb rb base sv mv' kv vv { p with ma := p.ma ++ [(n, (c, true))] } L ∧ Kept w4 wc (qBl qb sv mv kv vv) ∧ Moved w4 mv mv')
              case first =>
                subst hmv
                go_region_law (first
                  | (refine step_append_sr rfl (.tmp 75) (.tmp 80) 95 rfl 113 i _ 3 24 Tryd.underlying95 hi hz0 hz1 hz2 rfl (by omega) base _ p.ma.length (msV p.ma) rfl (HO.out _ (bA _)) _ 1 (m3V (n, (c, true))) rfl ((sr_mark w4 n c true _).below (Below.refl _ _).drew) (by omega) (by omega) (Nat.le_trans hbs4 (bA _).size) ?_; intro v1 w1 ho1 hk1 hm1; obtain ⟨q1, q2, q3, q4⟩ := HMo.out _ _ _ (bA _) ho1 hk1 hm1; have HQ : Hid _ := hidden q1; obtain ⟨ao1, cap1, hv1⟩ := ownc_form ho1; subst hv1; clear q1 ho1 hk1 hm1))
                all_goals
                  go_simp
                  go_wp2
                  go_meet
                  first
                  | exact ⟨_, HQ.out⟩
                  | exact ⟨_, HQ.out.1.below (Below.refl _ _).drew, HQ.out.2.1.trans (kept_of_below (Below.refl _ _).drew _) (fun _ _ e => e), HQ.out.2.2⟩
              case rest =>
                obtain ⟨mv5, x5, kx5, m5⟩ := hcut
                obtain ⟨w5, hw5⟩ : ∃ x, x = wc := ⟨_, rfl⟩
                subst hw5
                have k1' : w5.cell? ⟨w.heap.size, 1, none⟩ = some (.int .u64 (n : Int)) := cell_kept k1 kx5 (fun e => by have := HX.out.lt _ e; omega)
                have hw5l := cell_lt k1'
                have hk5 : Kept w w5 (qBl qb sv mv kv vv) := (kept_of_below HB4.out _).trans kx5 (fun _ _ e => e)
                have m5' : Moved w mv mv5 := fun j hj => by
                  rcases m5 j hj with e | e
                  · exact Or.inl e
                  · exact Or.inr (Nat.le_trans HB4.out.size e)
                have hPush := fun W (hb : Below w5.heap.size w5 W) => qpush_any (x5.below hb) n
                have HFin : Hid (∀ W w7 sv7, Below w5.heap.size w5 W → RQ w7 qb rb base sv7 mv5 kv vv (PSt.push { p with ma := p.ma ++ [(n, (c, true))] } n) L → Kept W w7 (qBl qb sv mv5 kv vv) → Moved W sv sv7 → QGo w w7 qb rb base (qBl qb sv mv kv vv) (PSt.push { p with ma := p.ma ++ [(n, (c, true))] } n)) := fun W w7 sv7 hb q k m =>
                  q.went (sv := sv) (mv := mv) (kv := kv) (vv := vv) ((hk5.trans (kept_of_below hb _) (fun _ _ e => e)).trans k (fun j hj e => by
                    rcases e with e | e | e | e | e
                    · exact Or.inl e
                    · exact Or.inr (Or.inl e)
                    · rcases m5' j e with e | e
                      · exact Or.inr (Or.inr (Or.inl e))
                      · omega
                    · exact Or.inr (Or.inr (Or.inr (Or.inl e)))
                    · exact Or.inr (Or.inr (Or.inr (Or.inr e))))) (fun j hj => by
                    rcases m j hj with e | e
                    · exact Or.inl e
                    · exact Or.inr (Nat.le_trans (Nat.le_trans hk5.size hb.size) e)) m5' (Moved.refl _ _) (Moved.refl _ _)
                clear x5 kx5 m5 hk5 m5' k0 k1 c5 HO HMo
                go_upto_region 11 with fail
                go_region_with ((go_at_call 50; refine (hPush _ (by repeat (first | exact Below.refl _ _ | refine Below.drew ?_ | refine Below.alloc ?_ (by simp) _))).mono ?_; rintro e w7 ⟨b7, sv7, rfl, q7, kk7, mm7⟩; have HQ7 : Hid _ := hidden (HFin.out _ _ _ (by repeat (first | exact Below.refl _ _ | refine Below.drew ?_ | refine Below.alloc ?_ (by simp) _)) q7 kk7 mm7); clear q7 kk7 mm7))
                all_goals
                  go_simp
                  go_wp2
                  (try simp only [Exit.inBlock, Exit.then])
                  first
                  | (refine bodyPost_end (results_none rfl _ _ _) rfl ?_; exact ⟨rfl, by rw [HE.out]; exact HQ7.out⟩)
                  | (refine bodyPost_ret (results_none rfl _ _ _) rfl ?_; exact ⟨rfl, by rw [HE.out]; exact HQ7.out⟩)
end
end Go.Proofs.YtdafpfdmnccelaaDoor
