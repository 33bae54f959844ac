import Derived.Test.YtlabdbfmfejkaaaDoorPbS
import Derived.Test.YtlabdbfmfejkaaaDoorPbKP
import Derived.Deep.RegionLaw
import Derived.Deep.CutRange
import Derived.Deep.CutBlock
import Derived.BigQuiet
import Derived.Test.YtlabdbfmfejkaaaDoorPbDP
/- The plain Shade: one of the own node. -/
/- The plain Shade of any ID; Scan. -/
/- The law's ids; lists of Outs that are the same. -/
/- Lists of Outs that are the same. -/
/- The program's Blacken. -/
namespace Go.Proofs.YtlabdbfmfejkaaaDoor
open Go.RowKit

section
variable {w w' : World} {qb rb base ra rc rt : Nat} {sv mv kv vv lv : Value} {p : PSt} {L : List ((Int × Nat) × Nat)} {h : HSt} {M : List Pl}
theorem qpush_any (x : RQ w qb rb base sv mv kv vv p L) (a : Nat) :
    Calls Tryd.prog 89 #[.pointer (some ⟨qb, 1, none⟩), .int .u64 (a : Int)] w fun e w' => ∃ b sv', e = .returned (.bool b) ∧ RQ w' qb rb base sv' mv kv vv (p.push a) L ∧ Kept w w' (qBl qb sv mv kv vv) ∧ Moved w sv sv' := by
  unfold PSt.push
  have := x.few.1
  by_cases hr : p.stk.length < p.M
  · rw [if_pos hr]
    exact (qpush_room x hr a).mono (fun e w' ⟨h1, sv', h2, h3, h4⟩ => ⟨true, sv', h1, h2, h3, fun k e => Or.inr (h4 k e)⟩)
  · rw [if_neg hr]
    exact (qpush_full x (by omega) a).mono (fun e w' ⟨h1, h2, h3⟩ => ⟨false, sv, h1, h2, h3, Moved.refl _ _⟩)
set_option maxRecDepth 20000 in
set_option maxHeartbeats 4000000 in
theorem rshade_near (x : RQ w qb rb base sv mv kv vv p L) (y : RX w rb ra rc rt lv h M) (a : Int) (n : Nat) (r : Int) (hnm : namesB (a, n) = true) (heq : a = (h.node : Int)) (hnd : (p.ma.map (·.1)).Nodup) (hl : p.ma.length < 1000000) :
    Calls Tryd.prog 57 #[.pointer (some ⟨qb, 0, none⟩), .agg #[.int .i64 a, .int .u64 (n : Int)], .int .i64 r] w fun e w' => e = .returned (.tuple #[]) ∧ QGo w w' qb rb base (qBl qb sv mv kv vv) (p.own h n (clampR r)) := by
  have HX : Hid _ := hidden x
  have HY : Hid _ := hidden y
  have HGet : Hid (getC h.cs n = (getP M n).map (·.o)) := by
    have := getP_o M n
    rw [y.cs] at this
    exact this
  have hnode : (a == (h.node : Int)) = true := by rw [beq_iff_eq]; exact heq
  have hwas := x.few
  have hbs : base ≤ w.heap.size := by have := x.ge; have := x.box.lt; omega
  have HP0 : Hid (∀ c, getP M n = none → p.own h n c = p) := fun c e => by unfold PSt.own; rw [HGet.out, e]; rfl
  have HP1 : Hid (∀ c pl, getP M n = some pl → getA p.ma n = none → p.own h n c = PSt.push { p with ma := p.ma ++ [(n, (c, true))] } n) := fun c pl e e2 => by
    unfold PSt.own
    rw [HGet.out, e, e2, putA_new e2]
    rfl
  have HP2 : Hid (∀ c pl r0 g, getP M n = some pl → getA p.ma n = some (r0, g) → p.own h n c = if r0 ≤ c then p else if g then { p with ma := putA p.ma n (c, true) } else PSt.push { p with ma := putA p.ma n (c, true) } n) := fun c pl r0 g e e2 => by
    unfold PSt.own
    rw [HGet.out, e, e2]
    rfl
  clear x y heq HGet
  obtain ⟨po, hpo⟩ : ∃ po, po = p.own h n (clampR r) := ⟨_, rfl⟩
  have HPO : Hid (po = p.own h n (clampR r)) := hpo
  rw [← hpo]
  clear hpo
  have hcl : (clampR r : Int) = min (max r 0) 40 := by unfold clampR; omega
  generalize clampR r = c at *
  have HC : Hid ((c : Int) = min (max r 0) 40) := hidden hcl
  clear hcl
  have hNn := fun W => rnone_any a n W
  have hI := fun W => rid_any a n W
  have HNR := hidden (names_right a n)
  go_enter Tryd.func57, Tryd.ntmps57
  go_upto_region 1 with fail
  obtain ⟨w0, hw0⟩ : ∃ w0, w0 = w.alloc (.cells #[.int .i64 a, .int .u64 (n : Int)] 47) := ⟨_, rfl⟩
  rw [← hw0]
  have r0 : Row w0 w.heap.size 47 [.int .i64 a, .int .u64 (n : Int)] := by rw [hw0]; exact heap_alloc_new w _
  have b0 : Below w.heap.size w w0 := by rw [hw0]; exact bel_alloc _ _
  clear hw0
  have k0 := r0.cell 0 (by simp)
  have k1 := r0.cell 1 (by simp)
  simp only [List.getElem_cons_succ, List.getElem_cons_zero] at k0 k1
  have HR0 : Hid _ := hidden r0
  have HB0 : Hid _ := hidden b0
  have hw0l := r0.lt
  clear r0 b0
  go_cut [2] from 10 to 12 (fun t wc => t = .int .i64 (c : Int) ∧ w0 = wc)
  case first =>
    clear hNn hI HNR
    go_wp2
    go_meet
    refine ⟨congrArg (Value.int .i64) ?_, rfl⟩
    have := HC.out
    omega
  case rest =>
    obtain ⟨rfl, hwc⟩ := hcut
    subst hwc
    go_upto_region 2 with fail
    go_cut [19] from 13 to 19 (fun t wc => t = .bool false ∧ Below w0.heap.size w0 wc)
    case first =>
      cases hnn : (a == 0 && (n : Int) == 0) with
      | true =>
        have := HNR.out.1 hnn
        rw [hnm] at this
        cases this
      | false =>
        have hri := HNR.out.2 hnn
        rw [hnm] at hri
        rw [hnn] at hNn
        rw [← hri] at hI
        clear HNR hnn hri
        go_wp2_with (first
          | (go_at_call 86; refine (hNn _).mono ?_; rintro e w1 ⟨rfl, q1⟩; have u0 := (q1.cell (p := ⟨w.heap.size, 0, none⟩) hw0l).trans k0; have u1 := (q1.cell (p := ⟨w.heap.size, 1, none⟩) hw0l).trans k1)
          | (go_at_call 69; refine (hI _).mono ?_; rintro e w2 ⟨rfl, q2⟩))
        go_meet
        exact ⟨rfl, q1.trans (q2.mono q1.size)⟩
    case rest =>
      obtain ⟨rfl, hb2⟩ := hcut
      obtain ⟨w2, hw2⟩ : ∃ x, x = wc := ⟨_, rfl⟩
      subst hw2
      have HB2 : Hid (Below w.heap.size w w2) := HB0.out.trans (hb2.mono HB0.out.size)
      have r2 := HR0.out.below hb2
      clear hNn hI HNR k0 k1 hb2 HR0 HB0 hw0l
      have k0 := r2.cell 0 (by simp)
      have k1 := r2.cell 1 (by simp)
      simp only [List.getElem_cons_succ, List.getElem_cons_zero] at k0 k1
      have hw2l := r2.lt
      have hx2 := HX.out.below HB2.out
      have c0 : w2.cell? ⟨qb, 0, none⟩ = some (.pointer (some ⟨rb, 0, none⟩)) := hx2.box.cell 0 (by simp)
      have cn : w2.cell? ⟨rb, 0, none⟩ = some (.int .i64 (h.node : Int)) := (HY.out.below HB2.out).box.cell 0 (by simp)
      have HR2 : Hid _ := hidden r2
      clear hx2 r2
      go_upto_region 3 with fail
      go_cut [29] from 20 to 29 (fun t wc => t = .bool false ∧ Below w2.heap.size w2 wc)
      case first =>
        go_quiet (fail)
        go_wp2
        go_meet
        exact ⟨congrArg Value.bool (by show (!(a == _)) = false; rw [hnode]; rfl), below_drewN0 _ _⟩
      case rest =>
        obtain ⟨rfl, hb3⟩ := hcut
        obtain ⟨w3, hw3⟩ : ∃ x, x = wc := ⟨_, rfl⟩
        subst hw3
        have r3 := HR2.out.below hb3
        have HB3 : Hid (Below w.heap.size w w3) := HB2.out.trans (hb3.mono HB2.out.size)
        clear k0 k1 c0 cn hw2l HR2 hb3 HB2
        have k0 := r3.cell 0 (by simp)
        have k1 := r3.cell 1 (by simp)
        simp only [List.getElem_cons_succ, List.getElem_cons_zero] at k0 k1
        have hw3l := r3.lt
        have c0 : w3.cell? ⟨qb, 0, none⟩ = some (.pointer (some ⟨rb, 0, none⟩)) := (HX.out.below HB3.out).box.cell 0 (by simp)
        have hG : ∀ m, Calls Tryd.prog 60 #[.pointer (some ⟨rb, 0, none⟩), .int .u64 (n : Int)] (w3.drewN m) fun e w' => e = .returned (ptrOf (getP M n)) ∧ w' = w3.drewN m := fun m => (rget_any ((HY.out.below HB3.out).below (below_drewN0 w3 m)) n).mono (fun _ _ ⟨a, b⟩ => ⟨a, b.symm⟩)
        have HR3 : Hid _ := hidden r3
        clear r3
        cases hp : getP M n with
        | none =>
          have HE : Hid (po = p) := HPO.out.trans (HP0.out _ hp)
          rw [hp] at hG
          simp only [ptrOf, Option.map_none] at hG
          clear hp HP0 HP1 HP2 HPO
          go_upto_region 7 with fail
          go_cut [63] from 56 to 63 (fun t wc => t = .bool true ∧ Below w3.heap.size w3 wc)
          case first =>
            go_quiet ((go_at_call 60; exact Calls.quiet_of_same (hG _)))
            go_wp2
            go_meet
            exact ⟨rfl, below_drewN0 _ _⟩
          case rest =>
            obtain ⟨rfl, hb4⟩ := hcut
            have HQ : Hid _ := hidden (HX.out.qn.stay (HB3.out.trans (hb4.mono HB3.out.size)))
            clear hb4 k0 k1 c0 hG
            go_wp2
            (try simp only [Exit.inBlock, Exit.then]); refine bodyPost_ret (results_none rfl _ _ _) rfl ?_
            exact ⟨rfl, by rw [HE.out]; exact HQ.out⟩
        | some pl =>
          rw [hp] at hG
          simp only [ptrOf, Option.map_some] at hG
          have HI : Hid _ := hidden hp
          clear hp HP0
          go_upto_region 7 with fail
          go_cut [63] from 56 to 63 (fun t wc => t = .bool false ∧ Below w3.heap.size w3 wc)
          case first =>
            go_quiet ((go_at_call 60; exact Calls.quiet_of_same (hG _)))
            go_wp2
            go_meet
            exact ⟨rfl, below_drewN0 _ _⟩
          case rest =>
            obtain ⟨rfl, hb4⟩ := hcut
            obtain ⟨w4, hw4⟩ : ∃ x, x = wc := ⟨_, rfl⟩
            subst hw4
            have r4 := HR3.out.below hb4
            have HB4 : Hid (Below w.heap.size w w4) := HB3.out.trans (hb4.mono HB3.out.size)
            clear k0 k1 c0 hw3l HR3 hb4 HB3 hG
            have k0 := r4.cell 0 (by simp)
            have k1 := r4.cell 1 (by simp)
            simp only [List.getElem_cons_succ, List.getElem_cons_zero] at k0 k1
            have hw4l := r4.lt
            have x4 := HX.out.below HB4.out
            have hF := rfind_any x4 n
            have HX4 : Hid _ := hidden x4
            have HR4 : Hid _ := hidden r4
            clear x4 r4
            go_wp2_with fail
            refine hF.mono ?_
            rintro e _ ⟨rfl, he⟩
            clear hF
            unfold FoundAt at he
            rcases he with ⟨i, m, g, cap, rfl, hmv, h1, h2⟩ | ⟨rfl, h1⟩
            · have hg := found_get h1 h2
              obtain ⟨r0, gr⟩ := m
              have hE := HPO.out.trans (HP2.out _ pl r0 gr HI.out hg)
              rw [putA_set hnd h1] at hE
              obtain ⟨⟨q1, q2⟩, d1, d2, f1, f2, hgl, hgq⟩ := HX4.out.mark h1 hmv c true
              have hgw : g < w.heap.size := HX.out.lt g (Or.inr (Or.inr (Or.inl (by rw [hmv]; rfl))))
              have hgw1 : g ≠ w.heap.size := by omega
              have hgw2 : w.heap.size ≠ g := by omega
              have HQ1 : Hid _ := hidden q1
              have HQ2 : Hid _ := hidden q2
              simp only at d1 d2
              clear h1 h2 hg HP1 HP2 HPO HI q1 q2 hmv hgw
              by_cases hr0 : r0 ≤ c
              · rw [if_pos hr0] at hE
                have HE : Hid _ := hidden hE
                have hri : ¬ (c : Int) < (r0 : Int) := by omega
                have HS : Hid _ := hidden (HX.out.qn.stay HB4.out)
                clear hE hr0 HQ1 HQ2
                go_wp2
                (try simp only [Exit.inBlock, Exit.then])
                first
                | (refine bodyPost_end (results_none rfl _ _ _) rfl ?_; exact ⟨rfl, by rw [HE.out]; exact HS.out⟩)
                | (refine bodyPost_ret (results_none rfl _ _ _) rfl ?_; exact ⟨rfl, by rw [HE.out]; exact HS.out⟩)
              · rw [if_neg hr0] at hE
                have hri : (c : Int) < (r0 : Int) := by omega
                cases gr with
                | true =>
                  rw [if_pos rfl] at hE
                  have HE : Hid _ := hidden hE
                  have HS : Hid _ := hidden (HQ1.out.went (sv := sv) (mv := mv) (kv := kv) (vv := vv) ((kept_of_below HB4.out _).trans HQ2.out (fun _ _ e => e)) (Moved.refl _ _) (Moved.refl _ _) (Moved.refl _ _) (Moved.refl _ _))
                  clear hE hr0 HQ1 HQ2
                  go_wp2
                  (try simp only [Exit.inBlock, Exit.then])
                  first
                  | (refine bodyPost_end (results_none rfl _ _ _) rfl ?_; exact ⟨rfl, by rw [HE.out]; exact HS.out⟩)
                  | (refine bodyPost_ret (results_none rfl _ _ _) rfl ?_; exact ⟨rfl, by rw [HE.out]; exact HS.out⟩)
                | false =>
                  rw [if_neg (by simp)] at hE
                  have HE : Hid _ := hidden hE
                  clear hE hr0
                  go_upto_region 17 with fail
                  generalize hw5 : (w4.setCell ⟨g, i * 3 + 1, none⟩ (.int .i64 (c : Int))).setCell ⟨g, i * 3 + 2, none⟩ (.bool true) = w5 at *
                  have x5 := HQ1.out
                  have hk5 : Kept w w5 (qBl qb sv mv kv vv) := (kept_of_below HB4.out _).trans HQ2.out (fun _ _ e => e)
                  have k1' : w5.cell? ⟨w.heap.size, 1, none⟩ = some (.int .u64 (n : Int)) := cell_kept k1 HQ2.out (fun e => by have := HX.out.lt _ e; omega)
                  have hw5l := cell_lt k1'
                  have hPush := fun W (hb : Below w5.heap.size w5 W) => qpush_any (x5.below hb) n
                  have HFin : Hid (∀ W w7 sv7, Below w5.heap.size w5 W → RQ w7 qb rb base sv7 mv kv vv (PSt.push { p with ma := p.ma.set i (n, (c, true)) } n) L → Kept W w7 (qBl qb sv mv kv vv) → Moved W sv sv7 → QGo w w7 qb rb base (qBl qb sv mv kv vv) (PSt.push { p with ma := p.ma.set i (n, (c, true)) } n)) := fun W w7 sv7 hb q k m =>
                    q.went (sv := sv) (mv := mv) (kv := kv) (vv := vv) ((hk5.trans (kept_of_below hb _) (fun _ _ e => e)).trans k (fun _ _ e => e)) (fun j hj => by
                      rcases m j hj with e | e
                      · exact Or.inl e
                      · exact Or.inr (Nat.le_trans (Nat.le_trans hk5.size hb.size) e)) (Moved.refl _ _) (Moved.refl _ _) (Moved.refl _ _)
                  clear hw5 x5 hk5 HQ1 HQ2 k0 k1 d1 d2 f1 f2 hgl
                  go_region_with ((go_at_call 89; refine (hPush _ (by repeat (first | exact Below.refl _ _ | refine Below.drew ?_ | refine Below.alloc ?_ (by simp) _))).mono ?_; rintro e w7 ⟨b7, sv7, rfl, q7, kk7, mm7⟩; have HQ7 : Hid _ := hidden (HFin.out _ _ _ (by repeat (first | exact Below.refl _ _ | refine Below.drew ?_ | refine Below.alloc ?_ (by simp) _)) q7 kk7 mm7); clear q7 kk7 mm7))
                  all_goals
                    go_simp
                    go_wp2
                    (try simp only [Exit.inBlock, Exit.then])
                    first
                    | (refine bodyPost_end (results_none rfl _ _ _) rfl ?_; exact ⟨rfl, by rw [HE.out]; exact HQ7.out⟩)
                    | (refine bodyPost_ret (results_none rfl _ _ _) rfl ?_; exact ⟨rfl, by rw [HE.out]; exact HQ7.out⟩)
            · have hg := found_no h1
              have HE : Hid _ := hidden (HPO.out.trans (HP1.out _ pl HI.out hg))
              clear h1 hg HP1 HP2 HPO HI
              have x4 := HX4.out
              have c5 : w4.cell? ⟨qb, 5, none⟩ = some mv := x4.box.cell 5 (by simp)
              have hql4 := x4.box.lt
              have hbs4 : base ≤ w4.heap.size := Nat.le_trans hbs HB4.out.size
              have HO : Hid (∀ W, Below w4.heap.size w4 W → W.ownsRow base 128 3 mv p.ma.length (msV p.ma)) := fun W hb => (x4.below hb).ml
              have HMo : Hid (∀ W w1 mv', Below w4.heap.size w4 W → w1.ownsRow base 128 3 mv' (p.ma.length + 1) (msV p.ma ++ m3V (n, (c, true))) → Kept W w1 (fun k => mv.ownBlock = some k) → Moved W mv mv' →
                (RQ (w1.setCell ⟨qb, 5, none⟩ mv') qb rb base sv mv' kv vv { p with ma := p.ma ++ [(n, (c, true))] } L ∧ Kept w4 (w1.setCell ⟨qb, 5, none⟩ mv') (qBl qb sv mv kv vv) ∧ Moved w4 mv mv') ∧ w1.cell? ⟨qb, 5, none⟩ = some mv ∧ w1.frozen? ⟨qb, 5, none⟩ = false ∧ qb < w1.heap.size) := fun W w1 mv' hb ho hk hm => x4.more n c true hl hb ho hk hm
              obtain ⟨ao, cap, hmv⟩ := ownc_form x4.ml
              obtain ⟨i, hi, hz0, hz1, hz2⟩ := info_parts Tryd.infoMark
              have hml := x4.few.2.2.2.1
              have bA : ∀ o, Below w4.heap.size w4 (w4.alloc o).drew := fun o => (bel_alloc w4 o).drew
              clear x4
              rw [hmv] at c5
              go_upto_region 10 with fail
              go_cut [81] from 71 to 83 (fun _ wc => ∃ mv', RQ wc qb rb base sv mv' kv vv { p with ma := p.ma ++ [(n, (c, true))] } L ∧ Kept w4 wc (qBl qb sv mv kv vv) ∧ Moved w4 mv mv')
              case first =>
                subst hmv
                go_region_law (first
                  | (refine step_append_sr rfl (.tmp 75) (.tmp 80) 121 rfl 128 i _ 3 24 Tryd.underlying121 hi hz0 hz1 hz2 rfl (by omega) base _ p.ma.length (msV p.ma) rfl (HO.out _ (bA _)) _ 1 (m3V (n, (c, true))) rfl ((sr_mark w4 n c true _).below (Below.refl _ _).drew) (by omega) (by omega) (Nat.le_trans hbs4 (bA _).size) ?_; intro v1 w1 ho1 hk1 hm1; obtain ⟨q1, q2, q3, q4⟩ := HMo.out _ _ _ (bA _) ho1 hk1 hm1; have HQ : Hid _ := hidden q1; obtain ⟨ao1, cap1, hv1⟩ := ownc_form ho1; subst hv1; clear q1 ho1 hk1 hm1))
                all_goals
                  go_simp
                  go_wp2
                  go_meet
                  first
                  | exact ⟨_, HQ.out⟩
                  | exact ⟨_, HQ.out.1.below (Below.refl _ _).drew, HQ.out.2.1.trans (kept_of_below (Below.refl _ _).drew _) (fun _ _ e => e), HQ.out.2.2⟩
              case rest =>
                obtain ⟨mv5, x5, kx5, m5⟩ := hcut
                obtain ⟨w5, hw5⟩ : ∃ x, x = wc := ⟨_, rfl⟩
                subst hw5
                have k1' : w5.cell? ⟨w.heap.size, 1, none⟩ = some (.int .u64 (n : Int)) := cell_kept k1 kx5 (fun e => by have := HX.out.lt _ e; omega)
                have hw5l := cell_lt k1'
                have hk5 : Kept w w5 (qBl qb sv mv kv vv) := (kept_of_below HB4.out _).trans kx5 (fun _ _ e => e)
                have m5' : Moved w mv mv5 := fun j hj => by
                  rcases m5 j hj with e | e
                  · exact Or.inl e
                  · exact Or.inr (Nat.le_trans HB4.out.size e)
                have hPush := fun W (hb : Below w5.heap.size w5 W) => qpush_any (x5.below hb) n
                have HFin : Hid (∀ W w7 sv7, Below w5.heap.size w5 W → RQ w7 qb rb base sv7 mv5 kv vv (PSt.push { p with ma := p.ma ++ [(n, (c, true))] } n) L → Kept W w7 (qBl qb sv mv5 kv vv) → Moved W sv sv7 → QGo w w7 qb rb base (qBl qb sv mv kv vv) (PSt.push { p with ma := p.ma ++ [(n, (c, true))] } n)) := fun W w7 sv7 hb q k m =>
                  q.went (sv := sv) (mv := mv) (kv := kv) (vv := vv) ((hk5.trans (kept_of_below hb _) (fun _ _ e => e)).trans k (fun j hj e => by
                    rcases e with e | e | e | e | e
                    · exact Or.inl e
                    · exact Or.inr (Or.inl e)
                    · rcases m5' j e with e | e
                      · exact Or.inr (Or.inr (Or.inl e))
                      · omega
                    · exact Or.inr (Or.inr (Or.inr (Or.inl e)))
                    · exact Or.inr (Or.inr (Or.inr (Or.inr e))))) (fun j hj => by
                    rcases m j hj with e | e
                    · exact Or.inl e
                    · exact Or.inr (Nat.le_trans (Nat.le_trans hk5.size hb.size) e)) m5' (Moved.refl _ _) (Moved.refl _ _)
                clear x5 kx5 m5 hk5 m5' k0 k1 c5 HO HMo
                go_upto_region 11 with fail
                go_region_with ((go_at_call 89; refine (hPush _ (by repeat (first | exact Below.refl _ _ | refine Below.drew ?_ | refine Below.alloc ?_ (by simp) _))).mono ?_; rintro e w7 ⟨b7, sv7, rfl, q7, kk7, mm7⟩; have HQ7 : Hid _ := hidden (HFin.out _ _ _ (by repeat (first | exact Below.refl _ _ | refine Below.drew ?_ | refine Below.alloc ?_ (by simp) _)) q7 kk7 mm7); clear q7 kk7 mm7))
                all_goals
                  go_simp
                  go_wp2
                  (try simp only [Exit.inBlock, Exit.then])
                  first
                  | (refine bodyPost_end (results_none rfl _ _ _) rfl ?_; exact ⟨rfl, by rw [HE.out]; exact HQ7.out⟩)
                  | (refine bodyPost_ret (results_none rfl _ _ _) rfl ?_; exact ⟨rfl, by rw [HE.out]; exact HQ7.out⟩)
end
end Go.Proofs.YtlabdbfmfejkaaaDoor

namespace Go.Proofs.YtlabdbfmfejkaaaDoor
open Go.RowKit

/-- What every paint keeps. -/
structure PI (p : PSt) (k : Nat) : Prop where
  nd : (p.ma.map (·.1)).Nodup
  nm : ∀ e ∈ p.me, namesB e.1 = true
  ml : p.ma.length ≤ k
  el : p.me.length ≤ k
theorem push_ma (p : PSt) (s : Nat) : (p.push s).ma = p.ma ∧ (p.push s).me = p.me := by
  unfold PSt.push
  split <;> exact ⟨rfl, rfl⟩
theorem PI.push {p : PSt} {k : Nat} (H : PI p k) (s : Nat) : PI (p.push s) k := by
  obtain ⟨h1, h2⟩ := push_ma p s
  exact ⟨by rw [h1]; exact H.nd, by rw [h2]; exact H.nm, by rw [h1]; exact H.ml, by rw [h2]; exact H.el⟩
theorem PI.mono {p : PSt} {k k' : Nat} (H : PI p k) (h : k ≤ k') : PI p k' := ⟨H.nd, H.nm, Nat.le_trans H.ml h, Nat.le_trans H.el h⟩
theorem PI.putM {p : PSt} {k : Nat} (H : PI p k) (s : Nat) (m : Nat × Bool) : PI { p with ma := putA p.ma s m } (k + 1) :=
  ⟨putA_nodup H.nd s m, H.nm, by have := (putA_len p.ma s m).1; have := H.ml; show (putA p.ma s m).length ≤ k + 1; omega, by have := H.el; show p.me.length ≤ k + 1; omega⟩
theorem PI.putT {p : PSt} {k : Nat} (H : PI p k) (x : Int × Nat) (hx : namesB x = true) (r : Nat) : PI { p with me := putA p.me x r } (k + 1) := by
  refine ⟨H.nd, fun e he => ?_, by have := H.ml; show p.ma.length ≤ k + 1; omega, by have := (putA_len p.me x r).1; have := H.el; show (putA p.me x r).length ≤ k + 1; omega⟩
  have he' : e ∈ putA p.me x r := he
  unfold putA at he'
  split at he'
  · obtain ⟨q, hq, rfl⟩ := List.mem_map.1 he'
    split
    · exact hx
    · exact H.nm q hq
  · rcases List.mem_append.1 he' with h | h
    · exact H.nm e h
    · rw [List.mem_singleton] at h
      subst h
      exact hx
theorem PI.shade {p : PSt} {k : Nat} (H : PI p k) (h : HSt) (x : Int × Nat) (r : Int) : PI (p.shade h x r) (k + 1) := by
  have H1 := H.mono (Nat.le_succ k)
  unfold PSt.shade
  split
  · next hx =>
    split
    · unfold PSt.own
      split
      · split
        · exact (H.putM _ _).push _
        · split
          · exact H1
          · split
            · exact H.putM _ _
            · exact (H.putM _ _).push _
      · exact H1
    · unfold PSt.meet
      split
      · exact H.putT x hx _
      · split
        · exact H.putT x hx _
        · exact H1
  · exact H1
theorem PI.all {p : PSt} {k : Nat} (H : PI p k) (h : HSt) (l : List (Int × Nat)) (r : Nat) : PI (PSt.all h p l r) (k + l.length) := by
  unfold PSt.all
  induction l generalizing p k with
  | nil => exact H
  | cons x l ih =>
    have := ih (H.shade h x (r : Int))
    rw [List.foldl_cons, List.length_cons]
    exact this.mono (by omega)
theorem msV_grey (l : List (Nat × (Nat × Bool))) (i s : Nat) (m : Nat × Bool) (g : Bool) (hi : i < l.length) (hs : l[i] = (s, m)) : msV (l.set i (s, (m.1, g))) = (msV l).set (i * 3 + 2) (.bool g) := by
  induction l generalizing i with
  | nil => simp at hi
  | cons x l ih =>
    cases i with
    | zero =>
      simp only [List.getElem_cons_zero] at hs
      subst hs
      rfl
    | succ i =>
      have h := ih i (by simpa using hi) (by simpa using hs)
      have e2 : (i + 1) * 3 + 2 = i * 3 + 2 + 3 := by omega
      rw [e2]
      show m3V x ++ msV (l.set i (s, (m.1, g))) = (m3V x ++ msV l).set (i * 3 + 2 + 3) _
      rw [h]
      rfl
section
variable {w w' : World} {qb rb base ra rc rt : Nat} {sv mv kv vv lv : Value} {p : PSt} {L : List ((Int × Nat) × Nat)} {h : HSt} {M : List Pl} {G : Nat → Prop} {k : Nat}
/-- One mark is grey no more. -/
theorem RQ.grey (x : RQ w qb rb base sv mv kv vv p L) {i s : Nat} {m : Nat × Bool} {g cap n : Nat} (hi : p.ma[i]? = some (s, m)) (hv : mv = .slice (some ⟨g, 0, none⟩) n cap) (g' : Bool) :
    (RQ (w.setCell ⟨g, i * 3 + 2, none⟩ (.bool g')) qb rb base sv mv kv vv { p with ma := p.ma.set i (s, (m.1, g')) } L ∧ Kept w (w.setCell ⟨g, i * 3 + 2, none⟩ (.bool g')) (qBl qb sv mv kv vv)) ∧
    w.cell? ⟨g, i * 3 + 1, none⟩ = some (.int .i64 (m.1 : Int)) ∧ w.cell? ⟨g, i * 3 + 2, none⟩ = some (.bool m.2) ∧ w.frozen? ⟨g, i * 3 + 1, none⟩ = false ∧ w.frozen? ⟨g, i * 3 + 2, none⟩ = false ∧ g < w.heap.size ∧ g ≠ qb := by
  obtain ⟨hi', he⟩ := List.getElem?_eq_some_iff.1 hi
  obtain ⟨o1, o2, o3, o4⟩ := x.offq
  have hg : mv.ownBlock = some g := by rw [hv]; rfl
  have hgq : g ≠ qb := fun e => o2 (by rw [hg, e])
  obtain ⟨g2, cap2, hv2, _, hgl, _, hc, hf⟩ := ownc_cell x.ml (by omega)
  rw [hv] at hv2
  simp only [Value.slice.injEq, Option.some.injEq, Addr.mk.injEq] at hv2
  have eg : g = g2 := hv2.1.1
  subst eg
  have hat := msV_at p.ma i hi'
  rw [he] at hat
  have hk : Kept w (w.setCell ⟨g, i * 3 + 2, none⟩ (.bool g')) (fun k => mv.ownBlock = some k) := (Kept.setCell w ⟨g, i * 3 + 2, none⟩ (.bool g')).mono (fun k _ e => by
    have e' : k = g := e
    rw [hg, e'])
  have hml : (w.setCell ⟨g, i * 3 + 2, none⟩ (.bool g')).ownsRow base 128 3 mv (p.ma.set i (s, (m.1, g'))).length (msV (p.ma.set i (s, (m.1, g')))) := by
    rw [List.length_set, msV_grey p.ma i s m g' hi' he]
    rcases x.ml.2 with ⟨h0, _⟩ | ⟨g3, cap3, cur, hv3, hb3, hg3, hn3, hm3, hs3, ht3⟩
    · rw [h0] at hg; cases hg
    · have e3 : g3 = g := by rw [hv3] at hg; simpa [Value.ownBlock] using hg
      subst e3
      have hs2 := heap_setCell_same w g3 (i * 3 + 2) _ _ (.bool g') hg3
      refine ⟨by rw [List.length_set]; exact x.ml.1, Or.inr ⟨g3, cap3, _, hv3, hb3, hs2, hn3, hm3, by simpa using hs3, ?_⟩⟩
      rw [Array.toList_setIfInBounds, List.take_set, ht3]
  refine ⟨⟨⟨x.box.kept hk o2, own_kept x.sl hk (fun k e e' => ((x.d k).1 e).2.1 e'), hml, own_kept x.kl hk (fun k e e' => ((x.d k).2.1 e').2.1 e), own_kept x.vl hk (fun k e e' => ((x.d k).2.1 e').2.2 e), x.srt, x.d, x.ge, x.few.1, x.few.2.1, x.few.2.2.1, by rw [List.length_set]; exact x.few.2.2.2.1, x.few.2.2.2.2⟩, hk.mono (fun k _ e => Or.inr (Or.inr (Or.inl e)))⟩, hc _ _ hat.2.1, hc _ _ hat.2.2, hf _, hf _, hgl, hgq⟩
theorem rshade_any (x : RQ w qb rb base sv mv kv vv p L) (y : RX w rb ra rc rt lv h M) (H : PI p k) (hk : k < 1000000) (a : Int) (n : Nat) (r : Int) :
    Calls Tryd.prog 57 #[.pointer (some ⟨qb, 0, none⟩), .agg #[.int .i64 a, .int .u64 (n : Int)], .int .i64 r] w fun e w' => e = .returned (.tuple #[]) ∧ QGo w w' qb rb base (qBl qb sv mv kv vv) (p.shade h (a, n) r) := by
  unfold PSt.shade
  have hml := H.ml
  have hel := H.el
  have hL : L.length = p.me.length := x.srt.1.length_eq
  cases hn : namesB (a, n) with
  | false =>
    rw [if_neg (by simp)]
    exact rshade_no x a n r hn
  | true =>
    rw [if_pos rfl]
    by_cases he : a = (h.node : Int)
    · rw [if_pos he]
      exact rshade_near x y a n r hn he H.nd (by omega)
    · rw [if_neg he]
      exact rshade_far x y a n r hn he H.nm (by omega)
theorem QN.use {r : Ending} {f : Nat} {args : Array Value} {p' : PSt} (x : QN w qb rb base G p) (hc : ∀ sv mv kv vv L, RQ w qb rb base sv mv kv vv p L → Calls Tryd.prog f args w fun e w' => e = r ∧ QGo w w' qb rb base (qBl qb sv mv kv vv) p') : Calls Tryd.prog f args w fun e w' => e = r ∧ QGo w w' qb rb base G p' := by
  obtain ⟨sv, mv, kv, vv, L, hx, hG⟩ := x.ex
  have e : G = qBl qb sv mv kv vv := funext fun k => propext (hG k)
  rw [e]
  exact hc sv mv kv vv L hx
theorem QN.shade (x : QN w qb rb base G p) (y : RX w rb ra rc rt lv h M) (H : PI p k) (hk : k < 1000000) (a : Int) (n : Nat) (r : Int) :
    Calls Tryd.prog 57 #[.pointer (some ⟨qb, 0, none⟩), .agg #[.int .i64 a, .int .u64 (n : Int)], .int .i64 r] w fun e w' => e = .returned (.tuple #[]) ∧ QGo w w' qb rb base G (p.shade h (a, n) r) :=
  x.use (fun _ _ _ _ _ hx => rshade_any hx y H hk a n r)
set_option maxRecDepth 20000 in
set_option maxHeartbeats 2000000 in
theorem rscan_ok (x : RQ w qb rb base sv mv kv vv p L) (y : RX w rb ra rc rt lv h M) (hG : ∀ j ∈ rBl rb ra rc rt lv M, ¬ qBl qb sv mv kv vv j) (H : PI p k) (hk : k + 8 < 1000000) (s : Nat) (pl : Pl) (hp : getP M s = some pl) (r : Nat) (hm : getA p.ma s = some (r, true)) :
    Calls Tryd.prog 58 #[.pointer (some ⟨qb, 0, none⟩), .int .u64 (s : Int)] w fun e w' => e = .returned (.bool true) ∧ QGo w w' qb rb base (qBl qb sv mv kv vv) (PSt.all h { p with ma := putA p.ma s (r, false) } pl.o.rf r) := by
  have c0 : w.cell? ⟨qb, 0, none⟩ = some (.pointer (some ⟨rb, 0, none⟩)) := x.box.cell 0 (by simp)
  have hF := rfind_any x s
  have hGt := rget_any y s
  rw [hp] at hGt
  simp only [ptrOf, Option.map_some] at hGt
  have hpm := (getP_mem hp).1
  have hfl := (y.fl hpm).1
  have HX : Hid _ := hidden x
  have HY : Hid _ := hidden y
  obtain ⟨p1, hp1⟩ : ∃ p1 : PSt, p1 = { p with ma := putA p.ma s (r, false) } := ⟨_, rfl⟩
  rw [← hp1]
  have HE1 : Hid _ := hidden hp1
  clear x y hp1
  go_enter Tryd.func58, Tryd.ntmps58
  go_wp2_with fail
  refine hF.mono ?_
  rintro e _ ⟨rfl, he⟩
  clear hF
  unfold FoundAt at he
  rcases he with ⟨i, m, g, cap, rfl, hmv, h1, h2⟩ | ⟨rfl, h1⟩
  · have hg := found_get h1 h2
    rw [hm] at hg
    cases hg
    obtain ⟨⟨q1, q2⟩, d1, d2, _, f2, hgl, hgq⟩ := HX.out.grey h1 hmv false
    simp only at d1 d2 q1
    rw [← putA_set H.nd h1, ← HE1.out] at q1
    have HQ : Hid _ := hidden q1
    have HK : Hid _ := hidden q2
    have HP1 : Hid (PI p1 (k + 1)) := by
      have h : PI p1 (k + 1) := by rw [HE1.out]; exact H.putM s (r, false)
      exact h
    clear HE1
    clear h1 h2 hm q1 q2 hmv
    go_wp2_with fail
    refine hGt.mono ?_
    rintro e _ ⟨rfl, rfl⟩
    clear hGt
    go_wp2
    generalize hw1 : w.setCell ⟨g, i * 3 + 2, none⟩ (.bool false) = w1 at *
    clear hw1 c0 d1 d2 f2
    go_loopw [8] (fun t wr => ∃ (j : Nat) (G' : Nat → Prop), j ≤ pl.o.rf.length ∧ t = .int .i64 (j : Int) ∧ QN wr qb rb base G' (PSt.all h p1 (pl.o.rf.take j) r) ∧ (∀ b, G' b → qBl qb sv mv kv vv b ∨ w.heap.size ≤ b) ∧ Kept w wr (qBl qb sv mv kv vv)) (fun t _ => pl.o.rf.length - (intOf t).toNat)
    case atStart => exact ⟨0, _, Nat.zero_le _, rfl, HQ.out.qn, fun b hb => Or.inl hb, HK.out⟩
    case round =>
      clear HQ HK
      obtain ⟨j, G', hj, rfl, hn, hG', hkw⟩ := hrel
      have yr := HY.out.kept hkw hG
      have e2 := yr.pc hpm 2 _ rfl
      by_cases hlt : (j : Int) < (pl.o.rf.length : Int)
      · have hjl : j < pl.o.rf.length := by omega
        obtain ⟨u0, u1⟩ := yr.rc' hpm j hjl
        have hPI := (HP1.out.all h (pl.o.rf.take j) r)
        have hSh := hn.shade yr hPI (by rw [List.length_take]; omega) pl.o.rf[j].1 pl.o.rf[j].2 (r : Int)
        rw [show (pl.o.rf[j].1, pl.o.rf[j].2) = pl.o.rf[j] from rfl, ← all_step h p1 pl.o.rf r j hjl] at hSh
        have HG' : Hid _ := hidden hG'
        have HKW : Hid _ := hidden hkw
        clear hn hPI yr hG' hkw
        have HA : Hid (∃ q, q = PSt.all h p1 (pl.o.rf.take (j + 1)) r) := ⟨_, rfl⟩
        obtain ⟨p2, hp2⟩ := HA.out
        rw [← hp2] at hSh
        have HP2 : Hid _ := hidden hp2
        have HL : Hid (j + 1 ≤ pl.o.rf.length) := hjl
        generalize pl.o.rf[j] = idj at *
        clear hp2 HA
        generalize pl.o.rf.length = nf at *
        go_wp2_with fail
        refine hSh.mono ?_
        rintro e w4 ⟨rfl, q4⟩
        have HQ4 : Hid _ := hidden q4
        clear q4 hSh u0 u1 e2 hjl
        go_wp2
        go_roundw
        case rel =>
          obtain ⟨G4, n4, hG4⟩ := HQ4.out.ex
          refine ⟨j + 1, G4, HL.out, by go_num, by rw [← HP2.out]; exact n4, fun b hb => ?_, HKW.out.trans HQ4.out.kept (fun b hb e => ?_)⟩
          · rcases hG4 b hb with e | e
            · exact HG'.out b e
            · exact Or.inr (Nat.le_trans HKW.out.size e)
          · rcases HG'.out b e with e | e
            · exact e
            · omega
        case measure => have := HL.out; simp [intOf]; omega
      · have hje : pl.o.rf.take j = pl.o.rf := List.take_of_length_le (by omega)
        rw [hje] at hn
        have HQ : Hid (QGo w wr qb rb base (qBl qb sv mv kv vv) (PSt.all h p1 pl.o.rf r)) := ⟨⟨G', hn, hG'⟩, hkw⟩
        clear hn hG' hkw yr hje
        generalize pl.o.rf.length = nf at *
        go_wp2
        go_ret
        exact ⟨rfl, HQ.out⟩
  · exact absurd (found_no h1) (by rw [hm]; simp)
set_option maxRecDepth 20000 in
set_option maxHeartbeats 1000000 in
theorem rscan_no (x : RQ w qb rb base sv mv kv vv p L) (y : RX w rb ra rc rt lv h M) (s : Nat) (hno : (∀ r, getA p.ma s ≠ some (r, true)) ∨ getP M s = none) :
    Calls Tryd.prog 58 #[.pointer (some ⟨qb, 0, none⟩), .int .u64 (s : Int)] w fun e w' => e = .returned (.bool false) ∧ w = w' := by
  have c0 : w.cell? ⟨qb, 0, none⟩ = some (.pointer (some ⟨rb, 0, none⟩)) := x.box.cell 0 (by simp)
  have hF := rfind_any x s
  have hGt := rget_any y s
  have HX : Hid _ := hidden x
  clear x y
  go_enter Tryd.func58, Tryd.ntmps58
  go_wp2_with fail
  refine hF.mono ?_
  rintro e _ ⟨rfl, he⟩
  clear hF
  unfold FoundAt at he
  rcases he with ⟨i, m, g, cap, rfl, hmv, h1, h2⟩ | ⟨rfl, h1⟩
  · have hg := found_get h1 h2
    obtain ⟨_, d1, d2, _, f2, hgl, hgq⟩ := HX.out.grey h1 hmv false
    obtain ⟨r, gr⟩ := m
    simp only at d1 d2
    cases gr with
    | false =>
      clear h1 h2 hg hmv hno
      unfold ptrOf at hGt
      cases hp : getP M s
      all_goals
        rw [hp] at hGt
        simp only [Option.map_none, Option.map_some] at hGt
        clear hp
        go_wp2_with (go_at_call 60; refine hGt.mono ?_; rintro e _ ⟨rfl, rfl⟩)
        go_ret
        exact ⟨rfl, rfl⟩
    | true =>
      have hp : getP M s = none := by
        rcases hno with h | h
        · exact absurd hg (h r)
        · exact h
      rw [hp] at hGt
      simp only [ptrOf, Option.map_none] at hGt
      clear h1 h2 hg hmv hno hp
      go_wp2_with (go_at_call 60; refine hGt.mono ?_; rintro e _ ⟨rfl, rfl⟩)
      go_ret
      exact ⟨rfl, rfl⟩
  · clear h1 hno
    unfold ptrOf at hGt
    cases hp : getP M s
    all_goals
      rw [hp] at hGt
      simp only [Option.map_none, Option.map_some] at hGt
      clear hp
      go_wp2_with (go_at_call 60; refine hGt.mono ?_; rintro e _ ⟨rfl, rfl⟩)
      go_ret
      exact ⟨rfl, rfl⟩
theorem rscan_any (x : RQ w qb rb base sv mv kv vv p L) (y : RX w rb ra rc rt lv h M) (hG : ∀ j ∈ rBl rb ra rc rt lv M, ¬ qBl qb sv mv kv vv j) (H : PI p k) (hk : k + 8 < 1000000) (s : Nat) :
    Calls Tryd.prog 58 #[.pointer (some ⟨qb, 0, none⟩), .int .u64 (s : Int)] w fun e w' => e = .returned (.bool (scanR h p s)) ∧ QGo w w' qb rb base (qBl qb sv mv kv vv) (p.scan h s) := by
  have hgc : getC h.cs s = (getP M s).map (·.o) := y.get s
  have hst : ∀ w', w = w' → QGo w w' qb rb base (qBl qb sv mv kv vv) p := fun w' e => by subst e; exact x.qn.stay (Below.refl _ _)
  unfold scanR PSt.scan
  rw [hgc]
  cases hp : getP M s with
  | none => exact (rscan_no x y s (Or.inr hp)).mono (fun e w' ⟨h1, h2⟩ => ⟨h1, hst w' h2⟩)
  | some pl =>
    cases hm : getA p.ma s with
    | none => exact (rscan_no x y s (Or.inl (fun r e => by rw [hm] at e; cases e))).mono (fun e w' ⟨h1, h2⟩ => ⟨h1, hst w' h2⟩)
    | some m =>
      obtain ⟨r, gr⟩ := m
      cases gr with
      | false => exact (rscan_no x y s (Or.inl (fun r e => by rw [hm] at e; cases e))).mono (fun e w' ⟨h1, h2⟩ => ⟨h1, hst w' h2⟩)
      | true => exact rscan_ok x y hG H hk s pl hp r hm
end
end Go.Proofs.YtlabdbfmfejkaaaDoor

namespace Go.Proofs.YtlabdbfmfejkaaaDoor
open Go.RowKit

/-- The k-th of those IDs. -/
def idAt (k : Nat) : Int × Nat := (((k / 7 : Nat) : Int), k % 7)
def idsL (n : Nat) : List (Int × Nat) := (List.range n).map idAt
theorem idsL_next (n : Nat) : idsL (n + 1) = idsL n ++ [idAt n] := by
  unfold idsL
  rw [List.range_succ, List.map_append]
  rfl
theorem idsL_len (n : Nat) : (idsL n).length = n := by simp [idsL]
/-- IDs in memory of the call's own. -/
structure IL (w0 w : World) (B : Nat) (v : Value) (n : Nat) : Prop where
  own : w.ownsRow B 47 2 v n (idsV (idsL n))
  bel : Below B w0 w
  le : B ≤ w.heap.size
theorem sr_idW (w : World) (a : Int) (n : Nat) (T : TypeId) : Sr (w.alloc (.cells #[.int .i64 a, .int .u64 (n : Int)] T)) (.slice (some ⟨w.heap.size, 0, none⟩) 1 1) 2 1 [.int .i64 a, .int .u64 (n : Int)] := by
  have h := heap_alloc_new w (.cells #[.int .i64 a, .int .u64 (n : Int)] T)
  refine ⟨rfl, Or.inr ⟨⟨w.heap.size, 0, none⟩, 1, rfl, fun j u hu => ?_⟩, by simp [Value.oneCell']⟩
  rw [Addr.add_at, Nat.zero_add, cell_of_row _ _ _ _ _ _ h]
  simpa using hu
end Go.Proofs.YtlabdbfmfejkaaaDoor

namespace Go.Proofs.YtlabdbfmfejkaaaDoor
open Go.RowKit

section
variable {w : World} {b1 b2 : Nat} {v1 v2 : Value} {L : List ((Int × Nat) × Nat)}
end
end Go.Proofs.YtlabdbfmfejkaaaDoor

namespace Go.Proofs.YtlabdbfmfejkaaaDoor
open Go.RowKit
open Go.ChangeMaps (setBlock)

section
variable {w w' : World} {pb hb base sb mb tb : Nat} {v v' : Value} {p p' : PSt} {F : Nat → Prop} {h : HSt}
end
end Go.Proofs.YtlabdbfmfejkaaaDoor

