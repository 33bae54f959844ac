/- The plain Shade: an ID that names nothing; one of another node. -/
import Derived.Test.YtdafpfdmnccelaaDoorPbQ
import Derived.Deep.CutRange
import Derived.Deep.CutBlock
import Derived.BigQuiet
namespace Go.Proofs.YtdafpfdmnccelaaDoor
open Go.RowKit

/-- None, and right, and names. -/
theorem names_right (a : Int) (n : Nat) : ((a == 0 && (n : Int) == 0) = true → namesB (a, n) = false) ∧ ((a == 0 && (n : Int) == 0) = false → namesB (a, n) = rightI (a, n)) := by
  constructor
  · intro h
    rw [Bool.and_eq_true, beq_iff_eq, beq_iff_eq] at h
    obtain ⟨rfl, h⟩ := h
    simp [namesB]
  · intro h
    unfold namesB rightI
    have : (a == 0 && n == 0) = false := by
      rw [Bool.eq_false_iff] at h ⊢
      intro e
      apply h
      rw [Bool.and_eq_true, beq_iff_eq, beq_iff_eq] at e ⊢
      omega
    simp only [this, Bool.false_or]
set_option maxRecDepth 20000 in
set_option maxHeartbeats 400000 in
theorem rnone_any (a : Int) (n : Nat) (w : World) :
    Calls Tryd.prog 43 #[.agg #[.int .i64 a, .int .u64 (n : Int)]] w fun e w' => e = .returned (.bool (a == 0 && (n : Int) == 0)) ∧ Below w.heap.size w w' := by
  cases ha : (a == 0) with
  | false =>
    rw [Bool.false_and]
    go_enter Tryd.func43, Tryd.ntmps43
    go_wp2
    go_ret
    exact ⟨rfl, bel_alloc _ _⟩
  | true =>
    rw [Bool.true_and]
    cases hn : ((n : Int) == 0)
    all_goals
      go_enter Tryd.func43, Tryd.ntmps43
      go_wp2
      go_ret
      exact ⟨rfl, bel_alloc _ _⟩
section
variable {w w' : World} {qb rb base ra rc rt : Nat} {sv mv kv vv lv : Value} {p : PSt} {L : List ((Int × Nat) × Nat)} {h : HSt} {M : List Pl}
set_option maxRecDepth 20000 in
set_option maxHeartbeats 2000000 in
theorem rshade_no (x : RQ w qb rb base sv mv kv vv p L) (a : Int) (n : Nat) (r : Int) (hnm : namesB (a, n) = false) :
    Calls Tryd.prog 14 #[.pointer (some ⟨qb, 0, none⟩), .agg #[.int .i64 a, .int .u64 (n : Int)], .int .i64 r] w fun e w' => e = .returned (.tuple #[]) ∧ QGo w w' qb rb base (qBl qb sv mv kv vv) p := by
  have HX : Hid _ := hidden x
  clear x
  have hcl : (clampR r : Int) = min (max r 0) 40 := by unfold clampR; omega
  generalize clampR r = c at *
  have HC : Hid ((c : Int) = min (max r 0) 40) := hidden hcl
  clear hcl
  have hNn := fun W => rnone_any a n W
  have hI := fun W => rid_any a n W
  have HNR := hidden (names_right a n)
  go_enter Tryd.func14, Tryd.ntmps14
  go_upto_region 1 with fail
  obtain ⟨w0, hw0⟩ : ∃ w0, w0 = w.alloc (.cells #[.int .i64 a, .int .u64 (n : Int)] 51) := ⟨_, rfl⟩
  rw [← hw0]
  have r0 : Row w0 w.heap.size 51 [.int .i64 a, .int .u64 (n : Int)] := by rw [hw0]; exact heap_alloc_new w _
  have b0 : Below w.heap.size w w0 := by rw [hw0]; exact bel_alloc _ _
  clear hw0
  have k0 := r0.cell 0 (by simp)
  have k1 := r0.cell 1 (by simp)
  simp only [List.getElem_cons_succ, List.getElem_cons_zero] at k0 k1
  have HR0 : Hid _ := hidden r0
  have HB0 : Hid _ := hidden b0
  have hw0l := r0.lt
  clear r0 b0
  go_cut [2] from 10 to 12 (fun t wc => t = .int .i64 (c : Int) ∧ w0 = wc)
  case first =>
    clear hNn hI HNR
    go_wp2
    go_meet
    refine ⟨congrArg (Value.int .i64) ?_, rfl⟩
    have := HC.out
    omega
  case rest =>
    obtain ⟨rfl, hwc⟩ := hcut
    subst hwc
    go_upto_region 2 with fail
    go_cut [19] from 13 to 19 (fun t wc => t = .bool true ∧ Below w0.heap.size w0 wc)
    case first =>
      cases hnn : (a == 0 && (n : Int) == 0) with
      | true =>
        rw [hnn] at hNn
        clear hI HNR hnn
        go_wp2_with (go_at_call 43; refine (hNn _).mono ?_; rintro e w1 ⟨rfl, q1⟩; have u0 := (q1.cell (p := ⟨w.heap.size, 0, none⟩) hw0l).trans k0; have u1 := (q1.cell (p := ⟨w.heap.size, 1, none⟩) hw0l).trans k1)
        go_meet
        exact ⟨rfl, q1⟩
      | false =>
        have hri := HNR.out.2 hnn
        rw [hnm] at hri
        rw [hnn] at hNn
        rw [← hri] at hI
        clear HNR hnn hri
        go_wp2_with (first
          | (go_at_call 43; refine (hNn _).mono ?_; rintro e w1 ⟨rfl, q1⟩; have u0 := (q1.cell (p := ⟨w.heap.size, 0, none⟩) hw0l).trans k0; have u1 := (q1.cell (p := ⟨w.heap.size, 1, none⟩) hw0l).trans k1)
          | (go_at_call 44; refine (hI _).mono ?_; rintro e w2 ⟨rfl, q2⟩))
        go_meet
        exact ⟨rfl, q1.trans (q2.mono q1.size)⟩
    case rest =>
      obtain ⟨rfl, hb2⟩ := hcut
      obtain ⟨w2, hw2⟩ : ∃ x, x = wc := ⟨_, rfl⟩
      subst hw2
      have HB2 : Hid (Below w.heap.size w w2) := HB0.out.trans (hb2.mono HB0.out.size)
      have r2 := HR0.out.below hb2
      clear hNn hI HNR k0 k1 hb2 HR0 HB0 hw0l
      have k0 := r2.cell 0 (by simp)
      have k1 := r2.cell 1 (by simp)
      simp only [List.getElem_cons_succ, List.getElem_cons_zero] at k0 k1
      have hw2l := r2.lt
      go_wp2
      (try simp only [Exit.inBlock, Exit.then]); refine bodyPost_ret (results_none rfl _ _ _) rfl ?_
      exact ⟨rfl, HX.out.qn.stay HB2.out⟩
/-- Of one of another node. -/
theorem meet_at {id : Int × Nat} (hs : OutsOf p.me L) (hid : namesB id = true) (hme : ∀ e ∈ p.me, namesB e.1 = true) (c : Nat) :
    (∃ r0, atK L (keyI id) = some (id, r0) ∧ p.meet id c = if c < r0 then { p with me := putA p.me id c } else p) ∨ (atK L (keyI id) = none ∧ p.meet id c = { p with me := putA p.me id c }) := by
  unfold PSt.meet
  cases hg : getA p.me id with
  | some r0 => exact Or.inl ⟨r0, outs_get hs (hs.1.mem_iff.2 (getA_mem hg)), rfl⟩
  | none =>
    refine Or.inr ⟨?_, rfl⟩
    cases hk : atK L (keyI id) with
    | none => rfl
    | some y =>
      unfold atK at hk
      have h1 := hs.1.mem_iff.1 (List.mem_of_find?_eq_some hk)
      have h2 : keyI y.1 = keyI id := by simpa using List.find?_some hk
      exact absurd (keyI_inj (hme y h1) hid h2) (getA_none hg y h1)
set_option maxRecDepth 20000 in
set_option maxHeartbeats 4000000 in
theorem rshade_far (x : RQ w qb rb base sv mv kv vv p L) (y : RX w rb ra rc rt lv h M) (a : Int) (n : Nat) (r : Int) (hnm : namesB (a, n) = true) (hne : a ≠ (h.node : Int)) (hme : ∀ e ∈ p.me, namesB e.1 = true) (hl : L.length < 1000000) :
    Calls Tryd.prog 14 #[.pointer (some ⟨qb, 0, none⟩), .agg #[.int .i64 a, .int .u64 (n : Int)], .int .i64 r] w fun e w' => e = .returned (.tuple #[]) ∧ QGo w w' qb rb base (qBl qb sv mv kv vv) (p.meet (a, n) (clampR r)) := by
  have hnl := names_lt hnm
  simp only at hnl
  obtain ⟨aN, hA⟩ := Int.eq_ofNat_of_zero_le (show 0 ≤ a by omega)
  have hK := fun W => key_any aN n (by omega) (by omega) W
  rw [← hA] at hK
  have ek : keyN aN n = keyI (a, n) := by unfold keyI; rw [hA]; simp
  rw [ek] at hK
  have hG := fun W (hb : Below w.heap.size w W) => rtget_any (x.below hb) (keyI (a, n))
  have hPu := fun W (hb : Below w.heap.size w W) => rput_any (x.below hb) (a, n) (clampR r) hnm hme hl (keyI (a, n)) rfl
  have hM := meet_at x.srt hnm hme (clampR r)
  have HX : Hid _ := hidden x
  have HY : Hid _ := hidden y
  have hnode : (a == (h.node : Int)) = false := by rw [beq_eq_false_iff_ne]; exact hne
  have HF : Hid (∀ W w', Below w.heap.size w W → PutTo W w' qb rb base sv mv kv vv { p with me := putA p.me (a, n) (clampR r) } → QGo w w' qb rb base (qBl qb sv mv kv vv) { p with me := putA p.me (a, n) (clampR r) }) := fun W w' hb ⟨kv', vv', L', q1, q2, q3, q4⟩ => by
    have := q1.went (sv := sv) (mv := mv) (kv := kv) (vv := vv) q2 (Moved.refl _ _) (Moved.refl _ _) q3 q4
    exact QGo.trans (fun k hk => Or.inl hk) (kept_of_below hb _) this
  have HS : Hid (∀ w', Below w.heap.size w w' → QGo w w' qb rb base (qBl qb sv mv kv vv) p) := fun w' hb => x.qn.stay hb
  generalize p.meet (a, n) (clampR r) = pm at *
  generalize ({ p with me := putA p.me (a, n) (clampR r) } : PSt) = pp at *
  generalize keyI (a, n) = kk at *
  generalize atK L kk = ok at *
  clear x y ek hl hme hne hnl hA
  have hcl : (clampR r : Int) = min (max r 0) 40 := by unfold clampR; omega
  generalize clampR r = c at *
  have HC : Hid ((c : Int) = min (max r 0) 40) := hidden hcl
  clear hcl
  have hNn := fun W => rnone_any a n W
  have hI := fun W => rid_any a n W
  have HNR := hidden (names_right a n)
  go_enter Tryd.func14, Tryd.ntmps14
  go_upto_region 1 with fail
  obtain ⟨w0, hw0⟩ : ∃ w0, w0 = w.alloc (.cells #[.int .i64 a, .int .u64 (n : Int)] 51) := ⟨_, rfl⟩
  rw [← hw0]
  have r0 : Row w0 w.heap.size 51 [.int .i64 a, .int .u64 (n : Int)] := by rw [hw0]; exact heap_alloc_new w _
  have b0 : Below w.heap.size w w0 := by rw [hw0]; exact bel_alloc _ _
  clear hw0
  have k0 := r0.cell 0 (by simp)
  have k1 := r0.cell 1 (by simp)
  simp only [List.getElem_cons_succ, List.getElem_cons_zero] at k0 k1
  have HR0 : Hid _ := hidden r0
  have HB0 : Hid _ := hidden b0
  have hw0l := r0.lt
  clear r0 b0
  go_cut [2] from 10 to 12 (fun t wc => t = .int .i64 (c : Int) ∧ w0 = wc)
  case first =>
    clear hNn hI HNR
    go_wp2
    go_meet
    refine ⟨congrArg (Value.int .i64) ?_, rfl⟩
    have := HC.out
    omega
  case rest =>
    obtain ⟨rfl, hwc⟩ := hcut
    subst hwc
    go_upto_region 2 with fail
    go_cut [19] from 13 to 19 (fun t wc => t = .bool false ∧ Below w0.heap.size w0 wc)
    case first =>
      cases hnn : (a == 0 && (n : Int) == 0) with
      | true =>
        have := HNR.out.1 hnn
        rw [hnm] at this
        cases this
      | false =>
        have hri := HNR.out.2 hnn
        rw [hnm] at hri
        rw [hnn] at hNn
        rw [← hri] at hI
        clear HNR hnn hri
        go_wp2_with (first
          | (go_at_call 43; refine (hNn _).mono ?_; rintro e w1 ⟨rfl, q1⟩; have u0 := (q1.cell (p := ⟨w.heap.size, 0, none⟩) hw0l).trans k0; have u1 := (q1.cell (p := ⟨w.heap.size, 1, none⟩) hw0l).trans k1)
          | (go_at_call 44; refine (hI _).mono ?_; rintro e w2 ⟨rfl, q2⟩))
        go_meet
        exact ⟨rfl, q1.trans (q2.mono q1.size)⟩
    case rest =>
      obtain ⟨rfl, hb2⟩ := hcut
      obtain ⟨w2, hw2⟩ : ∃ x, x = wc := ⟨_, rfl⟩
      subst hw2
      have HB2 : Hid (Below w.heap.size w w2) := HB0.out.trans (hb2.mono HB0.out.size)
      have r2 := HR0.out.below hb2
      clear hNn hI HNR k0 k1 hb2 HR0 HB0 hw0l
      have k0 := r2.cell 0 (by simp)
      have k1 := r2.cell 1 (by simp)
      simp only [List.getElem_cons_succ, List.getElem_cons_zero] at k0 k1
      have hw2l := r2.lt
      have c0 : w2.cell? ⟨qb, 0, none⟩ = some (.pointer (some ⟨rb, 0, none⟩)) := (HX.out.below HB2.out).box.cell 0 (by simp)
      have cn : w2.cell? ⟨rb, 0, none⟩ = some (.int .i64 (h.node : Int)) := (HY.out.below HB2.out).box.cell 0 (by simp)
      have hG' := fun W (hb : Below w2.heap.size w2 W) => hG W (HB2.out.trans (hb.mono HB2.out.size))
      have hPu' := fun W (hb : Below w2.heap.size w2 W) => hPu W (HB2.out.trans (hb.mono HB2.out.size))
      have HF' : Hid (∀ W w', Below w2.heap.size w2 W → PutTo W w' qb rb base sv mv kv vv pp → QGo w w' qb rb base (qBl qb sv mv kv vv) pp) := fun W w' hb h => HF.out W w' (HB2.out.trans (hb.mono HB2.out.size)) h
      have HS' : Hid (∀ W, Below w2.heap.size w2 W → QGo w W qb rb base (qBl qb sv mv kv vv) p) := fun W hb => HS.out W (HB2.out.trans (hb.mono HB2.out.size))
      have HR2 : Hid _ := hidden r2
      clear hG hPu HF HS HX HY r2
      go_upto_region 3 with fail
      go_cut [29] from 20 to 29 (fun t wc => t = .bool true ∧ Below w2.heap.size w2 wc)
      case first =>
        go_quiet (fail)
        go_wp2
        go_meet
        exact ⟨congrArg Value.bool (by show (!(a == _)) = true; rw [hnode]; rfl), below_drewN0 _ _⟩
      case rest =>
        obtain ⟨rfl, hb3⟩ := hcut
        obtain ⟨w3, hw3⟩ : ∃ x, x = wc := ⟨_, rfl⟩
        subst hw3
        have r3 := HR2.out.below hb3
        have hw3l := r3.lt
        have hG3 := fun W (hb : Below w3.heap.size w3 W) => hG' W (hb3.trans (hb.mono hb3.size))
        have hPu3 := fun W (hb : Below w3.heap.size w3 W) => hPu' W (hb3.trans (hb.mono hb3.size))
        have HF3 : Hid (∀ W w', Below w3.heap.size w3 W → PutTo W w' qb rb base sv mv kv vv pp → QGo w w' qb rb base (qBl qb sv mv kv vv) pp) := fun W w' hb h => HF'.out W w' (hb3.trans (hb.mono hb3.size)) h
        have HS3 : Hid (∀ W, Below w3.heap.size w3 W → QGo w W qb rb base (qBl qb sv mv kv vv) p) := fun W hb => HS'.out W (hb3.trans (hb.mono hb3.size))
        clear k0 k1 c0 cn hw2l HR2 hb3 hG' hPu' HF' HS' HB2
        have k0 := r3.cell 0 (by simp)
        have k1 := r3.cell 1 (by simp)
        simp only [List.getElem_cons_succ, List.getElem_cons_zero] at k0 k1
        have HR3 : Hid _ := hidden r3
        clear r3
        have hG' := hG3
        clear hG3
        go_upto_region 4 with fail
        go_cut [6, 7] from 30 to 38 (fun t6 t7 wc => GotK w3 ok t6 t7 wc)
        case first =>
          clear hPu3
          cases ok with
          | none =>
            simp only [outV, Option.isSome_none] at hG'
            go_region_with (first
              | (go_at_call 46; refine (hK _).mono ?_; rintro e _ ⟨rfl, rfl⟩)
              | (go_at_call 45; refine (hG' _ (by repeat (first | exact Below.refl _ _ | refine Below.drew ?_ | refine Below.alloc ?_ (by simp) _))).mono ?_; rintro e w5 ⟨rfl, b2⟩; have z2 := b2.size; have uc := fun (i j : Nat) (h : i < _) => b2.cell (p := ⟨i, j, none⟩) h; have uf := fun (i j : Nat) (h : i < _) => b2.frozen (p := ⟨i, j, none⟩) h; simp only [World.size_alloc, World.drew] at z2))
            all_goals
              go_simp
              go_wp2
              go_meet
              first
              | exact gotK_new b2 rfl
              | exact gotK_mid b2 rfl
              | exact gotK_old b2 rfl
          | some y =>
            obtain ⟨⟨ya, yn⟩, yr⟩ := y
            simp only [outV, Option.isSome_some] at hG'
            go_region_with (first
              | (go_at_call 46; refine (hK _).mono ?_; rintro e _ ⟨rfl, rfl⟩)
              | (go_at_call 45; refine (hG' _ (by repeat (first | exact Below.refl _ _ | refine Below.drew ?_ | refine Below.alloc ?_ (by simp) _))).mono ?_; rintro e w5 ⟨rfl, b2⟩; have z2 := b2.size; have uc := fun (i j : Nat) (h : i < _) => b2.cell (p := ⟨i, j, none⟩) h; have uf := fun (i j : Nat) (h : i < _) => b2.frozen (p := ⟨i, j, none⟩) h; simp only [World.size_alloc, World.drew] at z2))
            all_goals
              go_simp
              go_wp2
              go_meet
              first
              | exact gotK_new b2 rfl
              | exact gotK_mid b2 rfl
              | exact gotK_old b2 rfl
        case rest =>
          obtain ⟨g, rfl, rfl, hg, hb4, hr4⟩ := hcut
          obtain ⟨w4, hw4⟩ : ∃ x, x = wc := ⟨_, rfl⟩
          subst hw4
          have r4 := HR3.out.below hb4
          have hw4l := r4.lt
          have hPu4 := fun W (hb : Below w4.heap.size w4 W) => hPu3 W (hb4.trans (hb.mono hb4.size))
          have HF4 : Hid (∀ W w', Below w4.heap.size w4 W → PutTo W w' qb rb base sv mv kv vv pp → QGo w w' qb rb base (qBl qb sv mv kv vv) pp) := fun W w' hb h => HF3.out W w' (hb4.trans (hb.mono hb4.size)) h
          have HS4 : Hid _ := hidden (HS3.out w4 hb4)
          clear k0 k1 HR3 hb4 hPu3 HF3 HS3 hG'
          have k0 := r4.cell 0 (by simp)
          have k1 := r4.cell 1 (by simp)
          simp only [List.getElem_cons_succ, List.getElem_cons_zero] at k0 k1
          clear r4
          cases ok with
          | none =>
            rcases hM with ⟨r0, h0, _⟩ | ⟨_, hpm⟩
            · cases h0
            have HPM : Hid _ := hidden hpm
            clear hpm hr4
            go_upto_region 6 with fail
            go_region_with (first
              | (go_at_call 46; refine (hK _).mono ?_; rintro e _ ⟨rfl, rfl⟩)
              | (go_at_call 47; refine (hPu4 _ (by repeat (first | exact Below.refl _ _ | refine Below.drew ?_ | refine Below.alloc ?_ (by simp) _))).mono ?_; rintro e w7 ⟨rfl, q7⟩; have HQ7 : Hid _ := hidden (HF4.out _ _ (by repeat (first | exact Below.refl _ _ | refine Below.drew ?_ | refine Below.alloc ?_ (by simp) _)) q7); clear q7))
            all_goals
              go_simp
              go_wp2
              (try simp only [Exit.inBlock, Exit.then]); refine bodyPost_ret (results_none rfl _ _ _) rfl ?_
              exact ⟨rfl, by rw [HPM.out]; exact HQ7.out⟩
          | some y =>
            obtain ⟨⟨ya, yn⟩, yr⟩ := y
            rcases hM with ⟨r0, h0, hpm⟩ | ⟨h0, _⟩
            · simp only [Option.some.injEq, Prod.mk.injEq] at h0
              obtain ⟨_, rfl⟩ := h0
              have o2 := hr4.cell 2 (by simp [outL])
              simp only [outL, List.getElem_cons_succ, List.getElem_cons_zero] at o2
              by_cases hc : c < yr
              · rw [if_pos hc] at hpm
                have hci : (c : Int) < (yr : Int) := by omega
                have HPM : Hid _ := hidden hpm
                clear hpm hr4 hc
                go_upto_region 6 with fail
                go_region_with (first
                  | (go_at_call 46; refine (hK _).mono ?_; rintro e _ ⟨rfl, rfl⟩)
                  | (go_at_call 47; refine (hPu4 _ (by repeat (first | exact Below.refl _ _ | refine Below.drew ?_ | refine Below.alloc ?_ (by simp) _))).mono ?_; rintro e w7 ⟨rfl, q7⟩; have HQ7 : Hid _ := hidden (HF4.out _ _ (by repeat (first | exact Below.refl _ _ | refine Below.drew ?_ | refine Below.alloc ?_ (by simp) _)) q7); clear q7))
                all_goals
                  go_simp
                  go_wp2
                  (try simp only [Exit.inBlock, Exit.then]); refine bodyPost_ret (results_none rfl _ _ _) rfl ?_
                  exact ⟨rfl, by rw [HPM.out]; exact HQ7.out⟩
              · rw [if_neg hc] at hpm
                have hci : ¬ (c : Int) < (yr : Int) := by omega
                have HPM : Hid _ := hidden hpm
                clear hpm hr4 hc hPu4 HF4
                go_wp2
                (try simp only [Exit.inBlock, Exit.then]); refine bodyPost_ret (results_none rfl _ _ _) rfl ?_
                exact ⟨rfl, by rw [HPM.out]; exact HS4.out⟩
            · cases h0
end
end Go.Proofs.YtdafpfdmnccelaaDoor
