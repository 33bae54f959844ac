/- A shake and the plain one, side by side; ShakePlays, walked. -/
import Derived.Test.YtbbdcjllmjhiiaaShR
import Derived.Test.YtbbdcjllmjhiiaaPick
import Derived.Test.YtbbdcjllmjhiiaaVsl
import Derived.Deep.CutRange
import Derived.Deep.CutBlock
import Derived.BigQuiet
namespace Go.Proofs.Ytbbdcjllmjhiiaa
open Go.RowKit

structure L2x (w0 : World) (B : Nat) (w : World) (sb ga gs rb ra rs n : Nat) (s t : St) : Prop where
  x : PX w sb ga gs (n + 1) s
  y : QX w rb ra rs n t
  ix : Inv n s
  iy : Inv n t
  bel : Below B w0 w
  le : B ≤ w.heap.size
  gx : ∀ k, xBl sb ga gs k → B ≤ k
  gy : ∀ k, xBl rb ra rs k → B ≤ k
  dj : ∀ k, xBl sb ga gs k → ¬ xBl rb ra rs k
/-- Both, wherever their lists lie. -/
def L2 (w0 : World) (B : Nat) (w : World) (sb rb n : Nat) (s t : St) : Prop := ∃ ga gs ra rs, L2x w0 B w sb ga gs rb ra rs n s t
section
variable {w0 w w' : World} {B sb rb n : Nat} {s s' t t' : St}
theorem L2.read (h : L2 w0 B w sb rb n s t) (hb : Below w.heap.size w w') : L2 w0 B w' sb rb n s t := by
  obtain ⟨ga, gs, ra, rs, x⟩ := h
  exact ⟨ga, gs, ra, rs, x.x.below hb, x.y.below hb, x.ix, x.iy, x.bel.trans (hb.mono x.le), Nat.le_trans x.le hb.size, x.gx, x.gy, x.dj⟩
theorem L2.bel (h : L2 w0 B w sb rb n s t) : Below B w0 w := by
  obtain ⟨ga, gs, ra, rs, x⟩ := h
  exact x.bel
theorem L2x.pgo {ga gs ra rs : Nat} (x : L2x w0 B w sb ga gs rb ra rs n s t) (h : SGo w w' [] sb 41 4 ga gs (n + 1) s') (hi : Inv n s') : L2 w0 B w' sb rb n s' t := by
  obtain ⟨ga', gs', hx, hk, h1, h2⟩ := h
  have hlt := x.y.lt
  have hle := x.le
  refine ⟨ga', gs', ra, rs, hx, x.y.kept hk (fun k e1 e2 => x.dj k e2 e1), hi, x.iy, x.bel.trans (hk.below x.le (fun i hi e => by have := x.gx i e; omega)), Nat.le_trans x.le hk.size, fun k hk' => ?_, x.gy, fun k hk' hy => ?_⟩
  · rcases hk' with e | e | e
    · exact x.gx k (Or.inl e)
    · subst e
      rcases h1 with e | e
      · exact x.gx _ (Or.inr (Or.inl e))
      · omega
    · subst e
      rcases h2 with e | e
      · exact x.gx _ (Or.inr (Or.inr e))
      · omega
  · have hl := hlt k hy
    rcases hk' with e | e | e
    · exact x.dj k (Or.inl e) hy
    · subst e
      rcases h1 with e | e
      · exact x.dj _ (Or.inr (Or.inl e)) hy
      · omega
    · subst e
      rcases h2 with e | e
      · exact x.dj _ (Or.inr (Or.inr e)) hy
      · omega
theorem L2x.rgo {ga gs ra rs : Nat} (x : L2x w0 B w sb ga gs rb ra rs n s t) (h : SGo w w' [.int .i64 (n : Int)] rb 37 4 ra rs (n + 1) t') (hi : Inv n t') : L2 w0 B w' sb rb n s t' := by
  obtain ⟨ga', gs', hx, hk, h1, h2⟩ := h
  have hlt := x.x.lt
  have hle := x.le
  refine ⟨ga, gs, ga', gs', x.x.kept hk (fun k e1 e2 => x.dj k e1 e2), hx, x.ix, hi, x.bel.trans (hk.below x.le (fun i hi e => by have := x.gy i e; omega)), Nat.le_trans x.le hk.size, x.gx, fun k hk' => ?_, fun k hy hk' => ?_⟩
  · rcases hk' with e | e | e
    · exact x.gy k (Or.inl e)
    · subst e
      rcases h1 with e | e
      · exact x.gy _ (Or.inr (Or.inl e))
      · omega
    · subst e
      rcases h2 with e | e
      · exact x.gy _ (Or.inr (Or.inr e))
      · omega
  · have hl := hlt k hy
    rcases hk' with e | e | e
    · exact x.dj k hy (Or.inl e)
    · subst e
      rcases h1 with e | e
      · exact x.dj _ hy (Or.inr (Or.inl e))
      · omega
    · subst e
      rcases h2 with e | e
      · exact x.dj _ hy (Or.inr (Or.inr e))
      · omega
theorem L2.begin (h : L2 w0 B w sb rb n s t) :
    Calls Try.prog 10 #[.pointer (some ⟨sb, 0, none⟩)] w fun e w' => e = .returned (.int .i64 (if s.ph = 0 then 0 else 10)) ∧ L2 w0 B w' sb rb n (s.begin n) t := by
  obtain ⟨ga, gs, ra, rs, x⟩ := h
  exact (begin_any x.x n rfl).mono (fun _ _ ⟨e, hx, hk⟩ => ⟨e, x.pgo ⟨ga, gs, hx, hk, Or.inl rfl, Or.inl rfl⟩ (x.ix.begin (by have := x.x.few; omega))⟩)
theorem L2.answer (h : L2 w0 B w sb rb n s t) (m : Int) :
    Calls Try.prog 12 #[.pointer (some ⟨sb, 0, none⟩), .int .i64 m] w fun e w' => e = .returned (.int .i64 (ansR s m : Int)) ∧ L2 w0 B w' sb rb n (s.ans m) t := by
  obtain ⟨ga, gs, ra, rs, x⟩ := h
  exact (answer_any x.x m).mono (fun _ _ ⟨e, hx, hk⟩ => ⟨e, x.pgo ⟨ga, gs, hx, hk, Or.inl rfl, Or.inl rfl⟩ (x.ix.ans m)⟩)
theorem L2.fin (h : L2 w0 B w sb rb n s t) :
    Calls Try.prog 9 #[.pointer (some ⟨sb, 0, none⟩)] w fun e w' => e = .returned (.int .i64 (if s.ph = 3 then 0 else 10)) ∧ L2 w0 B w' sb rb n (s.fin n) t := by
  obtain ⟨ga, gs, ra, rs, x⟩ := h
  exact (end_any x.x n rfl).mono (fun _ _ ⟨e, hx⟩ => ⟨e, x.pgo hx x.ix.fin⟩)
theorem L2.rbegin (h : L2 w0 B w sb rb n s t) :
    Calls Try.prog 15 #[.pointer (some ⟨rb, 0, none⟩)] w fun e w' => e = .returned (.bool (decide (t.ph = 0))) ∧ L2 w0 B w' sb rb n s (t.begin n) := by
  obtain ⟨ga, gs, ra, rs, x⟩ := h
  exact (rbegin_any x.y x.iy).mono (fun _ _ ⟨e, hx⟩ => ⟨e, x.rgo hx (x.iy.begin (by have := x.x.few; omega))⟩)
theorem L2.ranswer (h : L2 w0 B w sb rb n s t) (m : Int) :
    Calls Try.prog 17 #[.pointer (some ⟨rb, 0, none⟩), .int .i64 m] w fun e w' => e = .returned (.int .i64 (ansR t m : Int)) ∧ L2 w0 B w' sb rb n s (t.ans m) := by
  obtain ⟨ga, gs, ra, rs, x⟩ := h
  exact (ranswer_any x.y m).mono (fun _ _ ⟨e, hx, hk⟩ => ⟨e, x.rgo ⟨ra, rs, hx, hk, Or.inl rfl, Or.inl rfl⟩ (x.iy.ans m)⟩)
theorem L2.rfin (h : L2 w0 B w sb rb n s t) :
    Calls Try.prog 16 #[.pointer (some ⟨rb, 0, none⟩)] w fun e w' => e = .returned (.bool (decide (t.ph = 3))) ∧ L2 w0 B w' sb rb n s (t.fin n) := by
  obtain ⟨ga, gs, ra, rs, x⟩ := h
  exact (rend_any x.y).mono (fun _ _ ⟨e, hx⟩ => ⟨e, x.rgo hx x.iy.fin⟩)
end

set_option maxRecDepth 20000 in
set_option maxHeartbeats 400000 in
theorem shakePlays_no (mm : Int) (hm : mm < 1 ∨ 4 < mm) (v : Value) (w : World) :
    Calls Try.prog 4 #[.int .i64 mm, v] w fun e w' => e = .returned (.bool true) ∧ Below w.heap.size w w' := by
  have hN := fun W => snew_no mm hm W
  by_cases h1 : mm < 1
  all_goals
    first
    | have h2 : 4 < mm := by omega
      clear hm
      go_enter Try.func4, Try.ntmps4
      go_wp2_with (first
        | (go_at_call 7; refine (hN _).mono ?_; rintro e _ ⟨rfl, rfl⟩)
        | (go_at_call 8; refine (sknown_any _).mono ?_; rintro e w2 ⟨rfl, b2⟩))
      go_ret
      exact ⟨rfl, b2⟩
    | clear hm
      go_enter Try.func4, Try.ntmps4
      go_wp2_with (first
        | (go_at_call 7; refine (hN _).mono ?_; rintro e _ ⟨rfl, rfl⟩)
        | (go_at_call 8; refine (sknown_any _).mono ?_; rintro e w2 ⟨rfl, b2⟩))
      go_ret
      exact ⟨rfl, b2⟩

set_option maxRecDepth 20000 in
set_option maxHeartbeats 2000000 in
theorem shakePlays_ok (n : Nat) (hn : 1 ≤ n ∧ n ≤ 4) (ls : List Int) (v : Value) (w : World) (hv : Vs w v (ls.map (Value.int .i64))) :
    Calls Try.prog 4 #[.int .i64 (n : Int), v] w fun e w' => e = .returned (.bool true) ∧ Below w.heap.size w w' := by
  obtain ⟨h1, h2⟩ := hn
  have h1i : ¬ (n : Int) < 1 := by omega
  have h2i : ¬ 4 < (n : Int) := by omega
  obtain ⟨ao, cap, hve, hcap, _⟩ := id hv
  rw [List.length_map] at hve hcap
  subst hve
  have HVB : Hid (∀ W : World, Below w.heap.size w W → Vs W (.slice ao ls.length cap) (ls.map (Value.int .i64))) := fun W hW => hv.below hW
  clear hv
  have hN := LX.new n ⟨h1, h2⟩ w
  have hR := fun W => rnew_any n ⟨h1, h2⟩ W
  generalize hBB : w.heap.size = B at *
  have HBB : Hid _ := hidden hBB
  clear hBB
  go_enter Try.func4, Try.ntmps4
  go_wp2_with fail
  refine hN.mono ?_
  rintro e w1 ⟨rfl, ga, gs, x1⟩
  clear hN
  go_wp2_with fail
  refine (sknown_any _).mono ?_
  rintro e w2 ⟨rfl, b2⟩
  have x2 := x1.read b2
  clear x1 b2
  go_wp2_with fail
  refine (hR _).mono ?_
  rintro e w3 ⟨rb, ra, rs, rfl, q3, b3, g1, g2, g3⟩
  have HY : Hid (L2 w B w3 B rb n (St.new n) (St.new n)) := by
    have hlt := x2.x.lt
    have hle := x2.le
    refine ⟨ga, gs, ra, rs, x2.x.below b3, q3, x2.inv, x2.inv, x2.bel.trans (b3.mono x2.le), Nat.le_trans x2.le b3.size, x2.ge, fun k hk => ?_, fun k hk hy => ?_⟩
    · rcases hk with rfl | rfl | rfl <;> omega
    · have := hlt k hk
      rcases hy with rfl | rfl | rfl <;> omega
  clear x2 q3 b3 g1 g2 g3 hR
  obtain ⟨N, hNl⟩ : ∃ N, N = ls.length := ⟨_, rfl⟩
  rw [← hNl] at hcap ⊢
  have HN : Hid (N = ls.length) := hNl
  clear hNl
  go_wp2
  go_loopw [8, 9, 10, 11, 12] (fun i _ _ _ _ wr => ∃ (k : Nat) (s : St), k ≤ 300 ∧ i = .int .i64 (k : Int) ∧ L2 w B wr B rb n s s) (fun i _ _ _ _ _ => 300 - (intOf i).toNat)
  case atStart => exact ⟨0, _, by omega, rfl, HY.out⟩
  case round =>
    clear HY
    obtain ⟨k, s, hk, rfl, y⟩ := hrel
    have HY : Hid _ := hidden y
    clear y
    have hnl := HN.out
    by_cases hx : (k : Int) < (N : Int)
    · by_cases hx2 : (k : Int) < 300
      · have hkl : k < ls.length := by omega
        obtain ⟨b, off, hao, hbl, hc⟩ := (HVB.out wr HY.out.bel).cell k (by simpa using hkl)
        subst hao
        simp only [List.getElem_map] at hc
        generalize ls[k] = z at *
        clear hnl hkl
        have hP := fun W => pick_any z 12 (by omega) (by omega) W
        have hP2 : ∀ (y : Int) (W : World), Calls Try.prog 14 #[.int .i64 y, .int .i64 ((n : Int) + 3)] W fun e w' => ∃ pk : Nat, pk < n + 3 ∧ e = .returned (.int .i64 (pk : Int)) ∧ W = w' := by
          intro y W
          have h := pick_any y (n + 3) (by omega) (by omega) W
          rw [show ((n + 3 : Nat) : Int) = (n : Int) + 3 by omega] at h
          exact h.mono (fun e w' ⟨a, b⟩ => ⟨_, pickN_lt y (n + 3) (by omega), a, b⟩)
        generalize pickN z 12 = q at *
        go_upto_block 2 with (go_at_call 14; refine (hP _).mono ?_; rintro e _ ⟨rfl, rfl⟩)
        clear hP
        go_cut [9, 10, 11] from 50 to 94 (fun _ ok _ wc => ok = .bool true ∧ ∃ (s' : St), L2 w B wc B rb n s' s')
        case first =>
          by_cases c0 : q = 0
          · subst c0
            by_cases hp : s.ph = 0
            · have hB := HY.out.begin
              have hR := fun W (y : L2 w B W B rb n (s.begin n) s) => y.rbegin
              rw [if_pos hp] at hB
              rw [decide_eq_true hp] at hR
              generalize s.begin n = s' at *
              clear hp
              go_wp2_with fail
              refine hB.mono ?_
              rintro e w4 ⟨rfl, x4⟩
              have hR4 := hR _ x4
              clear hB hR x4
              go_wp2_with fail
              refine hR4.mono ?_
              rintro e w5 ⟨rfl, x5⟩
              go_wp2
              go_meet
              exact ⟨rfl, s', x5⟩
            · have hB := HY.out.begin
              have hR := fun W (y : L2 w B W B rb n (s.begin n) s) => y.rbegin
              rw [if_neg hp] at hB
              rw [decide_eq_false hp] at hR
              generalize s.begin n = s' at *
              clear hp
              go_wp2_with fail
              refine hB.mono ?_
              rintro e w4 ⟨rfl, x4⟩
              have hR4 := hR _ x4
              clear hB hR x4
              go_wp2_with fail
              refine hR4.mono ?_
              rintro e w5 ⟨rfl, x5⟩
              go_wp2
              go_meet
              exact ⟨rfl, s', x5⟩
          · by_cases c1 : q = 1
            · subst c1
              clear c0
              by_cases hp : s.ph = 3
              · have hB := HY.out.fin
                have hR := fun W (y : L2 w B W B rb n (s.fin n) s) => y.rfin
                rw [if_pos hp] at hB
                rw [decide_eq_true hp] at hR
                generalize s.fin n = s' at *
                clear hp
                go_wp2_with fail
                refine hB.mono ?_
                rintro e w4 ⟨rfl, x4⟩
                have hR4 := hR _ x4
                clear hB hR x4
                go_wp2_with fail
                refine hR4.mono ?_
                rintro e w5 ⟨rfl, x5⟩
                go_wp2
                go_meet
                exact ⟨rfl, s', x5⟩
              · have hB := HY.out.fin
                have hR := fun W (y : L2 w B W B rb n (s.fin n) s) => y.rfin
                rw [if_neg hp] at hB
                rw [decide_eq_false hp] at hR
                generalize s.fin n = s' at *
                clear hp
                go_wp2_with fail
                refine hB.mono ?_
                rintro e w4 ⟨rfl, x4⟩
                have hR4 := hR _ x4
                clear hB hR x4
                go_wp2_with fail
                refine hR4.mono ?_
                rintro e w5 ⟨rfl, x5⟩
                go_wp2
                go_meet
                exact ⟨rfl, s', x5⟩
            · have b0 : ((q : Int) == 0) = false := by rw [beq_eq_false_iff_ne]; omega
              have b1 : ((q : Int) == 1) = false := by rw [beq_eq_false_iff_ne]; omega
              clear c0 c1
              by_cases c2 : (2 : Int) < (q : Int)
              · go_wp2_with fail
                refine (hP2 _ _).mono ?_
                rintro e _ ⟨pk, hpk, rfl, rfl⟩
                have hB := HY.out.answer ((pk : Int) - 1)
                have hR := fun W (y : L2 w B W B rb n (s.ans ((pk : Int) - 1)) s) => y.ranswer ((pk : Int) - 1)
                generalize s.ans ((pk : Int) - 1) = s' at *
                generalize ansR s ((pk : Int) - 1) = er at *
                go_wp2_with fail
                refine hB.mono ?_
                rintro e w4 ⟨rfl, x4⟩
                have hR4 := hR _ x4
                clear hB hR x4
                go_wp2_with fail
                refine hR4.mono ?_
                rintro e w5 ⟨rfl, x5⟩
                go_wp2
                go_meet
                exact ⟨rfl, s', x5⟩
              · have hB := HY.out.answer z
                have hR := fun W (y : L2 w B W B rb n (s.ans z) s) => y.ranswer z
                generalize s.ans z = s' at *
                generalize ansR s z = er at *
                go_wp2_with fail
                refine hB.mono ?_
                rintro e w4 ⟨rfl, x4⟩
                have hR4 := hR _ x4
                clear hB hR x4
                go_wp2_with fail
                refine hR4.mono ?_
                rintro e w5 ⟨rfl, x5⟩
                go_wp2
                go_meet
                exact ⟨rfl, s', x5⟩
        case rest =>
          obtain ⟨rfl, s3, x3⟩ := hcut
          obtain ⟨wz, hwz⟩ : ∃ x, x = wc := ⟨_, rfl⟩
          subst hwz
          clear HY hP2 hc hbl
          obtain ⟨ga3, gs3, ra3, rs3, y3⟩ := x3
          have d1 := y3.y.c1
          have hPh : ∀ m, Calls Try.prog 18 #[.pointer (some ⟨B, 0, none⟩)] (wz.drewN m) fun e w' => e = .returned (.int .i64 (s3.ph : Int)) ∧ w' = wz.drewN m := fun m => (phase_any (y3.x.below (below_drewN0 wz m))).mono (fun _ _ ⟨a, b⟩ => ⟨a, b.symm⟩)
          have HZ : Hid _ := hidden y3
          clear y3
          generalize s3.ph = p3 at *
          go_upto_region 22 with fail
          go_cut [105] from 95 to 105 (fun t wc => t = .bool false ∧ Below wz.heap.size wz wc)
          case first =>
            go_quiet ((go_at_call 18; exact Calls.quiet_of_same (hPh _)))
            go_wp2
            go_meet
            exact ⟨rfl, below_drewN0 _ _⟩
          case rest =>
            obtain ⟨rfl, hb6⟩ := hcut
            obtain ⟨w6, hw6⟩ : ∃ x, x = wc := ⟨_, rfl⟩
            subst hw6
            clear hPh d1
            go_wp2
            go_loopw [12] (fun i wq => ∃ m : Int, -1 ≤ m ∧ m ≤ (n : Int) + 2 ∧ i = .int .i64 m ∧ Below wz.heap.size wz wq) (fun i _ => ((n : Int) + 2 - intOf i).toNat)
            case atStart => exact ⟨-1, by omega, by omega, rfl, hb6⟩
            case round =>
              clear hb6
              obtain ⟨m, hm1, hm2, rfl, hb⟩ := hrel
              have HB : Hid _ := hidden hb
              clear hb
              by_cases hm3 : m ≤ (n : Int) + 1
              · have y := HZ.out
                have hbel := HB.out
                have xq : PX wr B ga3 gs3 (n + 1) s3 := y.x.below hbel
                have yq : QX wr rb ra3 rs3 n s3 := y.y.below hbel
                have d2 := yq.c2
                have d3 := yq.c3
                have hA : ∀ i, Calls Try.prog 11 #[.pointer (some ⟨B, 0, none⟩), .int .i64 m] (wr.drewN i) fun e w' => e = .returned (.bool (isB s3.A m)) ∧ w' = wr.drewN i := fun i => (isArmed_any (xq.below (below_drewN0 wr i)) m).mono (fun _ _ ⟨a, b⟩ => ⟨a, b.symm⟩)
                have hS : ∀ i, Calls Try.prog 20 #[.pointer (some ⟨B, 0, none⟩), .int .i64 m] (wr.drewN i) fun e w' => e = .returned (.bool (isB s3.S m)) ∧ w' = wr.drewN i := fun i => (hasScanned_any (xq.below (below_drewN0 wr i)) m).mono (fun _ _ ⟨a, b⟩ => ⟨a, b.symm⟩)
                have hA2 : ∀ i, Calls Try.prog 19 #[.slice (some ⟨ra3, 0, none⟩) (n + 1) (n + 1), .int .i64 m] (wr.drewN i) fun e w' => e = .returned (.bool (isB s3.A m)) ∧ w' = wr.drewN i := fun i => (is_any (QX.bA (yq.below (below_drewN0 wr i))) m).mono (fun _ _ ⟨a, b⟩ => ⟨a, b.symm⟩)
                have hS2 : ∀ i, Calls Try.prog 19 #[.slice (some ⟨rs3, 0, none⟩) (n + 1) (n + 1), .int .i64 m] (wr.drewN i) fun e w' => e = .returned (.bool (isB s3.S m)) ∧ w' = wr.drewN i := fun i => (is_any (QX.bS (yq.below (below_drewN0 wr i))) m).mono (fun _ _ ⟨a, b⟩ => ⟨a, b.symm⟩)
                have hI : ∀ (g : Nat) (b : Bool), ((g = ra3 ∧ b = isB s3.A m) ∨ (g = rs3 ∧ b = isB s3.S m)) → ∀ i, Calls Try.prog 19 #[.slice (some ⟨g, 0, none⟩) (n + 1) (n + 1), .int .i64 m] (wr.drewN i) fun e w' => e = .returned (.bool b) ∧ w' = wr.drewN i := by
                  rintro g b (⟨rfl, rfl⟩ | ⟨rfl, rfl⟩) i
                  · exact hA2 i
                  · exact hS2 i
                clear y hbel xq yq hA2 hS2
                generalize isB s3.A m = ba at *
                generalize isB s3.S m = bs at *
                go_upto_region 27 with fail
                go_cut [133] from 112 to 133 (fun t wc => t = .bool false ∧ Below wr.heap.size wr wc)
                case first =>
                  cases ba <;> cases bs
                  all_goals
                    go_quiet (first
                      | (go_at_call 11; exact Calls.quiet_of_same (hA _))
                      | (go_at_call 20; exact Calls.quiet_of_same (hS _))
                      | (go_at_call 19; exact Calls.quiet_of_same (hI _ _ (by first | exact Or.inl ⟨rfl, rfl⟩ | exact Or.inr ⟨rfl, rfl⟩) _)))
                    go_wp2
                    go_meet
                    exact ⟨rfl, below_drewN0 _ _⟩
                case rest =>
                  obtain ⟨rfl, hb8⟩ := hcut
                  obtain ⟨w8, hw8⟩ : ∃ x, x = wc := ⟨_, rfl⟩
                  subst hw8
                  clear hA hI hS d2 d3
                  go_wp2
                  go_roundw
                  case rel => exact ⟨m + 1, by omega, by omega, by go_num, HB.out.trans (hb8.mono HB.out.size)⟩
                  case measure => simp [intOf]; omega
              · go_wp2
                go_roundw
                case rel => exact ⟨k + 1, s3, by omega, by go_num, L2.read ⟨ga3, gs3, ra3, rs3, HZ.out⟩ HB.out⟩
                case measure => simp [intOf]; omega
      · go_wp2
        go_ret
        exact ⟨rfl, HBB.out ▸ HY.out.bel⟩
    · go_wp2
      go_ret
      exact ⟨rfl, HBB.out ▸ HY.out.bel⟩
theorem shakePlays_any (mm : Int) (ls : List Int) (v : Value) (w : World) (hv : Vs w v (ls.map (Value.int .i64))) :
    Calls Try.prog 4 #[.int .i64 mm, v] w fun e w' => e = .returned (.bool true) ∧ Below w.heap.size w w' := by
  by_cases h : mm < 1 ∨ 4 < mm
  · exact shakePlays_no mm h v w
  · obtain ⟨n, rfl⟩ := Int.eq_ofNat_of_zero_le (show 0 ≤ mm by omega)
    exact shakePlays_ok n (by omega) ls v w hv

end Go.Proofs.Ytbbdcjllmjhiiaa
