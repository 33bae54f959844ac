/- GreyPlays, walked. -/
import Derived.Test.YtjbhlfoaklfpeaaGrT
import Derived.Deep.RegionHeld
namespace Go.Proofs.Ytjbhlfoaklfpeaa
open Go.RowKit

set_option maxRecDepth 20000 in
set_option maxHeartbeats 400000 in
theorem greyPlays_no (n : Int) (h : n < 1 ∨ 64 < n) (v : Value) (w : World) :
    Calls Try.prog 4 #[.int .i64 n, v] w fun e w' => e = .returned (.bool true) ∧ Below w.heap.size w w' := by
  have hN := fun w => newI_no n h w
  by_cases h1 : n < 1
  · go_enter Try.func4, Try.ntmps4
    go_wp2_with (first
      | (go_at_call 6; refine (hN _).mono ?_; rintro e _ ⟨rfl, rfl⟩)
      | (go_at_call 8; refine (gknown_any _).mono ?_; rintro e w1 ⟨rfl, hb1⟩))
    go_ret
    exact ⟨rfl, hb1⟩
  · have h2 : 64 < n := by omega
    go_enter Try.func4, Try.ntmps4
    go_wp2_with (first
      | (go_at_call 6; refine (hN _).mono ?_; rintro e _ ⟨rfl, rfl⟩)
      | (go_at_call 8; refine (gknown_any _).mono ?_; rintro e w1 ⟨rfl, hb1⟩))
    go_ret
    exact ⟨rfl, hb1⟩

/-- The two stacks hold the same. -/
def TT (w0 : World) (B : Nat) (w : World) (sb rb M : Nat) : Prop := ∃ v u xs ov, TW w0 B w sb rb v u M xs ov xs ov

set_option maxRecDepth 20000 in
set_option maxHeartbeats 4000000 in
theorem greyPlays_ok (M : Nat) (h1 : 1 ≤ M) (h2 : M ≤ 64) (l : List Int) (v : Value) (w : World) (hv : Vs w v (l.map (Value.int .i64))) :
    Calls Try.prog 4 #[.int .i64 (M : Int), v] w fun e w' => e = .returned (.bool true) ∧ Below w.heap.size w w' := by
  have hNew := newI_ok w.heap.size M h1 h2 w
  obtain ⟨ao, vc, rfl, ⟨hlc, _⟩, _⟩ := id hv
  rw [List.length_map] at hv hlc ⊢
  have HV : Hid (∀ W : World, Below w.heap.size w W → Vs W (.slice ao l.length vc) (l.map (Value.int .i64))) := fun W hW => hv.below hW
  clear hv
  have h1a : decide ((M : Int) < 1) = false := decide_eq_false (by omega)
  have h2a : decide ((64 : Int) < (M : Int)) = false := decide_eq_false (by omega)
  generalize hG : w.heap.size = B at *
  have HG : Hid _ := hidden hG
  clear hG
  go_enter Try.func4, Try.ntmps4
  go_wp2_with fail
  refine hNew.mono ?_
  rintro e w1 ⟨rfl, x1, b1⟩
  go_wp2_with fail
  refine (gknown_any _).mono ?_
  rintro e w2 ⟨rfl, b2⟩
  have x2 := x1.below b2
  have b12 := b1.trans (b2.mono (by have := b1.size; have := HG.out; omega))
  have hz2 := x2.box.lt
  have t3 : TW w B (w2.alloc (.cells #[.int .i64 (M : Int), .slice none 0 0, .bool false] 39)) B w2.heap.size (.slice none 0 0) (.slice none 0 0) M [] false [] false :=
    ⟨x2.below (bel_alloc _ _), sk_new w2 _ _ B M h1 h2, ⟨Nat.le_refl _, by omega⟩, (fun k e1 e2 => by
      rcases e1 with e1 | e1
      · rcases e2 with e2 | e2
        · omega
        · cases e2
      · cases e1), b12.trans ((bel_alloc _ _).mono (by omega)), by simp; omega⟩
  have T3 : Hid (TT w B (w2.alloc (.cells #[.int .i64 (M : Int), .slice none 0 0, .bool false] 39)) B w2.heap.size M) := hidden ⟨_, _, _, _, t3⟩
  clear t3 x1 x2 b1 b2 b12 hz2 hNew HG
  go_upto_block 0 with fail
  generalize w2.alloc (.cells #[.int .i64 (M : Int), .slice none 0 0, .bool false] 39) = w3 at *
  generalize w2.heap.size = rb at *
  go_cut [8, 9, 10, 11, 12, 13] from 45 to 139 (fun _ _ _ _ _ _ wc => TT w B wc B rb M)
  case first =>
    go_wp2
    go_loopw [8, 9, 10, 11, 12, 13] (fun i _ _ _ _ _ wr => ∃ (k : Nat), k ≤ l.length ∧ k ≤ 2000 ∧ i = .int .i64 (k : Int) ∧ TT w B wr B rb M) (fun i _ _ _ _ _ _ => 2000 - (intOf i).toNat)
    case atStart => exact ⟨0, Nat.zero_le _, Nat.zero_le _, rfl, T3.out⟩
    case round =>
      clear T3
      obtain ⟨w4, hw4⟩ : ∃ x, x = wr := ⟨_, rfl⟩
      subst hw4
      obtain ⟨k, hk, hk5, rfl, tt⟩ := hrel
      by_cases hlt : (k : Int) < (l.length : Int)
      · by_cases hlt5 : (k : Int) < 2000
        · have hkl : k < l.length := by omega
          obtain ⟨v0, u0, xs, ov, t⟩ := tt
          obtain ⟨b, off, rfl, hx1, hx2⟩ := (HV.out w4 t.bel).cell k (by simpa using hkl)
          clear hx1 hx2
          have HC : Hid (∀ W : World, Below B w W → W.cell? ⟨b, off + k, none⟩ = some (Value.int .i64 l[k])) := by
            intro W hW
            obtain ⟨b', off', hao', _, hc'⟩ := (HV.out W hW).cell k (by simpa using hkl)
            simp only [Option.some.injEq, Addr.mk.injEq, and_true] at hao'
            obtain ⟨rfl, rfl⟩ := hao'
            simpa using hc'
          have c0 := HC.out w4 t.bel
          generalize l[k] = x at *
          have hP := fun W => pick_any x 12 (by omega) (by omega) W
          have hp := pickN_lt x 12 (by omega)
          generalize pickN x 12 = p at *
          have Tt : Hid _ := hidden t
          clear t
          go_wp2_with fail
          refine (hP _).mono ?_
          rintro e _ ⟨rfl, rfl⟩
          go_upto_block 2 with fail
          go_cut [9, 10, 11, 12, 13] from 60 to 118 (fun t9 _ _ _ _ wc => t9 = .bool true ∧ TT w B wc B rb M)
          case first =>
            by_cases hp4 : p < 4
            · have hPo := popI_any Tt.out.s
              have hRo := fun W v' (y : TW w B W B rb v' u0 M xs.dropLast ov xs ov) => rpop_any y.r
              generalize popV xs = pv at *
              generalize popB xs = pb at *
              generalize xs.dropLast = ds at *
              clear c0 HC hP
              have hp0 : p = 0 ∨ p = 1 ∨ p = 2 ∨ p = 3 := by omega
              clear hp hp4
              rcases hp0 with rfl | rfl | rfl | rfl
              all_goals
                go_wp2_with fail
                refine hPo.mono ?_
                rintro e w5 ⟨rfl, v5, g5⟩
                have t5 := Tt.out.sgo g5
                go_wp2_with fail
                refine (hRo _ _ t5).mono ?_
                rintro e w6 ⟨rfl, u6, g6⟩
                have T6 : Hid (TT w B w6 B rb M) := hidden ⟨_, _, _, _, t5.rgo g6⟩
                clear hPo hRo g5 g6 t5 Tt
                cases pb
                all_goals
                  go_wp2
                  go_meet
                  exact ⟨rfl, T6.out⟩
            · by_cases hp5 : p = 4
              · subst hp5
                have hRe := restI_any Tt.out.s
                clear c0 HC hP hp hp4
                go_wp2_with fail
                refine hRe.mono ?_
                rintro e w5 ⟨rfl, g5⟩
                have t5 := Tt.out.sgo g5
                have d2 := t5.r.c2
                have f2 := t5.r.box.frozen 2
                have T6 : Hid (TT w B (w5.setCell ⟨rb, 2, none⟩ (.bool false)) B rb M) := hidden ⟨_, _, _, _, t5.rgo (t5.r.over false (Below.refl _ _))⟩
                clear hRe g5 t5 Tt
                go_wp2
                go_meet
                exact ⟨rfl, T6.out⟩
              · by_cases hp6 : p = 5
                · subst hp6
                  clear hp hp4 hp5 hP
                  by_cases hx : x.tmod 24 = 5
                  · have hCl := clearI_any Tt.out.s
                    clear HC
                    go_wp2_with fail
                    refine hCl.mono ?_
                    rintro e w5 ⟨rfl, g5⟩
                    have t5 := Tt.out.sgo g5
                    have d1 := t5.r.c1
                    have d2 := t5.r.c2
                    have f1 := t5.r.box.frozen 1
                    have f2 := t5.r.box.frozen 2
                    have T6 : Hid (TT w B ((w5.setCell ⟨rb, 1, none⟩ (.slice none 0 0)).setCell ⟨rb, 2, none⟩ (.bool false)) B rb M) := hidden ⟨_, _, _, _, t5.rgo (xs' := []) t5.r.clear⟩
                    clear hCl g5 t5 Tt c0
                    go_wp2
                    go_meet
                    exact ⟨rfl, T6.out⟩
                  · have T6 : Hid (TT w B w4 B rb M) := hidden ⟨_, _, _, _, Tt.out⟩
                    clear HC Tt
                    go_wp2
                    go_meet
                    exact ⟨rfl, T6.out⟩
                · have e0 : ((p : Int) == 0) = false := by rw [beq_eq_false_iff_ne]; omega
                  have e1 : ((p : Int) == 1) = false := by rw [beq_eq_false_iff_ne]; omega
                  have e2 : ((p : Int) == 2) = false := by rw [beq_eq_false_iff_ne]; omega
                  have e3 : ((p : Int) == 3) = false := by rw [beq_eq_false_iff_ne]; omega
                  have e4 : ((p : Int) == 4) = false := by rw [beq_eq_false_iff_ne]; omega
                  have e5 : ((p : Int) == 5) = false := by rw [beq_eq_false_iff_ne]; omega
                  clear hp hp4 hp5 hp6 hP
                  have td := Tt.out.read (w' := w4.drew) ((Below.refl _ _).drew)
                  have hPu := pushI_any td.s x td.le
                  have hRu := fun W v' (y : TW w B W B rb v' u0 M (pushL M xs x) (pushO M xs ov) xs ov) => rpush_any y.r x y.le
                  have Td : Hid _ := hidden td
                  have q0 : w4.drew.cell? ⟨b, off + k, none⟩ = some (.int .i64 x) := c0
                  clear td Tt
                  go_upto_region 14 with fail
                  clear c0 e0 e1 e2 e3 e4 e5
                  generalize pushL M xs x = xs' at *
                  generalize pushO M xs ov = ov' at *
                  generalize pushB M xs = pb at *
                  cases pb
                  all_goals
                    go_region_held (fun W => W.cell? ⟨b, off + k, none⟩ = some (.int .i64 x)) (assumption) (first
                      | (go_at_call 21; refine hPu.mono ?_; rintro e w5 ⟨rfl, v5, g5⟩; have t5 := Td.out.sgo g5; have q5 := HC.out w5 t5.bel)
                      | (go_at_call 22; refine (hRu _ _ t5).mono ?_; rintro e w6 ⟨rfl, u6, g6⟩; have t6 := t5.rgo g6; have q6 := HC.out w6 t6.bel))
                    all_goals
                      have T6 : Hid (TT w B w6 B rb M) := hidden ⟨_, _, _, _, t6⟩
                      clear t5 t6 q5 q6 g5 g6 hPu hRu Td q0
                      go_wp2
                      go_meet
                      exact ⟨rfl, T6.out⟩
          case rest =>
            obtain ⟨rfl, v1, u1, ys, oy, t1⟩ := hcut
            clear Tt c0 HC hP hp
            obtain ⟨w5, hw5⟩ : ∃ x, x = wc := ⟨_, rfl⟩
            subst hw5
            have hL : ∀ m, Calls Try.prog 23 #[.pointer (some ⟨B, 0, none⟩)] (w5.drewN m) fun e w' => e = .returned (.int .i64 (ys.length : Int)) ∧ w' = w5.drewN m := fun m => (lenI_any (t1.s.below (below_drewN0 w5 m))).mono (fun _ _ ⟨a, b⟩ => ⟨a, b.symm⟩)
            have hO : ∀ m, Calls Try.prog 24 #[.pointer (some ⟨B, 0, none⟩)] (w5.drewN m) fun e w' => e = .returned (.bool oy) ∧ w' = w5.drewN m := fun m => (overI_any (t1.s.below (below_drewN0 w5 m))).mono (fun _ _ ⟨a, b⟩ => ⟨a, b.symm⟩)
            have d1 := t1.r.c1
            have d2 := t1.r.c2
            obtain ⟨ru, rc, hru, _⟩ := t1.r.slice
            rw [List.length_map] at hru
            rw [hru] at d1
            have hfew := t1.s.few
            have T1 : Hid _ := hidden t1
            clear t1 hru
            rw [List.length_map] at hfew
            generalize ys.length = n at *
            go_upto_region 30 with fail
            go_cut [139] from 119 to 139 (fun t wc => t = .bool false ∧ Below w5.heap.size w5 wc)
            case first =>
              cases oy with
              | false =>
                go_quiet (first | (go_at_call 23; exact Calls.quiet_of_same (hL _)) | (go_at_call 24; exact Calls.quiet_of_same (hO _)))
                go_wp2
                go_meet
                exact ⟨rfl, below_drewN0 _ _⟩
              | true =>
                go_quiet (first | (go_at_call 23; exact Calls.quiet_of_same (hL _)) | (go_at_call 24; exact Calls.quiet_of_same (hO _)))
                go_wp2
                go_meet
                exact ⟨rfl, below_drewN0 _ _⟩
            case rest =>
              obtain ⟨rfl, hb6⟩ := hcut
              have t6 := T1.out.read hb6
              have T6 : Hid (TT w B wc B rb M) := hidden ⟨_, _, _, _, t6⟩
              clear t6 T1 hb6 d1 d2 hL hO
              go_wp2
              go_roundw
              case rel => exact ⟨k + 1, by omega, by omega, by go_num, T6.out⟩
              case measure => simp [intOf]; omega
        · go_wp2
          go_meet
          exact tt
      · go_wp2
        go_meet
        exact tt
  case rest =>
    obtain ⟨v1, u1, xs, ov, t⟩ := hcut
    obtain ⟨w4, hw4⟩ : ∃ x, x = wc := ⟨_, rfl⟩
    subst hw4
    clear T3 HV hlc
    have hAl := allI_any t.s
    have hlt1 := t.s.lt
    have hlt2 := t.r.lt
    have hle := t.le
    go_wp2_with fail
    refine hAl.mono ?_
    rintro e w5 ⟨rfl, r5, b5⟩
    have t5 := t.read b5
    have hfew : xs.length ≤ 64 := by have := t5.s.few; rw [List.length_map] at this; omega
    clear t b5 hAl
    have HO : Hid (B ≤ w4.heap.size ∧ ¬ sBl B v1 w4.heap.size ∧ ¬ sBl rb u1 w4.heap.size) := hidden ⟨hle, fun e => by have := hlt1 _ e; omega, fun e => by have := hlt2 _ e; omega⟩
    clear hlt1 hlt2 hle
    generalize w4.heap.size = ga at *
    have d1 := t5.r.c1
    have hva := row_vs r5
    rw [List.length_map] at hva
    have hI := ints_any xs _ _ w5 hva (own_vs t5.r.own) hfew
    clear hva
    go_wp2_with fail
    refine hI.mono ?_
    rintro e w6 ⟨rfl, b6⟩
    have t6 := t5.read b6
    have r6 := r5.below b6
    clear t5 r5 b6 d1 hI
    have R6 : Hid (∃ zs : List Value, zs.length = xs.length ∧ Row w6 ga 3 zs) := hidden ⟨_, List.length_map _, r6⟩
    have T6 : Hid _ := hidden t6
    clear t6 r6
    go_upto_block 3 with fail
    go_cut [16] from 148 to 156 (fun _ wc => TW w B wc B rb v1 u1 M xs ov xs ov)
    case first =>
      go_wp2
      go_loopw [16] (fun i wr => ∃ k : Nat, k ≤ xs.length ∧ i = .int .i64 (k : Int) ∧ TW w B wr B rb v1 u1 M xs ov xs ov ∧ ∃ zs : List Value, zs.length = xs.length ∧ Row wr ga 3 zs) (fun i _ => xs.length - (intOf i).toNat)
      case atStart => exact ⟨0, Nat.zero_le _, rfl, T6.out, R6.out⟩
      case round =>
        obtain ⟨k, hk, rfl, t, zs, hzs, r⟩ := hrel
        clear T6 R6
        by_cases hlt : (k : Int) < (xs.length : Int)
        · have c0 := r.cell k (by omega)
          have f0 := r.frozen k
          have rs := r.set k (.int .i64 (-77))
          have ts := t.other (Kept.setCell wr ⟨ga, k, none⟩ (.int .i64 (-77))) (fun i e => by have e' : i = ga := e; rw [e']; exact HO.out.1) (fun i e => by have e' : i = ga := e; rw [e']; exact HO.out.2)
          have TS : Hid (TW w B (wr.setCell ⟨ga, k, none⟩ (.int .i64 (-77))) B rb v1 u1 M xs ov xs ov ∧ ∃ zs : List Value, zs.length = xs.length ∧ Row (wr.setCell ⟨ga, k, none⟩ (.int .i64 (-77))) ga 3 zs) := hidden ⟨ts, _, by rw [List.length_set]; exact hzs, rs⟩
          generalize zs[k] = u0 at *
          clear t r rs ts
          go_wp2
          go_roundw
          case rel => exact ⟨k + 1, by omega, by go_num, TS.out.1, TS.out.2⟩
          case measure => simp [intOf]; omega
        · go_wp2
          go_meet
          exact t
    case rest =>
      obtain ⟨w7, hw7⟩ : ∃ x, x = wc := ⟨_, rfl⟩
      subst hw7
      have t7 := hcut
      clear hcut T6 R6 HO
      have q0 : Below w7.heap.size w7 w7.drew := (Below.refl _ _).drew
      have r1 := t7.r.c1
      have hrl := t7.r.box.lt
      have C2 : ∀ W, Below w7.heap.size w7 W → W.cell? ⟨rb, 1, none⟩ = some u1 := fun W h => (h.cell (p := ⟨rb, 1, none⟩) hrl).trans r1
      have hAl := allI_any (t7.read q0).s
      have T7 : Hid _ := hidden t7
      clear t7 r1 hrl
      go_wp2
      go_region_held (fun W => Below w7.heap.size w7 W) (assumption) (first
        | (go_at_call 25; refine hAl.mono ?_; rintro e wa ⟨rfl, ra, hba⟩; have qa : Below w7.heap.size w7 wa := q0.trans (hba.mono q0.size); have hva := row_vs ra; rw [List.length_map] at hva)
        | (go_at_call 26; refine (ints_any xs _ _ _ hva (own_vs (T7.out.read qa).r.own) hfew).mono ?_; rintro e wb ⟨rfl, hbb⟩; have qb : Below w7.heap.size w7 wb := qa.trans (hbb.mono qa.size)))
      all_goals
        have HB : Hid _ := hidden (T7.out.read qb).bel
        clear T7 qb qa q0 hva ra hba hbb hAl C2
        go_wp2
        go_ret
        exact ⟨rfl, HB.out⟩

theorem greyPlays_any (n : Int) (l : List Int) (v : Value) (w : World) (hv : Vs w v (l.map (Value.int .i64))) :
    Calls Try.prog 4 #[.int .i64 n, v] w fun e w' => e = .returned (.bool true) ∧ Below w.heap.size w w' := by
  by_cases h : n < 1 ∨ 64 < n
  · exact greyPlays_no n h v w
  · obtain ⟨M, rfl⟩ : ∃ M : Nat, n = (M : Int) := ⟨n.toNat, by omega⟩
    exact greyPlays_ok M (by omega) (by omega) l v w hv

end Go.Proofs.Ytjbhlfoaklfpeaa
