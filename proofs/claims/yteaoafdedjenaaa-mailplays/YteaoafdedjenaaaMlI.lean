/- MailPlays. -/
import Derived.Test.YteaoafdedjenaaaMlH
namespace Go.Proofs.Yteaoafdedjenaaa
open Go.RowKit Go.Conc

set_option maxRecDepth 20000 in
set_option maxHeartbeats 1000000 in
theorem mailPlays_no (n : Int) (h : n < 1 ∨ 16 < n) (v : Value) (w : World) :
    Calls Try.prog 4 #[.int .i64 n, v] w fun e w' => e = .returned (.bool true) ∧ Below w.heap.size w w' := by
  go_enter Try.func4, Try.ntmps4
  by_cases h1 : n < 1
  · go_wp2_with (first
      | (go_at_call 7; refine (newI_no n h _).mono ?_; rintro e _ ⟨rfl, rfl⟩)
      | (go_at_call 9; refine (mknown_any _).mono ?_; rintro e w3 ⟨rfl, hb3⟩))
    go_ret
    exact ⟨by simp, hb3⟩
  · have h2 : 16 < n := by omega
    go_wp2_with (first
      | (go_at_call 7; refine (newI_no n h _).mono ?_; rintro e _ ⟨rfl, rfl⟩)
      | (go_at_call 9; refine (mknown_any _).mono ?_; rintro e w3 ⟨rfl, hb3⟩))
    go_ret
    exact ⟨by simp, hb3⟩

theorem cell_new1 (w : World) (T : TypeId) (x : Value) : (w.alloc (.cells #[x] T)).cell? ⟨w.heap.size, 0, none⟩ = some x := by
  rw [cell_of_row (w.alloc (.cells #[x] T)) w.heap.size 0 _ _ _ (heap_alloc_new w _)]
  rfl

set_option maxRecDepth 20000 in
set_option maxHeartbeats 2000000 in
theorem mailPlays_ok (M : Nat) (hM1 : 1 ≤ M) (hM2 : M ≤ 16) (xs : List Int) (v : Value) (w : World) (hv : Vs w v (xs.map (Value.int .i64))) :
    Calls Try.prog 4 #[.int .i64 (M : Int), v] w fun e w' => e = .returned (.bool true) ∧ Below w.heap.size w w' := by
  obtain ⟨i0, hi, hz0, hz1, hz2⟩ := info_parts Try.infoI
  obtain ⟨ao, cap, hve, hcap, _⟩ := id hv
  rw [List.length_map] at hve
  subst hve
  have hMi : ¬ ((M : Int) < 1) := by omega
  have hMj : ¬ (16 < (M : Int)) := by omega
  go_enter Try.func4, Try.ntmps4
  go_upto_block 0 with (first
    | (go_at_call 7; refine (newI_ok M hM1 hM2 _).mono ?_; rintro e w1 ⟨rfl, h1, hb1, hs1⟩; generalize hG : w.heap.size = g at *)
    | (go_at_call 9; refine (mknown_any _).mono ?_; rintro e w3 ⟨rfl, hb3⟩; have ht3 : PI w w3 g M [] (.slice none 0 0) := ⟨h1.kept (kept_of_below hb3 (fun _ => False)) id id, Nat.zero_le _, ⟨none, Win.nil _ _, fun b h => by cases h⟩, hb1.trans (hb3.mono (by omega))⟩; clear h1 hb1 hb3))
  go_cut [7, 8, 9, 10] from 36 to 118 (fun iv _ _ _ wc => ∃ q : List Int, PI w wc g M q iv)
  case first =>
    go_wp2
    go_loopw [7, 8] (fun iv i wr => ∃ (k : Nat) (q : List Int), k ≤ xs.length ∧ i = .int .i64 (k : Int) ∧ PI w wr g M q iv) (fun _ i _ => xs.length - (intOf i).toNat)
    case atStart => exact ⟨0, [], Nat.zero_le _, rfl, ht3⟩
    case round =>
      obtain ⟨k, q, hk, rfl, ht⟩ := hrel
      clear ht3
      by_cases hlt : k < xs.length ∧ k < 3000
      · obtain ⟨hlt, h3000⟩ := hlt
        have hk0 : (k : Int) < (xs.length : Int) := by omega
        have hk5 : (k : Int) < 3000 := by omega
        obtain ⟨b, off, hao, hblr, hc⟩ := (hv.below (by rw [hG]; exact ht.bel)).cell k (by simpa using hlt)
        have hbl : b < g := by
          obtain ⟨b', off', hao', hbl', _⟩ := hv.cell k (by simpa using hlt)
          rw [hao] at hao'
          cases hao'
          omega
        subst hao
        simp only [List.getElem_map] at hc
        obtain ⟨io, ic, hie⟩ := ht.slice
        subst hie
        generalize xs[k] = x at *
        go_upto_if 51 with (go_at_call 14; refine (pick_any x 3 (by omega) (by omega) _).mono ?_; rintro e _ ⟨rfl, rfl⟩)
        go_cut [7, 9, 10] from 36 to 118 (fun iv _ _ wc => ∃ q : List Int, PI w wc g M q iv)
        case first =>
          by_cases hp : 0 < pickN x 3
          · have hp0 : (0 : Int) < (pickN x 3 : Int) := by omega
            by_cases hq : q.length < M
            · have hqi : (q.length : Int) < (M : Int) := by omega
              go_wp2_with (first
                | (go_at_call 15; refine (putI_room (g + 1) g M _ x _ ht.b (by simpa using hq)).mono ?_; rintro e w4 ⟨rfl, ha4, hk4, hs4⟩; clear hs4; have hc4 : w4.cell? ⟨b, off + k, none⟩ = some (.int .i64 x) := (World.cell?_of_block (a := ⟨b, off + k, none⟩) (hk4.block b hblr (by show ¬ (b = g); omega))).trans hc; obtain ⟨⟨go, hwin, hgo⟩, hbel⟩ := ht.turn hk4)
                | (at_builtin; refine wpList_append_win rfl (.tmp 67) (.tmp 72) 36 rfl (hwin.kept (Kept.alloc w4 _ (fun _ => False)) (fun _ _ => id)) i0 _ Try.underlying36 hi hz0 hz1 rfl 8 hz2 (.int .i64 x) ⟨w4.heap.size, 0, none⟩ 1 rfl rfl (cell_new1 w4 _ _) rfl (by simp; omega) (by simp; omega) ?_; intro g5 v5 w5 hw5 hk5 hg5))
              go_meet
              have hk5' : Kept (w4.alloc (.cells #[.int .i64 x] 3)) w5 (fun i => g + 1 < i) := hk5.mono (fun i _ e => hgo i e)
              have hl4 := ha4.lt
              have hk6 : Kept w4 w5 (fun i => g + 1 < i) := (Kept.alloc w4 _ _).trans hk5' (fun i _ h => h)
              refine ⟨q ++ [x], by simpa using ha4.kept hk6 (by show ¬ (g + 1 < g + 1); omega) (by show ¬ (g + 1 < g); omega), by simp; omega, ⟨some g5, by simpa using hw5, fun i hi => ?_⟩, hbel.trans (hk6.below (Nat.le_of_lt hl4.2) (fun i hi => by show ¬ (g + 1 < i); omega))⟩
              cases hi
              rcases hg5 with h | h
              · exact hgo g5 h
              · rw [h, World.size_alloc]; omega
            · have hqi : ¬ ((q.length : Int) < (M : Int)) := by omega
              go_wp2_with (first
                | (go_at_call 15; refine (putI_full (g + 1) g M _ x _ ht.b (by simp; omega)).mono ?_; rintro e w4 ⟨rfl, ha4, hk4, hs4⟩; clear hs4; obtain ⟨hwin, hbel⟩ := ht.turn hk4))
              go_meet
              exact ⟨q, ha4, ht.le, hwin, hbel⟩
          · have hp0 : ¬ ((0 : Int) < (pickN x 3 : Int)) := by omega
            cases q with
            | nil =>
              go_wp2_with (first
                | (go_at_call 16; refine (takeI_none (g + 1) g M _ ht.b).mono ?_; rintro e _ ⟨rfl, rfl⟩))
              go_meet
              exact ⟨[], ht⟩
            | cons y q =>
              obtain ⟨go, hwin0, hgo⟩ := ht.win
              simp only [List.length_cons] at *
              rw [List.map_cons] at hwin0
              obtain ⟨b1, o1, hio, hn1, hc1, hcy, hwt⟩ := hwin0.tail
              subst hio
              obtain ⟨hgo1, hblt, _⟩ := hwin0.blk
              have hb1 : g + 1 < b1 ∧ b1 < wr.heap.size := ⟨hgo b1 hgo1, hblt⟩
              have hq := ht.b
              rw [List.map_cons] at hq
              have hic : (1 : Int) ≤ (ic : Int) := by omega
              have hql : (0 : Int) < (q.length : Int) + 1 := by omega
              have hbel4 : ∀ w4, Kept wr w4 (fun i => i = g) → Below g w w4 := fun w4 hk4 => (ht.turn hk4).2
              have hkw : ∀ w4 v, Kept wr w4 (fun i => i = g) → Win wr go v 3 (q.map (Value.int .i64)) → Win w4 go v 3 (q.map (Value.int .i64)) := fun w4 v hk4 h => h.kept hk4 (fun i hi => by rw [hgo1] at hi; cases hi; show ¬ (b1 = g); omega)
              have hle : q.length ≤ M := by have := ht.le; simp at this; omega
              have HLn : Hid ((q.map (Value.int .i64)).length = q.length) := List.length_map ..
              by_cases hic1 : ic = 1
              · subst hic1
                obtain ⟨hq0, hwl⟩ := hwin0.last
                have hq00 : q = [] := by simpa using hq0
                subst hq00
                go_wp2_with (go_at_call 16; refine (takeI_some (g + 1) g M y _ _ hq).mono ?_; rintro e w4 ⟨rfl, ha4, hk4, hs4⟩; clear hs4; have hcy4 : w4.cell? ⟨b1, o1, none⟩ = some (.int .i64 y) := (World.cell?_of_block (a := ⟨b1, o1, none⟩) (hk4.block b1 hb1.2 (by show ¬ (b1 = g); omega))).trans hcy)
                go_meet
                exact ⟨[], ha4, hle, ⟨go, hkw _ _ hk4 hwl, hgo⟩, hbel4 _ hk4⟩
              · go_wp2_with (go_at_call 16; refine (takeI_some (g + 1) g M y _ _ hq).mono ?_; rintro e w4 ⟨rfl, ha4, hk4, hs4⟩; clear hs4; have hcy4 : w4.cell? ⟨b1, o1, none⟩ = some (.int .i64 y) := (World.cell?_of_block (a := ⟨b1, o1, none⟩) (hk4.block b1 hb1.2 (by show ¬ (b1 = g); omega))).trans hcy)
                go_meet
                rw [HLn.out] at hwt
                exact ⟨q, ha4, hle, ⟨go, hkw _ _ hk4 hwt, hgo⟩, hbel4 _ hk4⟩
        case rest =>
          obtain ⟨q', ht'⟩ := hcut
          obtain ⟨wy, hwy⟩ : ∃ x, x = wc := ⟨_, rfl⟩
          subst hwy
          clear ht
          obtain ⟨io', ic', hie'⟩ := ht'.slice
          subst hie'
          have hsub : IntKind.i64.wrap ((M : Int) - (q'.length : Int)) = (M : Int) - (q'.length : Int) := by have := ht'.le; rw [IntKind.wrap_i64]; omega
          have HLn : Hid ((q'.map (Value.int .i64)).length = q'.length) := List.length_map ..
          go_wp2_with (first
            | (go_at_call 17; refine (lenI_any (g + 1) g M _ _ ht'.b).mono ?_; rintro e _ ⟨rfl, rfl⟩; rw [HLn.out])
            | (go_at_call 18; refine (roomI_any (g + 1) g M _ _ ht'.b (by rw [HLn.out]; exact ht'.le) hM2).mono ?_; rintro e _ ⟨rfl, nd, rfl⟩; rw [HLn.out]))
          go_roundw
          case rel => exact ⟨k + 1, q', by omega, by go_num, ht'.below (below_drewN0 _ _)⟩
          case measure => simp [intOf]; omega
      · by_cases hk1 : (k : Int) < (xs.length : Int)
        · have hk2 : ¬ ((k : Int) < 3000) := by omega
          go_wp2
          go_meet
          exact ⟨q, ht⟩
        · go_wp2
          go_meet
          exact ⟨q, ht⟩
  case rest =>
    obtain ⟨q, ht⟩ := hcut
    obtain ⟨wy, hwy⟩ : ∃ x, x = wc := ⟨_, rfl⟩
    subst hwy
    clear ht3
    obtain ⟨io, ic, hie⟩ := ht.slice
    subst hie
    have hql : q.length ≤ 140737488355328 := by have := ht.le; omega
    have t1 : True := trivial
    have t2 : True := trivial
    go_wp2_with (first
      | (go_at_call 20; clear t1; refine (allI_any (g + 1) g M q _ ht.b ht.le hM2).mono ?_; rintro e w5 ⟨rfl, hr5, h5, hk5, hs5⟩; clear hs5; obtain ⟨hwin5, hbel5⟩ := ht.turn hk5; have ht5 : PI w w5 g M q (.slice io q.length ic) := ⟨h5, ht.le, hwin5, hbel5⟩; have hva := Vs.ofRow hr5; rw [List.length_map] at hva; clear ht)
      | (go_at_call 19; clear t2; obtain ⟨go, hw, _⟩ := ht5.win; refine (ints_any q _ _ _ hva hw.vs hql).mono ?_; rintro e w6 ⟨rfl, hb6, hs6⟩; clear hs6; have ht6 := ht5.below hb6; clear ht5 hva hr5 hw)
      | (go_at_call 20; refine (allI_any (g + 1) g M q _ ht6.b ht6.le hM2).mono ?_; rintro e w7 ⟨rfl, hr7, h7, hk7, hs7⟩; clear hs7; obtain ⟨hwin7, hbel7⟩ := ht6.turn hk7; have ht7 : PI w w7 g M q (.slice io q.length ic) := ⟨h7, ht6.le, hwin7, hbel7⟩; have hvb := Vs.ofRow hr7; rw [List.length_map] at hvb; clear ht6)
      | (go_at_call 19; obtain ⟨go, hw, _⟩ := ht7.win; refine (ints_any q _ _ _ hvb hw.vs hql).mono ?_; rintro e w8 ⟨rfl, hb8, hs8⟩; clear hs8; have ht8 := ht7.below hb8))
    go_ret
    exact ⟨by simp, by rw [hG]; exact ht8.bel⟩

theorem mailPlays_any (n : Int) (xs : List Int) (v : Value) (w : World) (hv : Vs w v (xs.map (Value.int .i64))) :
    Calls Try.prog 4 #[.int .i64 n, v] w fun e w' => e = .returned (.bool true) ∧ Below w.heap.size w w' := by
  by_cases h : n < 1 ∨ 16 < n
  · exact mailPlays_no n h v w
  · obtain ⟨M, rfl⟩ : ∃ M : Nat, n = (M : Int) := ⟨n.toNat, by omega⟩
    exact mailPlays_ok M (by omega) (by omega) xs v w hv

end Go.Proofs.Yteaoafdedjenaaa
