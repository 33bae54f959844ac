/- ArenaPlays, walked. -/
import Derived.Test.YtolgncehfblpbaaDoorArX
import Derived.Deep.CutRange
import Derived.Deep.CutBlock
import Derived.Deep.RegionHeld
namespace Go.Proofs.YtolgncehfblpbaaDoor
open Go.RowKit

set_option maxRecDepth 20000 in
set_option maxHeartbeats 4000000 in
theorem arenaPlays_ok (N : Nat) (hN1 : 1 ≤ N) (hN2 : N ≤ 256) (xs : List StepA) (v : Value) (w : World) (hT : TB w) (hv : WS w v 3 cStepA xs) (hR : ∀ x ∈ xs, x.n ≤ 9223372036854775807) :
    Calls Tryd.prog 5 #[.int .i64 ((16 * N : Nat) : Int), v] w fun e w' => e = .returned (.bool true) ∧ Below w.heap.size w w' := by
  obtain ⟨ao, cap, rfl, _, _⟩ := hv.slice
  obtain ⟨L, hL⟩ : ∃ L, L = 16 * N := ⟨_, rfl⟩
  have hNew := fun w (h : TB w) => new_ok N hN1 hN2 w h
  have hRNew := fun w => rnew_any N hN1 hN2 w
  rw [← hL] at hNew hRNew ⊢
  have h16 : (16 : Int) ≤ (L : Int) := by omega
  have h4096 : (L : Int) ≤ 4096 := by omega
  have hmod : (L : Int) % 16 = 0 := by omega
  clear hL
  go_enter Tryd.func5, Tryd.ntmps5
  go_wp2_with fail
  refine (hNew _ hT).mono ?_
  rintro e w1 ⟨rfl, h1, hb1⟩
  generalize hG : w.heap.size = g at *
  have hs1 : AS w w1 g N (List.replicate N bk0) := AS.new h1 hb1
  clear h1 hb1 hNew
  go_wp2_with fail
  refine (known_any _ hs1.ar.tb).mono ?_
  rintro e w2 ⟨rfl, hb2⟩
  have hs2 := hs1.read hb2
  clear hb2 hs1
  go_upto_block 0 with (go_at_call 19; refine (hRNew _).mono ?_; rintro e w3 ⟨rb, rc, rt, rfl, hr3, hb3, hl1, hl2, hl3⟩)
  obtain ⟨hr3a, hr3b, hr3c⟩ := hr3.lt
  have hg2 := hs2.ar.lt
  obtain ⟨o, ho⟩ : ∃ o, o = w3.heap.size := ⟨_, rfl⟩
  have hp3 : PS w w3 g N (List.replicate N bk0) (List.replicate N bk0) rb rc rt o (.slice none 0 0) [] := ⟨hs2.read hb3, hr3, ⟨by omega, by omega, by omega⟩, ⟨by omega, by omega, by omega⟩, Ow.nil _ _, by simp⟩
  have hO3 : o ≤ w3.heap.size := by omega
  clear ho hr3a hr3b hr3c hg2 hr3 hs2 hb3 hl1 hl2 hl3 hRNew hT
  go_cut [8, 9, 10, 11, 12, 13, 14] from 50 to 163 (fun va _ _ _ _ _ _ wc => ∃ (bs : List Bk) (tl : List Nat), PS w wc g N bs bs rb rc rt o va tl)
  case first =>
    go_wp2
    go_loopw [8, 9] (fun va i wr => ∃ (k : Nat) (bs : List Bk) (tl : List Nat), i = .int .i64 (k : Int) ∧ k ≤ 400 ∧ tl.length ≤ k ∧ o ≤ wr.heap.size ∧ PS w wr g N bs bs rb rc rt o va tl) (fun _ i _ => 400 - (intOf i).toNat)
    case atStart => exact ⟨0, _, [], rfl, by omega, by simp, hO3, hp3⟩
    case round =>
      clear hp3 hO3
      obtain ⟨k, bs, tl, rfl, hk, htl, hO4, hp⟩ := hrel
      by_cases hlt : k < xs.length ∧ k < 400
      · obtain ⟨hlt, h400⟩ := hlt
        have hk0 : (k : Int) < (xs.length : Int) := by omega
        have hk5 : (k : Int) < 400 := by omega
        obtain ⟨b, off, hao, hbl, hc0, hc1, hc2⟩ := (hv.below (by rw [hG]; exact hp.s.bel)).stepA k hlt
        have HCC : Hid (∀ W va bs bs2 tl, PS w W g N bs bs2 rb rc rt o va tl → W.cell? ⟨b, off + k * 3 + 2, none⟩ = some (.bool xs[k].near)) := fun W va bs bs2 tl h => by
          obtain ⟨b', off', hao', _, _, _, hc⟩ := (hv.below (by rw [hG]; exact h.s.bel)).stepA k hlt
          rw [hao] at hao'
          cases hao'
          exact hc
        subst hao
        have hxn := hR _ (List.getElem_mem hlt)
        generalize xs[k] = x at *
        obtain ⟨wh, n, near⟩ := x
        simp only at hc0 hc1 hc2 hxn HCC
        have hp5 := pickN_lt wh 5 (by omega)
        go_upto_if 71 with (go_at_call 20; refine (pick_any wh 5 (by omega) (by omega) _).mono ?_; rintro e _ ⟨rfl, rfl⟩)
        go_cut [8, 10, 11, 12, 13, 14] from 50 to 163 (fun va nv _ _ _ _ wc => ∃ (n : Int) (bs : List Bk) (tl : List Nat), nv = .int .i64 n ∧ tl.length ≤ k + 1 ∧ o ≤ wc.heap.size ∧ PS w wc g N bs bs rb rc rt o va tl)
        case first =>
          generalize pickN wh 5 = P at *
          by_cases hP : P < 3
          · have hPi : (P : Int) < 3 := by omega
            have hgo : ∀ (s : Int), Hid (∀ W va, PS w W g N bs bs rb rc rt o va tl → (Calls Tryd.prog 11 #[.pointer (some ⟨g, 0, none⟩), .int .i64 s] W fun e w' => e = .returned (.tuple #[.int .i64 ((allocR bs s).1 : Int), .int .i64 ((allocR bs s).2 : Int)]) ∧ PS w w' g N (allocL bs s) bs rb rc rt o va tl ∧ W.heap.size ≤ w'.heap.size) ∧
                (∀ W', PS w W' g N (allocL bs s) bs rb rc rt o va tl → Calls Tryd.prog 21 #[.pointer (some ⟨rb, 0, none⟩), .int .i64 s] W' fun e w' => e = .returned (.tuple #[.int .i64 ((allocR bs s).1 : Int), .int .i64 ((allocR bs s).2 : Int)]) ∧ PS w w' g N (allocL bs s) (allocL bs s) rb rc rt o va tl ∧ W'.heap.size ≤ w'.heap.size)) := fun s W va h =>
              ⟨(h.s.alloc s).mono (fun _ _ ⟨h1, h2, h3⟩ => ⟨h1, h.arena h2 h3, h3.size⟩), fun W' h' => (ralloc_any rb rc rt bs s h.s.ok W' h'.r).mono (fun _ _ ⟨h1, h2, h3⟩ => ⟨h1, h'.ref h2 h3, h3.size⟩)⟩
            have hle : ∀ s : Int, (allocR bs s).1 ≤ 10000 := fun s => allocR_le hp.s.ok (by rw [hp.s.len]; exact hN2) s
            cases near
            · have hG1 := hgo n
              have hcl := hle n
              clear hgo hle
              generalize (allocR bs n).1 = c at *
              generalize (allocR bs n).2 = er at *
              generalize allocL bs n = bs' at *
              go_wp2_with (first
                | (go_at_call 11; refine ((hG1.out _ _ hp).1).mono ?_; rintro e w4 ⟨rfl, hp4, hz4⟩)
                | (go_at_call 21; refine ((hG1.out _ _ hp).2 _ hp4).mono ?_; rintro e w5 ⟨rfl, hp5, hz5⟩)
                | (at_builtin; refine wpList_ow rfl (.tmp 100) (.tmp 102) rfl o _ tl rfl (hp5.t.below ((Below.refl _ _).alloc (Nat.le_refl _) _)) _ [c] rfl (sr_one w5 c _) (by simp; omega) (by simp; omega) ?_; intro v6 w6 ho6 hk6 _; have hp6 := (hp5.read ((Below.refl _ _).alloc (Nat.le_refl _) _)).push c hcl ho6 hk6; have hz6 : o ≤ w6.heap.size := by { have := hk6.size; simp at this; omega }))
              go_meet
              exact ⟨n, bs', tl ++ [c], rfl, by simp; omega, hz6, hp6⟩
            · have hpk := pickN_lt n 16 (by omega)
              obtain ⟨s, hs⟩ : ∃ s, s = 1 + pickN n 16 := ⟨_, rfl⟩
              have hsi : (1 : Int) + (pickN n 16 : Int) = (s : Int) := by omega
              have hs16 : s ≤ 16 := by omega
              clear hs
              have hG1 := hgo (s : Int)
              have hcl := hle (s : Int)
              clear hgo hle
              generalize (allocR bs (s : Int)).1 = c at *
              generalize (allocR bs (s : Int)).2 = er at *
              generalize allocL bs (s : Int) = bs' at *
              go_wp2_with (first
                | (go_at_call 20; refine (pick_any n 16 (by omega) (by omega) _).mono ?_; rintro e _ ⟨rfl, rfl⟩)
                | (go_at_call 11; refine ((hG1.out _ _ hp).1).mono ?_; rintro e w4 ⟨rfl, hp4, hz4⟩)
                | (go_at_call 21; refine ((hG1.out _ _ hp).2 _ hp4).mono ?_; rintro e w5 ⟨rfl, hp5, hz5⟩)
                | (at_builtin; refine wpList_ow rfl (.tmp 100) (.tmp 102) rfl o _ tl rfl (hp5.t.below ((Below.refl _ _).alloc (Nat.le_refl _) _)) _ [c] rfl (sr_one w5 c _) (by simp; omega) (by simp; omega) ?_; intro v6 w6 ho6 hk6 _; have hp6 := (hp5.read ((Below.refl _ _).alloc (Nat.le_refl _) _)).push c hcl ho6 hk6; have hz6 : o ≤ w6.heap.size := by { have := hk6.size; simp at this; omega }))
              go_meet
              exact ⟨(s : Int), bs', tl ++ [c], rfl, by simp; omega, hz6, hp6⟩
          · have hPi : ¬ (P : Int) < 3 := by omega
            have hgo : ∀ (i : Int), i ≤ 9223372036854775807 → Hid (∀ va, (∀ W, PS w W g N bs bs rb rc rt o va tl → (Calls Tryd.prog 17 #[.pointer (some ⟨g, 0, none⟩), .int .i64 i] W fun e w' => e = .returned (.int .i64 ((atB bs i : Nat) : Int)) ∧ PS w w' g N bs bs rb rc rt o va tl ∧ W.heap.size ≤ w'.heap.size)) ∧
                (∀ W, PS w W g N bs bs rb rc rt o va tl → (Calls Tryd.prog 22 #[.pointer (some ⟨rb, 0, none⟩), .int .i64 i] W fun e w' => e = .returned (.int .i64 ((atB bs i : Nat) : Int)) ∧ PS w w' g N bs bs rb rc rt o va tl ∧ W.heap.size ≤ w'.heap.size)) ∧
                (∀ W, PS w W g N bs bs rb rc rt o va tl → (Calls Tryd.prog 16 #[.pointer (some ⟨g, 0, none⟩), .int .i64 i] W fun e w' => e = .returned (.int .i64 ((freeR bs i : Nat) : Int)) ∧ PS w w' g N (freeL bs i) bs rb rc rt o va tl ∧ W.heap.size ≤ w'.heap.size)) ∧
                (∀ W, PS w W g N (freeL bs i) bs rb rc rt o va tl → (Calls Tryd.prog 23 #[.pointer (some ⟨rb, 0, none⟩), .int .i64 i] W fun e w' => e = .returned (.int .i64 ((freeR bs i : Nat) : Int)) ∧ PS w w' g N (freeL bs i) (freeL bs i) rb rc rt o va tl ∧ W.heap.size ≤ w'.heap.size))) := fun i hi va =>
              ⟨fun W h => (h.s.at i).mono (fun _ _ ⟨h1, _, h3⟩ => ⟨h1, h.read h3, h3.size⟩),
               fun W h => (rat_any rb rc rt bs i hi W h.r).mono (fun _ _ ⟨h1, h3⟩ => ⟨h1, h.read h3, h3.size⟩),
               fun W h => (h.s.free i).mono (fun _ _ ⟨h1, h2, h3⟩ => ⟨h1, h.arena h2 h3, h3.size⟩),
               fun W h => (rfree_any rb rc rt bs i hi hp.s.ok W h.r).mono (fun _ _ ⟨h1, h2, h3⟩ => ⟨h1, h.ref h2 h3, h3.size⟩)⟩
            by_cases hnt : near = true ∧ 0 < tl.length
            · obtain ⟨rfl, hpos⟩ := hnt
              obtain ⟨ga, ac, hve, hga, hgl, hac, hcell⟩ := hp.t.at 0 hpos
              subst hve
              have hposi : (0 : Int) < (tl.length : Int) := by omega
              have hqlt := pickN_lt n tl.length hpos
              have hPk := fun w => pick_any n tl.length hpos (by omega) w
              generalize pickN n tl.length = q at *
              have hqi : (q : Int) < (tl.length : Int) := by omega
              have hcq := hcell q hqlt
              have hcs := hp.sm _ (List.getElem_mem hqlt)
              generalize tl[q] = c at *
              have hG1 := hgo (c : Int) (by omega)
              clear hgo hcell
              generalize atB bs (c : Int) = av at *
              generalize freeR bs (c : Int) = fv at *
              generalize freeL bs (c : Int) = bs' at *
              go_wp2_with (first
                | (go_at_call 20; refine (hPk _).mono ?_; clear hPk; rintro e _ ⟨rfl, rfl⟩)
                | (go_at_call 17; refine ((hG1.out _).1 _ hp).mono ?_; rintro e w4 ⟨rfl, hp4, hz4⟩)
                | (go_at_call 22; refine ((hG1.out _).2.1 _ hp4).mono ?_; rintro e w5 ⟨rfl, hp5, hz5⟩)
                | (go_at_call 16; refine ((hG1.out _).2.2.1 _ hp5).mono ?_; rintro e w6 ⟨rfl, hp6, hz6⟩)
                | (go_at_call 23; refine ((hG1.out _).2.2.2 _ hp6).mono ?_; rintro e w7 ⟨rfl, hp7, hz7⟩))
              go_meet
              exact ⟨(c : Int), bs', tl, rfl, by omega, by omega, hp7⟩
            · obtain ⟨aa, ac, hve, _, _, _⟩ := hp.t.slice
              subst hve
              have hG1 := hgo n hxn
              clear hgo
              generalize atB bs n = av at *
              generalize freeR bs n = fv at *
              generalize freeL bs n = bs' at *
              cases near
              · go_wp2_with (first
                  | (go_at_call 17; refine ((hG1.out _).1 _ hp).mono ?_; rintro e w4 ⟨rfl, hp4, hz4⟩)
                  | (go_at_call 22; refine ((hG1.out _).2.1 _ hp4).mono ?_; rintro e w5 ⟨rfl, hp5, hz5⟩)
                  | (go_at_call 16; refine ((hG1.out _).2.2.1 _ hp5).mono ?_; rintro e w6 ⟨rfl, hp6, hz6⟩)
                  | (go_at_call 23; refine ((hG1.out _).2.2.2 _ hp6).mono ?_; rintro e w7 ⟨rfl, hp7, hz7⟩))
                go_meet
                exact ⟨n, bs', tl, rfl, by omega, by omega, hp7⟩
              · have hposi : ¬ (0 : Int) < (tl.length : Int) := fun e => hnt ⟨rfl, by omega⟩
                go_wp2_with (first
                  | (go_at_call 17; refine ((hG1.out _).1 _ hp).mono ?_; rintro e w4 ⟨rfl, hp4, hz4⟩)
                  | (go_at_call 22; refine ((hG1.out _).2.1 _ hp4).mono ?_; rintro e w5 ⟨rfl, hp5, hz5⟩)
                  | (go_at_call 16; refine ((hG1.out _).2.2.1 _ hp5).mono ?_; rintro e w6 ⟨rfl, hp6, hz6⟩)
                  | (go_at_call 23; refine ((hG1.out _).2.2.2 _ hp6).mono ?_; rintro e w7 ⟨rfl, hp7, hz7⟩))
                go_meet
                exact ⟨n, bs', tl, rfl, by omega, by omega, hp7⟩
        case rest =>
          obtain ⟨n1, bs1, tl1, rfl, htl1, hO1, hp1⟩ := hcut
          obtain ⟨wz, hwz⟩ : ∃ x, x = wc := ⟨_, rfl⟩
          subst hwz
          clear hp htl hO4 HCC hc0 hc1 hc2
          obtain ⟨s2, hs2⟩ : ∃ s2 : Int, s2 = 1 + ((k % 16 : Nat) : Int) := ⟨_, rfl⟩
          have hs2i : (1 : Int) + (k : Int) % 16 = s2 := by omega
          have HU : Hid (∀ va, (∀ W, PS w W g N bs1 bs1 rb rc rt o va tl1 → Calls Tryd.prog 15 #[.pointer (some ⟨g, 0, none⟩)] W fun e w' => e = .returned (.int .i64 ((usedB bs1 : Nat) : Int)) ∧ PS w w' g N bs1 bs1 rb rc rt o va tl1 ∧ W.heap.size ≤ w'.heap.size) ∧
              (∀ W, PS w W g N bs1 bs1 rb rc rt o va tl1 → Calls Tryd.prog 24 #[.pointer (some ⟨rb, 0, none⟩)] W fun e w' => e = .returned (.int .i64 ((usedB bs1 : Nat) : Int)) ∧ W = w')) := fun va =>
            ⟨fun W h => h.s.used.mono (fun _ _ ⟨h1, _, h3⟩ => ⟨h1, h.read h3, h3.size⟩), fun W h => rused_any rb rc rt bs1 h.s.ok W h.r⟩
          have HRm : Hid (∀ va (s : Int), (∀ W, PS w W g N bs1 bs1 rb rc rt o va tl1 → Calls Tryd.prog 14 #[.pointer (some ⟨g, 0, none⟩), .int .i64 s] W fun e w' => e = .returned (.int .i64 ((roomB bs1 s : Nat) : Int)) ∧ PS w w' g N bs1 bs1 rb rc rt o va tl1 ∧ W.heap.size ≤ w'.heap.size) ∧
              (∀ W, PS w W g N bs1 bs1 rb rc rt o va tl1 → Calls Tryd.prog 25 #[.pointer (some ⟨rb, 0, none⟩), .int .i64 s] W fun e w' => e = .returned (.int .i64 ((roomB bs1 s : Nat) : Int)) ∧ W = w')) := fun va s =>
            ⟨fun W h => (h.s.room s).mono (fun _ _ ⟨h1, _, h3⟩ => ⟨h1, h.read h3, h3.size⟩), fun W h => rroom_any rb rc rt bs1 s h.s.ok W h.r⟩
          clear hs2
          have t1 : True := trivial
          have t2 : True := trivial
          generalize usedB bs1 = uu at *
          go_wp2_with fail
          refine ((HU.out _).1 _ hp1).mono ?_
          rintro e w4 ⟨rfl, hp4, hz4⟩
          go_wp2_with fail
          refine ((HU.out _).2 _ hp4).mono ?_
          rintro e _ ⟨rfl, rfl⟩
          have hRa := fun va => HRm.out va n1
          generalize roomB bs1 n1 = r1 at hRa
          go_wp2_with fail
          refine ((hRa _).1 _ hp4).mono ?_
          rintro e w5 ⟨rfl, hp5, hz5⟩
          go_wp2_with fail
          refine ((hRa _).2 _ hp5).mono ?_
          rintro e _ ⟨rfl, rfl⟩
          have hRb := fun va => HRm.out va s2
          generalize roomB bs1 s2 = r2 at hRb
          go_wp2_with fail
          refine ((hRb _).1 _ hp5).mono ?_
          rintro e w6 ⟨rfl, hp6, hz6⟩
          go_wp2_with fail
          refine ((hRb _).2 _ hp6).mono ?_
          rintro e _ ⟨rfl, rfl⟩
          go_wp2
          go_roundw
          case rel => exact ⟨k + 1, bs1, tl1, by go_num, by omega, htl1, by omega, hp6⟩
          case measure => simp [intOf]; omega
      · by_cases hk1 : (k : Int) < (xs.length : Int)
        · have hk2 : ¬ ((k : Int) < 400) := by omega
          go_wp2
          go_meet
          exact ⟨bs, tl, hp⟩
        · go_wp2
          go_meet
          exact ⟨bs, tl, hp⟩
  case rest =>
    obtain ⟨bs, tl, hp⟩ := hcut
    obtain ⟨wy, hwy⟩ : ∃ x, x = wc := ⟨_, rfl⟩
    subst hwy
    clear hp3 hO3
    have HN : Hid (bs.length ≤ 256) := by
      have e : bs.length ≤ 256 := by rw [hp.s.len]; exact hN2
      exact e
    go_wp2_with fail
    refine (blocks_any g bs _ hp.s.ar).mono ?_
    rintro e w4 ⟨rfl, hr4, hb4⟩
    have hp4 := hp.read hb4
    have hg1 := hp.s.ar.lt
    obtain ⟨k1, k2, k3⟩ := hp.r.lt
    have c0 := hp4.r.c0
    generalize wy.heap.size = gb at *
    go_wp2_with fail
    refine (ints_same gb rc bs HN.out _ hr4 hp4.r.cls).mono ?_
    rintro e w5 ⟨rfl, hb5⟩
    have hp5 := hp4.read hb5
    have hr5 := hr4.below hb5
    have hs5 := hp5.s
    have ha5 := hp5.r
    clear hp hp4 c0 hb5 hr4 hb4 hp5
    go_wp2
    go_loopw [17] (fun i wr => ∃ (m : Nat) (l : List Value), m ≤ bs.length ∧ i = .int .i64 (m : Int) ∧ l.length = bs.length ∧ Row wr gb 3 l ∧ AS w wr g N bs ∧ RA wr rb rc rt bs) (fun i _ => bs.length - (intOf i).toNat)
    case atStart => exact ⟨0, _, Nat.zero_le _, rfl, by simp, hr5, hs5, ha5⟩
    case round =>
      clear hr5 hs5 ha5
      obtain ⟨m, l, hm, rfl, hll, hr, hs, ha⟩ := hrel
      have HLL : Hid (l.length = bs.length) := hll
      have hm256 : m ≤ 256 := by have := HN.out; omega
      clear hll
      by_cases hml : (m : Int) < (bs.length : Int)
      · have hmL : m < l.length := by rw [HLL.out]; omega
        have d0 := hr.cell m hmL
        have f0 := hr.frozen m
        have hgl := hr.lt
        have HM1 : Hid (m + 1 ≤ bs.length) := by
          have e : m + 1 ≤ bs.length := by omega
          exact e
        generalize l[m] = old at *
        go_wp2
        go_roundw
        case rel =>
          have hkk := Kept.setCell wr ⟨gb, m, none⟩ (.int .i64 77)
          exact ⟨m + 1, l.set m (.int .i64 77), HM1.out, by go_num, by rw [List.length_set]; exact HLL.out, hr.set m _, hs.keep hkk (fun k hk e => by have e' : k = gb := e; omega), ha.kept hkk (by show ¬ (rb = gb); omega) (by show ¬ (rc = gb); omega) (by show ¬ (rt = gb); omega)⟩
        case measure => have := HM1.out; simp [intOf]; omega
      · have hrbR := ha.lt.1
        have r0 := ha.c0
        have q0 : Below wr.heap.size wr wr.drew := (Below.refl _ _).drew
        have C2 : ∀ W, Below wr.heap.size wr W → W.cell? ⟨rb, 0, none⟩ = some (.slice (some ⟨rc, 0, none⟩) bs.length bs.length) := fun W h => (h.cell (p := ⟨rb, 0, none⟩) hrbR).trans r0
        clear r0
        go_wp2
        go_region_held (fun W => Below wr.heap.size wr W) (assumption) (first
          | (go_at_call 12; refine (blocks_any g bs _ (hs.ar.below q0)).mono ?_; rintro e wa ⟨rfl, hra, hba⟩; have qa : Below wr.heap.size wr wa := q0.trans (hba.mono q0.size))
          | (go_at_call 26; refine (ints_same _ rc bs HN.out _ hra (ha.below qa).cls).mono ?_; rintro e wb ⟨rfl, hbb⟩; have qb : Below wr.heap.size wr wb := qa.trans (hbb.mono qa.size)))
        all_goals
          go_wp2
          go_ret
          exact ⟨rfl, by rw [hG]; exact hs.bel.trans (qb.mono (Nat.le_of_lt hs.ar.lt))⟩

theorem arenaPlays_any (n : Int) (hlo : -9223372036854775808 ≤ n) (hhi : n ≤ 9223372036854775807) (xs : List StepA) (v : Value) (w : World) (hT : TB w) (hv : WS w v 3 cStepA xs) (hR : ∀ x ∈ xs, x.n ≤ 9223372036854775807) :
    Calls Tryd.prog 5 #[.int .i64 n, v] w fun e w' => e = .returned (.bool true) ∧ Below w.heap.size w w' := by
  by_cases h : n < 16 ∨ 4096 < n ∨ n % 16 ≠ 0
  · exact arenaPlays_no n h hlo hhi v w hT
  · obtain ⟨M, rfl⟩ : ∃ M : Nat, n = ((16 * M : Nat) : Int) := ⟨(n / 16).toNat, by omega⟩
    exact arenaPlays_ok M (by omega) (by omega) xs v w hT hv hR

end Go.Proofs.YtolgncehfblpbaaDoor
