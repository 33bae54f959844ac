/- The plain reacher: look. -/
import Derived.Test.YtlabdbfmfejkaaaGreatDoorQrU
import Derived.Test.YtlabdbfmfejkaaaGreatDoorQrE
import Derived.Test.YtlabdbfmfejkaaaGreatDoorPbJP
import Derived.Deep.RegionHeld
namespace Go.Proofs.YtlabdbfmfejkaaaGreatDoor
open Go.RowKit

/-- So many things, at most. -/
structure QB (s : QSt) (n : Nat) : Prop where
  r : s.row.length ≤ n
  w : s.waits.length ≤ n
  o : s.outs.length ≤ n
  ou : OutL s.outs
section
variable {h : HSt} {p : PSt} {s : QSt} {n : Nat}
theorem QB.mono {m : Nat} (H : QB s n) (hn : n ≤ m) : QB s m := ⟨Nat.le_trans H.r hn, Nat.le_trans H.w hn, Nat.le_trans H.o hn, H.ou⟩
theorem QB.put (H : QB s n) (a : Nat) : QB (s.put a) (n + 1) := by
  unfold QSt.put
  split
  · exact H.mono (Nat.le_succ n)
  · exact ⟨by simp; exact H.r, by simp; exact H.w, Nat.le_succ_of_le H.o, H.ou⟩
theorem QB.meet (H : QB s n) {x : Int × Nat} (hx : namesB x = true) : QB { s with outs := meetL s.outs x } (n + 1) :=
  ⟨Nat.le_succ_of_le H.r, Nat.le_succ_of_le H.w, Nat.le_trans (meet_len s.outs x) (Nat.succ_le_succ H.o), H.ou.meet hx⟩
theorem QB.look (H : QB s n) (nm : ∀ e ∈ p.me, namesB e.1 = true) (x : Int × Nat) : QB (s.look h p x) (n + 1) := by
  unfold QSt.look
  split
  · split
    · exact H.put _
    · exact H.mono (Nat.le_succ n)
  · split
    · next hs => exact H.meet (sus_names nm hs)
    · exact H.mono (Nat.le_succ n)
theorem put_sus (a : Nat) : (s.put a).sus = s.sus := by unfold QSt.put; split <;> rfl
theorem look_sus (x : Int × Nat) : (s.look h p x).sus = s.sus := by
  unfold QSt.look
  split
  · split
    · exact put_sus _
    · rfl
  · split <;> rfl
theorem all_snoc (l : List (Int × Nat)) (x : Int × Nat) : QSt.all h p s (l ++ [x]) = (QSt.all h p s l).look h p x := by unfold QSt.all; rw [List.foldl_append]; rfl
theorem QB.all (nm : ∀ e ∈ p.me, namesB e.1 = true) : ∀ (l : List (Int × Nat)) {s : QSt} {n : Nat}, QB s n → QB (QSt.all h p s l) (n + l.length) ∧ (QSt.all h p s l).sus = s.sus
  | [], s, n, H => ⟨H, rfl⟩
  | x :: l, s, n, H => by
    have e : QSt.all h p s (x :: l) = QSt.all h p (s.look h p x) l := rfl
    rw [e]
    obtain ⟨a, b⟩ := QB.all nm l (H.look (h := h) nm x)
    exact ⟨a.mono (by rw [List.length_cons]; omega), b.trans (look_sus x)⟩
end
theorem right_cases {x : Int × Nat} (h : rightI x = true) : x = (0, 0) ∨ namesB x = true := by
  unfold rightI at h
  rw [Bool.or_eq_true] at h
  rcases h with h | h
  · rw [Bool.and_eq_true, beq_iff_eq, beq_iff_eq] at h
    exact Or.inl (Prod.ext h.1 h.2)
  · exact Or.inr h
section
variable {w w' : World} {B yb rb qb ra rc rt base : Nat} {L : Nat → Nat} {s : QSt} {sv mv kv vv lv : Value} {p : PSt} {Lp : List ((Int × Nat) × Nat)} {h : HSt} {M : List Pl} {n0 : Nat}
set_option maxRecDepth 20000 in
set_option maxHeartbeats 4000000 in
theorem qlook_any (x : QcN w B yb rb qb L s) (q : RQ w qb rb base sv mv kv vv p Lp) (z : RX w rb ra rc rt lv h M) (hq : ∀ k, qBl qb sv mv kv vv k → ¬ L k < 9) (hz : ∀ k ∈ rBl rb ra rc rt lv M, ¬ L k < 9) (nm : ∀ e ∈ p.me, namesB e.1 = true) (a : Nat) (hR : ∀ x ∈ refsC h.cs a, rightI x = true) (hb : QB s n0) (hn : n0 ≤ 90000) :
    Calls Tryz.prog 35 #[.pointer (some ⟨yb, 0, none⟩), .int .u64 (a : Int)] w fun e w' => e = .returned (.tuple #[]) ∧ QcGo w w' B yb rb qb L (QSt.all h p s (refsC h.cs a)) := by
  have HXN : Hid _ := hidden x
  have HQ : Hid (∀ W, Kept w W (fun k => L k < 9) → RQ W qb rb base sv mv kv vv p Lp) := fun W hk => q.kept hk hq
  have HZ : Hid (∀ W, Kept w W (fun k => L k < 9) → RX W rb ra rc rt lv h M) := fun W hk => z.kept hk hz
  have HNM : Hid _ := hidden nm
  have HQB : Hid _ := hidden hb
  have hget := z.get_of a
  have hGt := rget_any z a
  obtain ⟨rv, wv, tv, kv', ov, ts, x⟩ := x
  obtain ⟨c0, _⟩ := x.c
  have hyl := x.bl.2
  clear x q hq hz nm hb
  cases hp : getP M a with
  | none =>
    have HE : Hid (QSt.all h p s (refsC h.cs a) = s) := by
      have e : QSt.all h p s (refsC h.cs a) = s := by
        unfold refsC
        rw [hget, hp]
        rfl
      exact e
    rw [hp] at hGt
    simp only [ptrOf, Option.map_none] at hGt
    clear hget hp hR z
    go_enter Tryz.func35, Tryz.ntmps35
    go_wp2_with fail
    refine hGt.mono ?_
    rintro e _ ⟨rfl, rfl⟩
    clear hGt
    go_wp2
    (try simp only [Exit.inBlock, Exit.then]); refine bodyPost_ret (results_none rfl _ _ _) rfl ?_
    rw [HE.out]
    exact ⟨rfl, HXN.out.stay (Below.refl _ _)⟩
  | some pl =>
    have hrf : refsC h.cs a = pl.o.rf := by
      unfold refsC
      rw [hget, hp]
      rfl
    rw [hrf] at hR ⊢
    have hpm := (getP_mem hp).1
    have hfl := (z.fl hpm).1
    rw [hp] at hGt
    simp only [ptrOf, Option.map_some] at hGt
    have HOC : Hid (∀ W, Kept w W (fun k => L k < 9) → W.cell? ⟨pl.pb, 2, none⟩ = some (.slice (some ⟨pl.rb, 0, none⟩) pl.o.rf.length pl.o.rf.length) ∧ pl.pb < W.heap.size ∧ pl.rb < W.heap.size ∧ ∀ i (hi : i < pl.o.rf.length), W.cell? ⟨pl.rb, i * 2, none⟩ = some (.int .i64 pl.o.rf[i].1) ∧ W.cell? ⟨pl.rb, i * 2 + 1, none⟩ = some (.int .u64 (pl.o.rf[i].2 : Int))) := fun W hk => by
      have zW := HZ.out W hk
      exact ⟨zW.pc hpm 2 _ rfl, (zW.rows pl hpm).1.lt, (zW.rows pl hpm).2.1.lt, fun i hi => zW.rc' hpm i hi⟩
    have HRT : Hid (∀ i (hi : i < pl.o.rf.length), rightI pl.o.rf[i] = true) := fun i hi => hR _ (List.getElem_mem hi)
    have hnode := z.ok.node
    obtain ⟨n, hnn⟩ : ∃ n, n = pl.o.rf.length := ⟨_, rfl⟩
    have HNN : Hid (n = pl.o.rf.length) := hnn
    have hn7 : n ≤ 7 := by omega
    clear hget hp hR hrf z hfl hnn
    go_enter Tryz.func35, Tryz.ntmps35
    go_wp2_with fail
    refine hGt.mono ?_
    rintro e _ ⟨rfl, rfl⟩
    clear hGt
    have hpb : pl.pb < w.heap.size := (HOC.out w (Kept.refl _ _)).2.1
    go_wp2
    go_loopw [5, 6, 7, 8] (fun t _ _ _ wr => ∃ i : Nat, i ≤ n ∧ t = .int .i64 (i : Int) ∧ QcGo w wr B yb rb qb L (QSt.all h p s (pl.o.rf.take i))) (fun t _ _ _ _ => n - (intOf t).toNat)
    case atStart => exact ⟨0, Nat.zero_le _, rfl, HXN.out.stay (Below.refl _ _)⟩
    case round =>
      obtain ⟨i, hi, rfl, hgo⟩ := hrel
      obtain ⟨o2, opb, orb, hcell⟩ := HOC.out wr hgo.kept
      rw [← HNN.out] at o2
      by_cases hlt : (i : Int) < (n : Int)
      · have hil : i < pl.o.rf.length := by have := HNN.out; omega
        obtain ⟨r0, r1⟩ := hcell i hil
        have HTK : Hid (QSt.all h p s (pl.o.rf.take (i + 1)) = (QSt.all h p s (pl.o.rf.take i)).look h p pl.o.rf[i]) := by
          have e : QSt.all h p s (pl.o.rf.take (i + 1)) = (QSt.all h p s (pl.o.rf.take i)).look h p pl.o.rf[i] := by rw [List.take_succ_eq_append_getElem hil, all_snoc]
          exact e
        have hrt := HRT.out i hil
        generalize pl.o.rf[i] = y at *
        obtain ⟨ya, yn⟩ := y
        simp only at r0 r1
        obtain ⟨hqb, hsus⟩ := QB.all (h := h) HNM.out (pl.o.rf.take i) HQB.out
        have hqb := hqb.mono (m := n0 + 7) (by rw [List.length_take]; omega)
        have HGO : Hid _ := hidden hgo
        have HI1 : Hid (i + 1 ≤ n) := by
          have e : i + 1 ≤ n := by omega
          exact e
        obtain ⟨L1, x1, a1⟩ := hgo.ex
        have HA1 : Hid _ := hidden a1
        generalize QSt.all h p s (pl.o.rf.take i) = s1 at *
        have HQB1 : Hid _ := hidden hqb
        have HSU : Hid (s1.sus = s.sus) := hsus
        have HX1 : Hid _ := hidden x1
        clear hgo a1 hcell hqb hsus x1
        go_upto_region 6 with fail
        obtain ⟨w2, hw2⟩ : ∃ v, v = wr.alloc (.cells #[.int .i64 ya, .int .u64 (yn : Int)] 55) := ⟨_, rfl⟩
        rw [← hw2]
        have b2 : Below wr.heap.size wr w2 := by rw [hw2]; exact bel_alloc _ _
        have HB2 : Hid (∀ W, Below w2.heap.size w2 W → W.cell? ⟨wr.heap.size, 0, none⟩ = some (.int .i64 ya) ∧ W.cell? ⟨wr.heap.size, 1, none⟩ = some (.int .u64 (yn : Int)) ∧ wr.heap.size < W.heap.size) := fun W hB => by
          have hl : wr.heap.size < w2.heap.size := by rw [hw2]; simp
          refine ⟨(hB.cell (p := ⟨wr.heap.size, 0, none⟩) hl).trans (by rw [hw2]; simp), (hB.cell (p := ⟨wr.heap.size, 1, none⟩) hl).trans (by rw [hw2]; simp), Nat.lt_of_lt_of_le hl hB.size⟩
        have HBW : Hid _ := hidden b2
        have HK : Hid (∀ W, Below w2.heap.size w2 W → Kept w W (fun k => L k < 9)) := fun W hB => HGO.out.kept.trans (kept_of_below (b2.trans (hB.mono b2.size)) _) (fun _ _ e => e)
        have HXW : Hid (∀ W, Below w2.heap.size w2 W → QcN W B yb rb qb L1 s1) := fun W hB => HX1.out.below (b2.trans (hB.mono b2.size))
        have HYC : Hid (∀ W, Below w2.heap.size w2 W → W.cell? ⟨yb, 0, none⟩ = some (.pointer (some ⟨rb, 0, none⟩)) ∧ W.cell? ⟨yb, 1, none⟩ = some (.pointer (some ⟨qb, 0, none⟩)) ∧ W.cell? ⟨yb, 4, none⟩ = some (.int .i64 s1.sus) ∧ W.cell? ⟨rb, 0, none⟩ = some (.int .i64 (h.node : Int)) ∧ yb < W.heap.size ∧ rb < W.heap.size) := fun W hB => by
          obtain ⟨_, _, _, _, _, _, y⟩ := HXW.out W hB
          obtain ⟨k0, k1, _, _, k4, _⟩ := y.c
          have zW := HZ.out W (HK.out W hB)
          exact ⟨k0, k1, k4, zW.box.cell 0 (by simp), y.bl.2, zW.box.lt⟩
        clear hw2 b2 r0 r1 o2 opb orb
        have hbn := fun m => below_drewN0 w2 m
        have P0 : ∀ m, (w2.drewN m).cell? ⟨wr.heap.size, 0, none⟩ = some (.int .i64 ya) := fun m => (HB2.out _ (hbn m)).1
        have P1 : ∀ m, (w2.drewN m).cell? ⟨yb, 0, none⟩ = some (.pointer (some ⟨rb, 0, none⟩)) := fun m => (HYC.out _ (hbn m)).1
        have P2 : ∀ m, (w2.drewN m).cell? ⟨rb, 0, none⟩ = some (.int .i64 (h.node : Int)) := fun m => (HYC.out _ (hbn m)).2.2.2.1
        clear hbn
        by_cases he : ya = (h.node : Int)
        · have hq : (ya == (h.node : Int)) = true := by simpa using he
          have HLK : Hid (s1.look h p (ya, yn) = if susO h p s1.sus yn then s1.put yn else s1) := by
            have e : s1.look h p (ya, yn) = if susO h p s1.sus yn then s1.put yn else s1 := by unfold QSt.look; rw [if_pos he]
            exact e
          clear he
          go_cut [42] from 33 to 42 (fun t wc => t = .bool true ∧ Below w2.heap.size w2 wc)
          case first =>
            go_quiet (fail)
            go_wp2
            go_meet
            exact ⟨by simp, below_drewN0 _ _⟩
          case rest =>
            obtain ⟨rfl, hbc⟩ := hcut
            obtain ⟨_, e1, e2⟩ := HB2.out wc hbc
            have hSu := qsus_any (HXW.out wc hbc) (HQ.out wc (HK.out wc hbc)) (HZ.out wc (HK.out wc hbc)) yn
            have HBC : Hid _ := hidden hbc
            generalize susO h p s1.sus yn = sb at *
            clear P0 P1 P2 hbc
            go_wp2_with fail
            refine hSu.mono ?_
            rintro e w3 ⟨rfl, b3⟩
            have HB3 : Hid (Below w2.heap.size w2 w3) := HBC.out.trans (b3.mono HBC.out.size)
            clear hSu e1 b3
            cases sb with
            | false =>
              have HG3 : Hid (QcGo w w3 B yb rb qb L s1) := HGO.out.trans (fun L1 y => y.stay (HBW.out.trans (HB3.out.mono HBW.out.size)))
              go_wp2
              go_roundw
              case rel => exact ⟨i + 1, HI1.out, by go_num, by rw [HTK.out, HLK.out]; exact HG3.out⟩
              case measure => have := HI1.out; simp [intOf]; omega
            | true =>
              obtain ⟨_, e1, e2⟩ := HB2.out w3 HB3.out
              have hPu := qput_any (HXW.out w3 HB3.out) yn (by have := HQB1.out.r; omega) (by have := HQB1.out.w; omega)
              go_wp2_with fail
              refine hPu.mono ?_
              rintro e w4 ⟨rfl, g4⟩
              have HG4 : Hid _ := hidden (g4.after (HK.out w3 HB3.out) HA1.out)
              clear hPu e1 g4
              go_wp2
              go_roundw
              case rel => exact ⟨i + 1, HI1.out, by go_num, by rw [HTK.out, HLK.out]; exact HG4.out⟩
              case measure => have := HI1.out; simp [intOf]; omega
        · have hq : (ya == (h.node : Int)) = false := by simpa using he
          have HLK : Hid (s1.look h p (ya, yn) = if susI p s1.sus (ya, yn) then { s1 with outs := meetL s1.outs (ya, yn) } else s1) := by
            have e : s1.look h p (ya, yn) = if susI p s1.sus (ya, yn) then { s1 with outs := meetL s1.outs (ya, yn) } else s1 := by unfold QSt.look; rw [if_neg he]
            exact e
          clear he
          go_cut [42] from 33 to 42 (fun t wc => t = .bool false ∧ Below w2.heap.size w2 wc)
          case first =>
            go_quiet (fail)
            go_wp2
            go_meet
            exact ⟨by simp, below_drewN0 _ _⟩
          case rest =>
            obtain ⟨rfl, hbc⟩ := hcut
            obtain ⟨A, rfl, hA1, hA2⟩ : ∃ A : Nat, ya = (A : Int) ∧ A ≤ 64 ∧ yn < 72057594037927936 := by
              rcases right_cases hrt with e | e
              · cases e
                exact ⟨0, rfl, by omega, by omega⟩
              · have := names_lt e
                exact ⟨ya.toNat, by omega, by omega, by omega⟩
            have HBC : Hid _ := hidden hbc
            have hMe := fun W : BelW wc => rmet_any (HQ.out W.W (HK.out W.W (hbc.trans (W.h.mono hbc.size)))) A yn hA1 hA2
            obtain ⟨t0, t1, t2⟩ := HB2.out wc hbc
            obtain ⟨y0, y1, y4, _, y5, _⟩ := HYC.out wc hbc
            have D0 := fun W : BelW wc => W.cell t0
            have D1 := fun W : BelW wc => W.cell t1
            have D2 := fun W : BelW wc => W.cell y1
            have hmix : Tryz.prog.follows .mixedOrders = true := by kernel_rfl
            have HSI : Hid (susI p s1.sus ((A : Int), yn) = ((metR p ((A : Int), yn)).2 && decide (s1.sus < ((metR p ((A : Int), yn)).1 : Int)))) := rfl
            have HNA : Hid (susI p s1.sus ((A : Int), yn) = true → namesB ((A : Int), yn) = true) := fun e => sus_names HNM.out e
            clear P0 P1 P2 hbc hrt
            go_upto_region 9 with fail
            refine wp_region_below hmix (by kernel_rfl) ?_
            iterate 5 (quiet_step (done))
            quiet_step ((go_at_call 70; exact calls_below_of (hMe _)))
            iterate 5 (quiet_step (done))
            refine wpQuiet_nil ?_
            rintro w3 ⟨⟨_, hq3⟩, rfl⟩
            have HB3 : Hid (Below w2.heap.size w2 w3) := HBC.out.trans (hq3.mono HBC.out.size)
            clear hMe D0 D1 D2 t0 t1 t2 y0 y1 y4 y5 hq3
            obtain ⟨t0, t1, t2⟩ := HB2.out w3 HB3.out
            obtain ⟨y0, y1, y4, _, y5, _⟩ := HYC.out w3 HB3.out
            have HG3 : Hid (QcGo w w3 B yb rb qb L s1) := HGO.out.trans (fun L1 y => y.stay (HBW.out.trans (HB3.out.mono HBW.out.size)))
            generalize metR p ((A : Int), yn) = mr at *
            obtain ⟨rk, ok⟩ := mr
            simp only at HSI
            cases ok with
            | false =>
              have HL2 : Hid (s1.look h p ((A : Int), yn) = s1) := by
                have e : s1.look h p ((A : Int), yn) = s1 := by rw [HLK.out, HSI.out]; rfl
                exact e
              go_wp2
              go_roundw
              case rel => exact ⟨i + 1, HI1.out, by go_num, by rw [HTK.out, HL2.out]; exact HG3.out⟩
              case measure => have := HI1.out; simp [intOf]; omega
            | true =>
              by_cases hrk : s1.sus < (rk : Int)
              · have hsi : susI p s1.sus ((A : Int), yn) = true := by rw [HSI.out]; simp [hrk]
                have hnm := HNA.out hsi
                have HL2 : Hid (s1.look h p ((A : Int), yn) = { s1 with outs := meetL s1.outs ((A : Int), yn) }) := by
                  have e : s1.look h p ((A : Int), yn) = { s1 with outs := meetL s1.outs ((A : Int), yn) } := by rw [HLK.out, hsi]; rfl
                  exact e
                have HKy : Hid (∀ W, Calls Tryz.prog 60 #[.agg #[.int .i64 (A : Int), .int .u64 (yn : Int)]] W fun e w' => e = .returned (.int .u64 (keyN A yn : Int)) ∧ w' = W.alloc (.cells #[.int .i64 (A : Int), .int .u64 (yn : Int)] 55)) := fun W => key_any A yn hA1 hA2 W
                have HPt : Hid (∀ W, Below w3.heap.size w3 W → Calls Tryz.prog 71 #[.pointer (some ⟨yb, 9, none⟩), .int .u64 (keyN A yn : Int), .agg #[.int .i64 (A : Int), .int .u64 (yn : Int)]] W fun e w' => e = .returned (.bool true) ∧ QcGo W w' B yb rb qb L1 { s1 with outs := meetL s1.outs ((A : Int), yn) }) := fun W hB => by
                  obtain ⟨_, _, _, _, _, _, y⟩ := HXW.out W (HB3.out.trans (hB.mono HB3.out.size))
                  exact iput_any y ((A : Int), yn) hnm HQB1.out.ou (by have := HQB1.out.o; omega) (keyN A yn) (by unfold keyI; rfl)
                have HNW : Hid (¬ L1 wr.heap.size < 9) := fun e => by
                  have := (HX1.out.lo _ e).2
                  omega
                have q0 : Below w3.heap.size w3 w3.drew := (Below.refl _ _).drew
                have hl3 : yb < w3.heap.size := y5
                clear hsi hnm
                generalize keyN A yn = ky at *
                go_upto_region 11 with fail
                go_region_held (fun W => W.cell? ⟨wr.heap.size, 0, none⟩ = some (.int .i64 (A : Int)) ∧ W.cell? ⟨wr.heap.size, 1, none⟩ = some (.int .u64 (yn : Int))) (exact ⟨by assumption, by assumption⟩) (first
                  | (go_at_call 60; refine (HKy.out _).mono ?_; rintro e wk ⟨rfl, hwk⟩; have qk : Below w3.heap.size w3 wk := (by rw [hwk]; exact q0.trans ((bel_alloc _ _).mono q0.size)); have j0 := (qk.cell (p := ⟨wr.heap.size, 0, none⟩) t2).trans t0; have j1 := (qk.cell (p := ⟨wr.heap.size, 1, none⟩) t2).trans t1; clear hwk)
                  | (go_at_call 71; refine (HPt.out _ qk).mono ?_; rintro e w5 ⟨rfl, g5⟩; have j2 := (cell_kept j0 g5.kept HNW.out); have j3 := (cell_kept j1 g5.kept HNW.out); have HG5 : Hid _ := hidden (g5.after (HK.out _ (HB3.out.trans (qk.mono HB3.out.size))) (fun k e => (HA1.out k e))); clear g5))
                all_goals
                  clear t0 t1 t2 y0 y1 y4 y5 hl3 q0
                  go_wp2
                  go_roundw
                  case rel => exact ⟨i + 1, HI1.out, by go_num, by rw [HTK.out, HL2.out]; exact HG5.out⟩
                  case measure => have := HI1.out; simp [intOf]; omega
              · have HL2 : Hid (s1.look h p ((A : Int), yn) = s1) := by
                  have e : s1.look h p ((A : Int), yn) = s1 := by
                    have hsi : susI p s1.sus ((A : Int), yn) = false := by rw [HSI.out]; simp [hrk]
                    rw [HLK.out, hsi]
                    rfl
                  exact e
                go_wp2
                go_roundw
                case rel => exact ⟨i + 1, HI1.out, by go_num, by rw [HTK.out, HL2.out]; exact HG3.out⟩
                case measure => have := HI1.out; simp [intOf]; omega
      · have hie : i = n := by omega
        have HE : Hid (QSt.all h p s (pl.o.rf.take i) = QSt.all h p s pl.o.rf) := by
          rw [List.take_of_length_le (by have := HNN.out; omega)]
          exact rfl
        have HGO : Hid _ := hidden hgo
        clear hgo hcell
        go_wp2
        go_end0
        rw [← HE.out]
        exact ⟨rfl, HGO.out⟩
end
end Go.Proofs.YtlabdbfmfejkaaaGreatDoor
