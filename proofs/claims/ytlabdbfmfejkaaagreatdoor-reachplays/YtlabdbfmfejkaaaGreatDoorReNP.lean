import Derived.Test.YtlabdbfmfejkaaaGreatDoorReIP
import Derived.BigRegion
/- A row is ended: the walk. -/
/- The place moves on. -/
namespace Go.Proofs.YtlabdbfmfejkaaaGreatDoor
open Go.RowKit

section
variable {w : World} {B xb hb pb : Nat} {L : Nat → Nat} {uv ev : Value} {es : List ((Nat × List (Int × Nat)) × Value)} {r : RSt} {u : Und}
set_option maxRecDepth 20000 in
set_option maxHeartbeats 1000000 in
theorem end_none (x : RcX w B xb hb pb L uv ev es r) (hu : r.und = none) :
    Calls Tryz.prog 34 #[.pointer (some ⟨xb, 0, none⟩)] w fun e w' => e = .returned (.bool false) ∧ w = w' := by
  have c4 := x.c4
  have hv := x.un
  rw [hu] at hv
  have hv' : uv = .pointer none := hv
  rw [hv'] at c4
  clear x hu hv hv'
  go_enter Tryz.func34, Tryz.ntmps34
  go_wp2
  go_ret
  exact ⟨rfl, rfl⟩
set_option maxRecDepth 20000 in
set_option maxHeartbeats 2000000 in
theorem end_some (x : RcX w B xb hb pb L uv ev es r) (hB : B ≤ w.heap.size) (hu : r.und = some u) (hl : es.length ≤ 1000000) :
    Calls Tryz.prog 34 #[.pointer (some ⟨xb, 0, none⟩)] w fun e w' => e = .returned (.bool true) ∧ RcGo w w' B xb hb pb L r.endS := by
  have c4 := x.c4
  have c5 := x.c5
  have hv := x.un
  rw [hu] at hv
  obtain ⟨ub, rfl, mv, wv, mb, ov, tv, y⟩ := hv
  have d0 := y.c0
  have d1 := y.c1
  have hxl := x.box.lt
  have hul := y.box.lt
  obtain ⟨i, hi, hz0, hz1, hz2⟩ := info_parts Tryz.infoReach
  obtain ⟨ao, cap, hov, _⟩ := y.oo.slice
  obtain ⟨eo, ecap, hev, _⟩ := own_slice x.en.ow
  have HOW : Hid (∀ W : World, Below w.heap.size w W → W.ownsRow B 65 2 ev es.length (endV es)) := fun W hW => own_kept x.en.ow (kept_of_below hW (fun _ => False)) (fun _ _ => id)
  have q1 : ∀ o, Below w.heap.size w (w.alloc o).drew := fun o => (bel_alloc w o).trans ((below_drew0 _).mono (by simp))
  have hne : ¬ (xb = ub) := fun e => by
    have a := x.l0
    have b := y.l1
    rw [e] at a
    omega
  have HT : Hid (∀ o v5 w5, w5.ownsRow B 65 2 v5 (es.length + 1) (endV es ++ [.int .u64 (u.inn : Int), ov]) → Kept (w.alloc o).drew w5 (fun k => ev.ownBlock = some k) → Moved (w.alloc o).drew ev v5 → RcGo w ((w5.setCell ⟨xb, 5, none⟩ v5).setCell ⟨xb, 4, none⟩ (.pointer none)) B xb hb pb L r.endS ∧ w5.cell? ⟨xb, 5, none⟩ = some ev ∧ w5.cell? ⟨xb, 4, none⟩ = some (.pointer (some ⟨ub, 0, none⟩)) ∧ w5.frozen? ⟨xb, 5, none⟩ = false ∧ w5.frozen? ⟨xb, 4, none⟩ = false) := fun o v5 w5 ho hk hm => x.ends hu y (q1 o) hk ho hm
  have HS : Hid (Sr (w.alloc (.cells #[.int .u64 (u.inn : Int), ov] 65)).drew (.slice (some ⟨w.heap.size, 0, none⟩) 1 1) 2 1 [.int .u64 (u.inn : Int), ov]) := (sr_reach w u.inn ov (by rw [hov]; rfl) _).below (below_drew0 _)
  have HE : Hid (ev = .slice eo es.length ecap) := hidden hev
  have HO : Hid (ov = .slice ao u.outs.length cap) := hidden hov
  rw [hev] at c5
  rw [hov] at d1
  rw [hov] at HS
  generalize u.outs.length = k at *
  generalize u.inn = inn at *
  clear x y hu q1 hev
  generalize endV es = ecs at *
  generalize es.length = n at *
  clear hov
  go_enter Tryz.func34, Tryz.ntmps34
  go_upto_region 3 with fail
  go_cut [] from 8 to 31 (fun wc => ∃ w5 v5, wc = w5.setCell ⟨xb, 5, none⟩ v5 ∧ w5.ownsRow B 65 2 v5 (n + 1) (ecs ++ [.int .u64 (inn : Int), ov]) ∧ Kept (w.alloc (.cells #[.int .u64 (inn : Int), .slice ao k cap] 65)).drew w5 (fun k => ev.ownBlock = some k) ∧ Moved (w.alloc (.cells #[.int .u64 (inn : Int), .slice ao k cap] 65)).drew ev v5)
  case first =>
    go_region_law (refine step_append_sr rfl (.tmp 12) (.tmp 28) 43 rfl 65 i (.agg #[.int .u64 0, .slice none 0 0]) 2 32 Tryz.underlying43 hi hz0 hz1 hz2 rfl (by omega) B ev n ecs (by simp [Act.eval, HE.out]) (HOW.out _ ((bel_alloc w _).trans ((below_drew0 _).mono (by simp)))) _ 1 _ rfl HS.out (by omega) (by omega) (by simp [World.drew]; omega) ?_; intro v5 w5 ho5 hk5 hm5; have HO5 : Hid _ := hidden ho5; have HK5 : Hid _ := hidden hk5; have HM5 : Hid _ := hidden hm5; obtain ⟨_, e5, e4, f5, f4⟩ := HT.out _ v5 w5 (by rw [HO.out]; exact ho5) hk5 hm5; rw [HE.out] at e5; have u5 := cell_lt e5; clear hk5 hm5; obtain ⟨ao5, c5', hv5, _⟩ := own_slice ho5; subst hv5; clear ho5)
    all_goals
      go_wp2
      go_meet
      exact ⟨w5, _, rfl, by rw [HO.out]; exact HO5.out, HK5.out, HM5.out⟩
  case rest =>
    obtain ⟨w5, v5, rfl, ho5, hk5, hm5⟩ := hcut
    obtain ⟨g5, e5, e4, f5, f4⟩ := HT.out _ v5 w5 ho5 hk5 hm5
    have HG : Hid _ := hidden g5
    clear g5 ho5 hk5 hm5 c4 c5 d0 d1
    have hxl5 := cell_lt e4
    clear HOW HT HS
    go_wp2
    go_ret
    exact ⟨rfl, HG.out⟩
theorem end_any (x : RcX w B xb hb pb L uv ev es r) (hB : B ≤ w.heap.size) (hl : es.length ≤ 1000000) :
    Calls Tryz.prog 34 #[.pointer (some ⟨xb, 0, none⟩)] w fun e w' => e = .returned (.bool r.und.isSome) ∧ RcGo w w' B xb hb pb L r.endS := by
  cases hu : r.und with
  | none =>
    refine (end_none x hu).mono ?_
    rintro e _ ⟨rfl, rfl⟩
    have he : r.endS = r := by unfold RSt.endS; rw [hu]
    rw [he]
    exact ⟨rfl, RcN.stay ⟨_, _, _, x⟩ (Below.refl _ _)⟩
  | some u => exact end_some x hB hu hl
end
end Go.Proofs.YtlabdbfmfejkaaaGreatDoor

namespace Go.Proofs.YtlabdbfmfejkaaaGreatDoor
open Go.RowKit

section
variable {w0 w w' : World} {B xb hb pb : Nat} {L : Nat → Nat} {r : RSt} {h : HSt} {p : PSt} {X : Nat → Prop}
/-- The heap and the paint, where only a reacher's blocks were written. -/
theorem PH.rc (y : PH w0 B w pb hb h p X) (x : RcN w B xb hb pb L r) (hX : ∀ k, L k < 9 → X k) (hk : Kept w w' (fun k => L k < 9)) : PH w0 B w' pb hb h p X := y.other hk (fun k e => ⟨hX k e, (x.lo k e).1⟩)
theorem RcGo.then {w1 : World} {L1 : Nat → Nat} {r' : RSt} (a : ∀ k, L1 k < 9 → L k < 9 ∨ w.heap.size ≤ k) (hk : Kept w w1 (fun k => L k < 9)) (g : RcGo w1 w' B xb hb pb L1 r') : RcGo w w' B xb hb pb L r' := by
  obtain ⟨L2, x2, a2⟩ := g.ex
  have hs := hk.size
  refine ⟨⟨L2, x2, fun k e => ?_⟩, hk.trans g.kept (fun k h e => ?_)⟩
  · rcases a2 k e with b | b
    · exact a k b
    · exact Or.inr (by omega)
  · rcases a k e with b | b
    · exact b
    · omega
theorem PH.nxt (x : PH w0 B w pb hb h p X) (s : Nat) :
    Calls Tryz.prog 68 #[.pointer (some ⟨hb, 0, none⟩), .int .u64 (s : Int)] w fun e w' => e = .returned (.tuple #[.int .u64 ((nextR h.cs s).1 : Int), .bool (nextR h.cs s).2]) ∧ Below w.heap.size w w' := by
  obtain ⟨F, G, hp, _⟩ := x.ex
  exact hp.next s
/-- What Object answers. -/
theorem PH.objR (y : PH w0 B w pb hb h p X) (s : Nat) (hs : s < 18446744073709551616) :
    Calls Tryz.prog 57 #[.pointer (some ⟨hb, 0, none⟩), .int .u64 (s : Int)] w fun e w' => ∃ (a c d : Int) (ao bo : Option Addr) (c1 n2 c2 : Nat) (ok : Bool), e = .returned (.tuple #[.agg #[.int .u64 a, .int .i64 c, .slice ao (refsC h.cs s).length c1, .slice bo n2 c2, .int .i64 d], .bool ok]) ∧ (∀ o, getC h.cs s = some o → d = (o.d : Int)) ∧
      (∀ i (hi : i < (refsC h.cs s).length), ∃ g, ao = some ⟨g, 0, none⟩ ∧ w.heap.size ≤ g ∧ g < w'.heap.size ∧ w'.cell? ⟨g, i * 2, none⟩ = some (.int .i64 (refsC h.cs s)[i].1) ∧ w'.cell? ⟨g, i * 2 + 1, none⟩ = some (.int .u64 ((refsC h.cs s)[i].2 : Int))) ∧ Below w.heap.size w w' := by
  obtain ⟨F, G, hp, _⟩ := y.ex
  obtain ⟨ab, mb, Lp, hx, _⟩ := hp.ex
  unfold refsC
  cases hg : getC h.cs s with
  | none =>
    refine (hobj_no hx s hs hg).mono ?_
    rintro e w' ⟨rfl, hb'⟩
    exact ⟨0, 0, 0, none, none, 0, 0, 0, false, rfl, (fun o ho => by cases ho), fun i hi => absurd hi (Nat.not_lt_zero i), hb'⟩
  | some o =>
    refine (hobj_ok hx s hs o hg).mono ?_
    rintro e w' ⟨g1, g2, rfl, r1, _, hg1, _, hb'⟩
    refine ⟨_, _, (o.d : Int), some ⟨g1, 0, none⟩, some ⟨g2, 0, none⟩, _, _, _, true, rfl, (fun q hq => by cases hq; rfl), fun i hi => ?_, hb'⟩
    obtain ⟨e0, e1⟩ := idsV_at o.rf i hi
    exact ⟨g1, rfl, hg1, r1.lt, r1.at _ _ e0, r1.at _ _ e1⟩
set_option maxRecDepth 20000 in
set_option maxHeartbeats 1000000 in
theorem move_none (x : RcN w B xb hb pb L r) (y : PH w0 B w pb hb h p X) (ha : aboveC h.cs r.place = none) :
    Calls Tryz.prog 33 #[.pointer (some ⟨xb, 0, none⟩)] w fun e w' => e = .returned (.bool false) ∧ Below w.heap.size w w' := by
  obtain ⟨uv, ev, es, x⟩ := x
  have c0 := x.c0
  have c3 := x.c3
  have hN := (y.read (below_drew0 w)).nxt r.place
  rw [next_above, ha] at hN
  simp only at hN
  have hxl := x.box.lt
  generalize r.place = pl at *
  clear x y ha
  go_enter Tryz.func33, Tryz.ntmps33
  go_upto_region 1 with fail
  go_cut [3, 4] from 7 to 18 (fun s t wc => s = .int .u64 0 ∧ t = .bool false ∧ Below w.heap.size w wc)
  case first =>
    go_region_with (go_at_call 68; refine hN.mono ?_; rintro e w2 ⟨rfl, b2⟩)
    all_goals
      go_wp2
      go_meet
      exact ⟨rfl, rfl, (below_drew0 w).trans b2⟩
  case rest =>
    obtain ⟨rfl, rfl, b2⟩ := hcut
    have HB : Hid _ := hidden b2
    clear c0 c3 hN b2
    go_wp2
    go_ret
    exact ⟨rfl, HB.out⟩
set_option maxRecDepth 20000 in
set_option maxHeartbeats 2000000 in
theorem move_some (x : RcN w B xb hb pb L r) (y : PH w0 B w pb hb h p X) (hX : ∀ k, L k < 9 → X k) (o : Oc) (ha : aboveC h.cs r.place = some o) (hel : r.ended.length ≤ 1000000) :
    Calls Tryz.prog 33 #[.pointer (some ⟨xb, 0, none⟩)] w fun e w' => e = .returned (.bool true) ∧ RcGo w w' B xb hb pb L (moveS h p r o) := by
  have hxn := x
  obtain ⟨uv, ev, es, x⟩ := x
  have c0 := x.c0
  have c3 := x.c3
  have hBw := y.le
  have hmem := above_mem ha
  have hole := y.ok.le o hmem.1
  have holl := y.ok.last
  have hget := getC_of_mem y.ok hmem.1
  have hN := (y.read (below_drew0 w)).nxt r.place
  rw [next_above, ha] at hN
  simp only at hN
  have hxl := x.box.lt
  have hos : o.s < 18446744073709551616 := by omega
  have hes : es.length ≤ 1000000 := by
    have := congrArg List.length x.es
    rw [List.length_map] at this
    omega
  have HN : Hid (∀ w2, Below w.heap.size w w2 → ∃ w3, w3 = w2.setCell ⟨xb, 3, none⟩ (.int .u64 (o.s : Int)) ∧ w2.cell? ⟨xb, 3, none⟩ = some (.int .u64 (r.place : Int)) ∧ w2.frozen? ⟨xb, 3, none⟩ = false ∧ RcX w3 B xb hb pb L uv ev es { r with place := o.s } ∧ PH w0 B w3 pb hb h p X ∧ Kept w w3 (fun k => L k < 9)) := fun w2 b2 => by
    have x2 := x.below b2
    obtain ⟨x3, k3⟩ := x2.setPlace o.s
    have k := (kept_of_below b2 (fun k => L k < 9)).trans k3 (fun _ _ e => e)
    exact ⟨_, rfl, x2.c3, x2.box.frozen 3, x3, y.rc hxn hX k, k⟩
  have hbeg : beginsB h p r o = (decide (0 < o.d) && susO h p r.sus o.s) := rfl
  have hmv : moveS h p r o = if beginsB h p r o then { r.endS with place := o.s, und := some (Und.new o.s) } else { r with place := o.s } := rfl
  generalize hpl : r.place = pl at *
  clear x y ha hmem hole holl
  go_enter Tryz.func33, Tryz.ntmps33
  go_upto_region 1 with fail
  go_cut [3, 4] from 7 to 18 (fun s t wc => s = .int .u64 (o.s : Int) ∧ t = .bool true ∧ Below w.heap.size w wc)
  case first =>
    go_region_with (go_at_call 68; refine hN.mono ?_; rintro e w2 ⟨rfl, b2⟩)
    all_goals
      go_wp2
      go_meet
      exact ⟨rfl, rfl, (below_drew0 w).trans b2⟩
  case rest =>
    obtain ⟨rfl, rfl, b2⟩ := hcut
    obtain ⟨w3, hw3, d3, f3, x3, y3, k3⟩ := HN.out _ b2
    have HW3 : Hid (wc.setCell ⟨xb, 3, none⟩ (.int .u64 (o.s : Int)) = w3) := hw3.symm
    have hxc : xb < wc.heap.size := Nat.lt_of_lt_of_le hxl b2.size
    have e0 := x3.c0
    have hO := y3.objR o.s hos
    clear c0 c3 hN b2 HN hw3
    go_upto_region 5 with fail
    rw [HW3.out]
    clear HW3 d3 f3
    go_wp2_with fail
    refine hO.mono ?_
    rintro e w4 ⟨a, c, d, ao, bo, q1, n2, q2, ok, rfl, hd, _, b4⟩
    have hd' := hd o hget
    subst hd'
    have b5 : Below w3.heap.size w3 (w4.alloc (.cells #[.int .u64 a, .int .i64 c, .slice ao (refsC h.cs o.s).length q1, .slice bo n2 q2, .int .i64 (o.d : Int)] 89)) := b4.trans ((bel_alloc w4 _).mono b4.size)
    have x5 := x3.below b5
    have y5 := y3.read b5
    have hS := suspect_any x5 y5 o.s hos
    have k5 := k3.trans (kept_of_below b5 (fun k => L k < 9)) (fun _ _ e => e)
    have HX5 : Hid _ := hidden x5
    have HK5 : Hid _ := hidden k5
    have HY5 : Hid _ := hidden y5
    clear hO hd b4 b5 x3 y3 k3 e0 x5 k5 y5
    have hsus : susO h p ({ r with place := o.s } : RSt).sus o.s = susO h p r.sus o.s := rfl
    rw [hsus] at hS
    generalize hq : susO h p r.sus o.s = q at *
    by_cases hpos : 0 < o.d
    · have hposi : (0 : Int) < (o.d : Int) := by omega
      cases q with
      | true =>
        have hb1 : beginsB h p r o = true := by rw [hbeg, decide_eq_true hpos]; rfl
        rw [hb1] at hmv
        have HMV : Hid (moveS h p r o = { r.endS with place := o.s, und := some (Und.new o.s) }) := hidden hmv
        clear hbeg hmv hpos hb1
        go_wp2_with fail
        refine hS.mono ?_
        rintro e w6 ⟨rfl, b6⟩
        have x6 := HX5.out.below b6
        have k6 := HK5.out.trans (kept_of_below b6 (fun k => L k < 9)) (fun _ _ e => e)
        have hE := end_any x6 (Nat.le_trans hBw k6.size) hes
        rw [end_place] at hE
        have HK6 : Hid _ := hidden k6
        generalize ({ r with place := o.s } : RSt).und.isSome = bu at hE
        clear hS b6 x6 k6 HX5 HK5 HY5
        go_wp2_with fail
        refine hE.mono ?_
        rintro e w7 ⟨rfl, g7⟩
        have k7 := HK6.out.trans g7.kept (fun _ _ e => e)
        have hBg := begun_any o.s w7
        have HG7 : Hid _ := hidden g7
        have hxl7 : xb < w7.heap.size := Nat.lt_of_lt_of_le hxl k7.size
        have HK7 : Hid _ := hidden k7
        clear hE g7 k7
        go_wp2_with fail
        refine hBg.mono ?_
        rintro e w8 ⟨ub, L8, rfl, u8, _, b8⟩
        obtain ⟨L7, ⟨uv7, ev7, es7, x7⟩, a7⟩ := HG7.out.ex
        obtain ⟨g9, c9, f9⟩ := x7.begins b8 (Nat.le_trans hBw HK7.out.size) u8
        have HG9 : Hid (RcGo w (w8.setCell ⟨xb, 4, none⟩ (.pointer (some ⟨ub, 0, none⟩))) B xb hb pb L _) := hidden (RcGo.then (L1 := L) (fun k e => Or.inl e) HK6.out (RcGo.then a7 HG7.out.kept g9))
        have hxl8 := cell_lt c9
        clear hBg u8 b8 x7 a7 g9
        go_wp2
        go_ret
        exact ⟨rfl, by rw [HMV.out]; exact HG9.out⟩
      | false =>
        have hb1 : beginsB h p r o = false := by rw [hbeg]; simp
        rw [hb1] at hmv
        have HMV : Hid (moveS h p r o = { r with place := o.s }) := hidden hmv
        clear hbeg hmv hpos hb1
        go_wp2_with fail
        refine hS.mono ?_
        rintro e w6 ⟨rfl, b6⟩
        have HG : Hid (RcGo w w6 B xb hb pb L { r with place := o.s }) := ⟨⟨L, ⟨_, _, _, HX5.out.below b6⟩, fun k e => Or.inl e⟩, HK5.out.trans (kept_of_below b6 (fun k => L k < 9)) (fun _ _ e => e)⟩
        clear hS b6 HX5 HK5 HY5
        go_wp2
        go_ret
        exact ⟨rfl, by rw [HMV.out]; exact HG.out⟩
    · have hposi : ¬ (0 : Int) < (o.d : Int) := by omega
      have hb1 : beginsB h p r o = false := by rw [hbeg, decide_eq_false hpos]; rfl
      rw [hb1] at hmv
      have HMV : Hid (moveS h p r o = { r with place := o.s }) := hidden hmv
      have HG : Hid (RcGo w _ B xb hb pb L { r with place := o.s }) := ⟨⟨L, ⟨_, _, _, HX5.out⟩, fun k e => Or.inl e⟩, HK5.out⟩
      clear hbeg hmv hpos hb1 hS HX5 HK5 HY5
      go_wp2
      go_ret
      exact ⟨rfl, by rw [HMV.out]; exact HG.out⟩
end
end Go.Proofs.YtlabdbfmfejkaaaGreatDoor
