/- MarkLeast: marks against ranks that are found by rounds. -/
import Derived.Test.YtlabdbfmfejkaaaDoorMrR
import Derived.Test.YtlabdbfmfejkaaaDoorQuB
import Derived.Deep.CutRange
import Derived.Deep.CutBlock
import Derived.BigQuiet
namespace Go.Proofs.YtlabdbfmfejkaaaDoor
open Go.RowKit

theorem mark_of {h : HSt} {p : PSt} {k : Nat} {o : Oc} (ho : getC h.cs k = some o) : markR h p k = match getA p.ma k with
  | some (r, g) => (r, g, true)
  | none => (0, false, false) := by
  unfold markR
  rw [ho]
  cases getA p.ma k with
  | none => rfl
  | some m => rfl
set_option maxRecDepth 20000 in
set_option maxHeartbeats 4000000 in
theorem markLeast_any {w : World} {vr vo vi vl : Value} {g : Gr} {zs : List Int} (grey : Int) (x : GI w vr vo vi g) (hT : TB w) (hl : WS w vl 1 cI zs) :
    Calls Tryd.prog 3 #[.agg #[vr, vo, vi], .int .i64 grey, vl] w fun e w' => e = .returned (.bool true) ∧ Below w.heap.size w w' := by
  obtain ⟨a1, c1, a2, c2, a3, c3, rfl, rfl, rfl⟩ := x.shape
  obtain ⟨lo, lc, rfl, _, _⟩ := hl.slice
  have hA : ∀ o, Below w.heap.size w (w.alloc o) := fun o => bel_alloc w o
  have hHp := fun o => heaps_at (x.below (hA o)) (hT.below (hA o)) 30 (by omega)
  have hP := fun W => pick_any grey 8 (by omega) (by omega) W
  have hpk := pickN_lt grey 8 (by omega)
  generalize pickN grey 8 = pk at *
  have HX : Hid _ := hidden x
  have HL : Hid _ := hidden hl
  clear x hl
  go_enter Tryd.func3, Tryd.ntmps3
  go_wp2_with fail
  refine (hHp _).mono ?_
  rintro e w1 ⟨hb, rb, h, rfl, y1, m1⟩
  obtain ⟨wA, hwA⟩ : ∃ z, z = w.alloc (.cells #[.slice a1 g.refs.length c1, .slice a2 g.out.length c2, .slice a3 g.inn.length c3] 26) := ⟨_, rfl⟩
  rw [← hwA] at y1
  have hbA : Below w.heap.size w wA := by rw [hwA]; exact hA _
  have hTA : TB wA := hT.below hbA
  have hgw : w.heap.size < wA.heap.size := by rw [hwA]; simp
  have HD0 : Hid (∀ W : World, Below wA.heap.size wA W → W.cell? ⟨w.heap.size, 0, none⟩ = some (.slice a1 g.refs.length c1) ∧ W.cell? ⟨w.heap.size, 1, none⟩ = some (.slice a2 g.out.length c2) ∧ W.cell? ⟨w.heap.size, 2, none⟩ = some (.slice a3 g.inn.length c3) ∧ GI W (.slice a1 g.refs.length c1) (.slice a2 g.out.length c2) (.slice a3 g.inn.length c3) g ∧ w.heap.size < W.heap.size) := fun W hB => by
    refine ⟨(hB.cell (p := ⟨w.heap.size, 0, none⟩) hgw).trans (by rw [hwA]; simp), (hB.cell (p := ⟨w.heap.size, 1, none⟩) hgw).trans (by rw [hwA]; simp), (hB.cell (p := ⟨w.heap.size, 2, none⟩) hgw).trans (by rw [hwA]; simp), ?_, Nat.lt_of_lt_of_le hgw hB.size⟩
    exact HX.out.below (hbA.trans (hB.mono hbA.size))
  have HBA : Hid (∀ W, Below wA.heap.size wA W → Below w.heap.size w W) := fun W hB => hbA.trans (hB.mono hbA.size)
  have HZL : Hid (∀ W, Below wA.heap.size wA W → WS W (.slice lo zs.length lc) 1 cI zs) := fun W hB => HL.out.below (hbA.trans (hB.mono hbA.size))
  clear hHp hwA hA hT hgw
  have hok := y1.ok
  obtain ⟨N, hN⟩ : ∃ N, N = min g.refs.length 30 := ⟨_, rfl⟩
  rw [← hN] at m1
  have hla : h.last = N := m1.last
  have hN30 : N ≤ 30 := by omega
  have HNG : Hid (N ≤ g.refs.length) := by
    have e : N ≤ g.refs.length := by omega
    exact e
  have HIN : Hid (∀ k o, getC h.cs k = some o → 1 ≤ k ∧ k ≤ N) := m2_in m1 hok
  have HGC : Hid (∀ k, 1 ≤ k → k ≤ N → ∃ o, getC h.cs k = some o) := fun k h1 h2 => by
    obtain ⟨o, e, _⟩ := m1.at_ (k - 1) (by omega)
    have ek : k - 1 + 1 = k := by omega
    rw [ek] at e
    exact ⟨o, e⟩
  have hlen : h.cs.length ≤ N := by have := m1.len; omega
  have HLN : Hid _ := hidden hlen
  have HOK : Hid _ := hidden hok
  have HM2 : Hid (M2 g N N 0 h) := m1
  -- the roots
  obtain ⟨ys, hys⟩ : ∃ ys : List Int, ys = zs.take (if N = 0 then 0 else 6) := ⟨_, rfl⟩
  have HRS : Hid (∀ r ∈ rsL ys N, r.1 = 1 ∧ 1 ≤ r.2 ∧ r.2 ≤ N) := by
    have e : ∀ r ∈ rsL ys N, r.1 = 1 ∧ 1 ≤ r.2 ∧ r.2 ≤ N := by
      by_cases h0 : N = 0
      · rw [if_pos h0, List.take_zero] at hys
        subst hys
        intro r hr
        cases hr
      · exact rsL_in (by omega)
    exact e
  have HYS : Hid (ys.length ≤ 6 ∧ (∀ i : Nat, ((i : Int) < (zs.length : Int) ∧ (i : Int) < 6 ∧ 0 < (N : Int)) ↔ i < ys.length) ∧ (∀ i (hi : i < ys.length) (hz : i < zs.length), ys[i] = zs[i])) := by
    subst hys
    refine ⟨by rw [List.length_take]; split <;> omega, fun i => ?_, fun i hi hz => by rw [List.getElem_take]⟩
    rw [List.length_take]
    split <;> omega
  have HMH : Hid (MH h (SrcL h (rsL ys N))) := m2_mh m1 hok (by omega) (fun o ho hd => Or.inl ⟨o, ho, rfl, hd, rfl⟩)
  clear m1 hN hlen hok hys
  go_wp2_with fail
  refine (mknown_any _ (hTA.below (y1.bel.mono (Nat.le_refl _)))).mono ?_
  rintro e w2 ⟨rfl, b2⟩
  have y2 := y1.read b2
  have hrc := y2.rlast
  rw [hla] at hrc
  clear y1 b2 hla hTA
  have hN2 : (N : Int) ≤ 30 := by omega
  go_wp2_with fail
  refine (hP _).mono ?_
  rintro e _ ⟨rfl, rfl⟩
  clear hP
  have hPl := y2.pl (1 + pk) (by omega) (by omega)
  have hcast : ((1 + pk : Nat) : Int) = 1 + (pk : Int) := by omega
  rw [hcast] at hPl
  have hpk2 : (pk : Int) < 8 := by omega
  clear hcast y2
  go_wp2_with fail
  refine hPl.mono ?_
  rintro e w3 ⟨pb, rfl, z3, b3⟩
  have hM := z3.ph.mnew
  clear hPl z3 b3 hrc
  go_wp2_with fail
  refine hM.mono ?_
  rintro e w4 ⟨rfl, x4, b4⟩
  generalize w3.heap.size = xb at *
  have HX4 : Hid _ := hidden x4
  have HJ4 : Hid (MJ h (rsL ys N) (rsL (ys.take 0) N) (PSt.new (1 + pk)) ⟨0, 0, false⟩) := ⟨MI.new h _ HOK.out (1 + pk), fun k hk => by simp [rsL] at hk⟩
  have HC0 : Hid (∀ p, cost N p ≤ cost N (PSt.new (1 + pk)) → leftM N h p ⟨0, 0, false⟩ ≤ 42 * (N + 2) * (N + 2)) := fun p hp => by
    have h1 := left_new N h HLN.out (1 + pk)
    have h2 := Nat.le_trans (end_bound N) (end_bound2 N)
    have h3 : leftM N h p ⟨0, 0, false⟩ ≤ leftM N h (PSt.new (1 + pk)) ⟨0, 0, false⟩ := by unfold leftM; omega
    omega
  clear hM x4 b4
  go_wp2
  go_loopw [14, 15] (fun v t wr => ∃ (i : Nat) (p : PSt) (X : Nat → Prop), i ≤ ys.length ∧ t = .int .i64 (i : Int) ∧ OwI wr wA.heap.size v (rsL (ys.take i) N) ∧ (∀ k, v.ownBlock = some k → X k ∧ k ≠ xb) ∧ PM wA wA.heap.size wr xb pb hb h p ⟨0, 0, false⟩ X ∧ MJ h (rsL ys N) (rsL (ys.take i) N) p ⟨0, 0, false⟩ ∧ SB p ∧ cost N p ≤ cost N (PSt.new (1 + pk))) (fun _ t _ => 6 - (intOf t).toNat)
  case atStart => exact ⟨0, _, _, Nat.zero_le _, rfl, OwI.nil _ _, fun k e => (by cases e), HX4.out, HJ4.out, SB.new _, Nat.le_refl _⟩
  case round =>
    clear HX4 HJ4
    obtain ⟨i, p, X, hi, rfl, ho, hX, x, jp, sp, cp⟩ := hrel
    have hlen : (rsL (ys.take i) N).length = i := by rw [rsL_len, List.length_take]; omega
    obtain ⟨vo, vc, hv, _⟩ := ho.slice
    rw [hlen] at hv
    subst hv
    have HO : Hid _ := hidden ho
    have HXX : Hid _ := hidden hX
    have HXM : Hid _ := hidden x
    have HJP : Hid _ := hidden jp
    have HSP : Hid _ := hidden sp
    have HCP : Hid _ := hidden cp
    have HLE : Hid _ := hidden hlen
    by_cases hlt : i < ys.length
    · obtain ⟨q1, q2, q3⟩ := (HYS.out.2.1 i).2 hlt
      have hz : i < zs.length := by omega
      have hN0 : 0 < N := by omega
      have hyz := HYS.out.2.2 i hlt hz
      obtain ⟨zb, zo, rfl, hzl, zc⟩ := WS.one (f := fun z : Int => Value.int .i64 z) (HZL.out wr x.ph.bel) i hz
      have hpn := pickN_lt zs[i] N hN0
      have HTK : Hid (rsL (ys.take (i + 1)) N = rsL (ys.take i) N ++ [(1, 1 + pickN zs[i] N)]) := by
        have e : rsL (ys.take (i + 1)) N = rsL (ys.take i) N ++ [(1, 1 + pickN zs[i] N)] := by rw [List.take_succ_eq_append_getElem hlt, rsL_snoc, hyz]
        exact e
      have HMEM : Hid ((1, 1 + pickN zs[i] N) ∈ rsL ys N) := by
        have e : (1, 1 + pickN ys[i] N) ∈ rsL ys N := List.mem_map.2 ⟨ys[i], List.getElem_mem hlt, rfl⟩
        rw [hyz] at e
        exact e
      have HI1 : Hid (i + 1 ≤ ys.length) := hlt
      generalize zs[i] = z at *
      have hPz := fun W => pick_any z N hN0 (by omega) W
      generalize pickN z N = pz at *
      have hp64 : IntKind.u64.wrap (1 + (pz : Int)) = 1 + (pz : Int) := by rw [IntKind.wrap_u64]; omega
      have hpi : IntKind.i64.wrap (1 + (pz : Int)) = 1 + (pz : Int) := by rw [IntKind.wrap_i64]; omega
      have hpzN : (pz : Int) < 30 := by omega
      have hi6 : i < 6 := by omega
      have hle := x.ph.le
      obtain ⟨ln, hln⟩ : ∃ ln, ln = i + 1 := ⟨_, rfl⟩
      have HLN1 : Hid (ln = i + 1) := hln
      have hlni : (i : Int) < (ln : Int) := by omega
      have hln7 : ln ≤ 7 := by omega
      have HL6 : Hid (∀ q : Int × Nat, (rsL (ys.take i) N ++ [q]).length = ln) := fun q => by rw [List.length_append, hlen, hln]; rfl
      clear ho hX x jp sp cp hlen hlt hyz hln
      go_wp2_with fail
      refine (hPz _).mono ?_
      rintro e _ ⟨rfl, rfl⟩
      clear hPz
      go_upto_region 14 with (at_builtin; refine wpList_owI rfl (.tmp 86) (.tmp 96) rfl wA.heap.size _ (rsL (ys.take i) N) rfl (HO.out.below (bel_alloc _ _)) _ [((1 : Int), 1 + pz)] rfl (sr_one _ pz _) (by rw [HLE.out]; simp; omega) (by simp; omega) ?_; intro v5 w6 ho5 hk5 hm5; have HK5 : Hid _ := hidden hk5; have HM5 : Hid _ := hidden hm5; have HO5 : Hid _ := hidden ho5; obtain ⟨vo5, c5, hv5, _⟩ := ho5.slice; rw [HL6.out] at hv5; subst hv5; clear ho5 hk5 hm5)
      have hkk : Kept wr w6 (fun k => (Value.slice vo i vc).ownBlock = some k) := (kept_of_below (bel_alloc wr _) _).trans HK5.out (fun _ _ e => e)
      have hzz : wr.heap.size ≤ w6.heap.size := hkk.size
      have ph6 := HXM.out.ph.fresh2 hkk (fun k e _ => ⟨(HXX.out k e).1, (HO.out.ge k e).1⟩)
      have hxl := HXM.out.ph.xs xb HXM.out.xin
      have row6 := HXM.out.row.kept hkk (fun e => (HXX.out xb e).2 rfl)
      have HX6 : Hid _ := hidden (PM.mk ph6 row6 (Or.inl HXM.out.xin) HXM.out.ge)
      have HV6 : Hid (∀ k, (Value.slice vo5 ln c5).ownBlock = some k → (X k ∨ (wr.heap.size ≤ k ∧ k < w6.heap.size)) ∧ k ≠ xb) := fun k e => by
        have hlt6 := (HO5.out.ge k e).2
        rcases HM5.out k e with a | a
        · exact ⟨Or.inl (HXX.out k a).1, (HXX.out k a).2⟩
        · have a' : wr.heap.size ≤ k := by
            have : (wr.alloc (.cells #[.int .i64 1, .int .u64 (1 + (pz : Int))] 47)).heap.size ≤ k := a
            simp at this
            omega
          exact ⟨Or.inr ⟨a', hlt6⟩, by omega⟩
      have hcell : ∃ g5, vo5 = some ⟨g5, 0, none⟩ ∧ g5 < w6.heap.size ∧ w6.cell? ⟨g5, i * 2, none⟩ = some (.int .i64 1) ∧ w6.cell? ⟨g5, i * 2 + 1, none⟩ = some (.int .u64 ((1 + pz : Nat) : Int)) := by
        obtain ⟨ao, c, e, _, _, hc⟩ := HO5.out.at
        have hl5 : (rsL (ys.take i) N ++ [((1 : Int), 1 + pz)]).length = i + 1 := by rw [List.length_append, HLE.out]; rfl
        have hi5 : i < (rsL (ys.take i) N ++ [((1 : Int), 1 + pz)]).length := by omega
        obtain ⟨g5, e5, _, h5, h6, h7⟩ := hc i hi5
        have eg : (rsL (ys.take i) N ++ [((1 : Int), 1 + pz)])[i] = ((1 : Int), 1 + pz) := by
          rw [List.getElem_append_right (by rw [HLE.out]; exact Nat.le_refl _)]
          simp [HLE.out]
        rw [eg] at h6 h7
        simp only [Value.slice.injEq] at e
        exact ⟨g5, by rw [e.1, e5], h5, h6, h7⟩
      obtain ⟨g5, rfl, hg5, d0, d1⟩ := hcell
      have hSh := ph6.shade 1 (1 + pz) 0
      obtain ⟨oq, hoq⟩ := HGC.out (1 + pz) (by omega) (by omega)
      have HJ6 : Hid _ := hidden (HJP.out.root HMH.out HMEM.out (by rw [hoq]; rfl))
      have HS6 : Hid _ := hidden (HSP.out.shade HOK.out (1, 1 + pz) 0)
      have HC6 : Hid _ := hidden (Nat.le_trans (shade_cost HIN.out p (1, 1 + pz) 0) HCP.out)
      clear hkk hzz ph6 hxl row6 hoq zc hzl
      generalize 1 + pz = q at *
      go_wp2_with fail
      refine hSh.mono ?_
      rintro e w7 ⟨rfl, ph7, k7⟩
      have HX7 : Hid _ := hidden (HX6.out.pgo ph7 k7)
      have HO7 : Hid _ := hidden (HO5.out.kept k7 (fun k e f => f.2 (HV6.out k e).1))
      clear hSh ph7 k7 d0 d1 hg5
      go_wp2
      go_roundw
      case rel => exact ⟨i + 1, _, _, HI1.out, by go_num, by rw [HTK.out]; exact HO7.out, HV6.out, HX7.out, by rw [HTK.out]; exact HJ6.out, HS6.out, HC6.out⟩
      case measure => simp [intOf]; omega
    · have hiy : i = ys.length := by omega
      have hno : ¬ ((i : Int) < (zs.length : Int) ∧ (i : Int) < 6 ∧ 0 < (N : Int)) := fun e => hlt ((HYS.out.2.1 i).1 e)
      have hex : (¬ (i : Int) < (zs.length : Int)) ∨ ((i : Int) < (zs.length : Int) ∧ ¬ (i : Int) < 6) ∨ ((i : Int) < (zs.length : Int) ∧ (i : Int) < 6 ∧ ¬ 0 < (N : Int)) := by omega
      have hi6 : i ≤ 6 := by have := HYS.out.1; omega
      rw [List.take_of_length_le (by omega)] at ho jp
      have HO5 : Hid _ := hidden ho
      have HJ5 : Hid _ := hidden jp
      have HIY : Hid (i = ys.length) := hiy
      clear hiy
      clear ho hX x jp sp cp hlen hlt hno HO HJP HLE
      go_upto_region 11 with fail
      go_cut [83] from 72 to 83 (fun t wc => t = .bool false ∧ Below wr.heap.size wr wc)
      case first =>
        rcases hex with h1 | ⟨h1, h2⟩ | ⟨h1, h2, h3⟩
        all_goals
          go_wp2
          go_meet
          exact ⟨by first | (simp; done) | (simp; omega), Below.refl _ _⟩
      case rest =>
        obtain ⟨rfl, hbc⟩ := hcut
        have x5 := HXM.out.read hbc
        have HO6 : Hid _ := hidden (HO5.out.below hbc)
        have hyl : (rsL ys N).length ≤ 1000 := by rw [rsL_len]; have := HYS.out.1; omega
        have HYL : Hid _ := hidden hyl
        have hM := mall_any (J := MJ h (rsL ys N) (rsL ys N)) x5 HSP.out N (by omega) HIN.out HLN.out (HC0.out p HCP.out) HJ5.out (fun _ _ H => H.step HMH.out)
        clear x5 hbc hyl hex HXM HSP HCP HC0 HJ5 HO5
        go_wp2_with fail
        refine hM.mono ?_
        rintro e w5 ⟨k5, p5, m5, rfl, _, j5, i5, _, _, x6, q5⟩
        have ho7 := HO6.out.kept q5 (fun k e f => by
          rcases f with f | f
          · exact (HXX.out k e).2 f
          · exact f.2 (HXX.out k e).1)
        obtain ⟨d0, d1, d2, gi, hgs⟩ := HD0.out w5 x6.ph.bel
        have hRk := ranks_any gi ho7 N hN30 HNG.out HRS.out (edV_m2 (l := rsL ys N) HM2.out) (ini_src HM2.out HRS.out) HYL.out
        have HPH : Hid _ := hidden x6.ph
        have HJ6 : Hid (MJ h (rsL ys N) (rsL ys N) p5 m5) := j5
        have HI6 : Hid (Idle h p5 m5) := i5
        have HSR : Hid (∀ f, (∀ j, 0 ≤ ini2 g N (rsL ys N) j → 0 ≤ f j ∧ f j ≤ ini2 g N (rsL ys N) j) → RndV N (EdL h) (Rch h (SrcL h (rsL ys N))) (N + 1) f → ∀ k, (getA p5.ma k = none ∧ f k = -1) ∨ ∃ r : Nat, getA p5.ma k = some (r, false) ∧ f k = (r : Int)) := fun f h1 h2 => ranks_same j5.mi i5 j5.hsrc h2 (src_ini HM2.out HOK.out h1)
        clear hM ho7 gi x6 q5 j5 i5 HO6 HXX
        go_wp2_with fail
        refine hRk.mono ?_
        rintro e w6 ⟨f, kb, rfl, hrow, hkb, hrnd, hini, b6⟩
        have HF : Hid _ := hidden (HSR.out f hini hrnd)
        have HR6 : Hid _ := hidden hrow
        have HP6 : Hid _ := hidden (HPH.out.read b6)
        clear hRk hrow hrnd hini b6 HSR HPH hkb d0 d1 d2 hgs
        go_wp2
        go_loopw [19, 20, 21, 22] (fun t _ _ _ wr => ∃ i : Nat, i ≤ N ∧ t = .int .i64 ((i : Int) + 1) ∧ Below w6.heap.size w6 wr) (fun t _ _ _ _ => N + 1 - (intOf t).toNat)
        case atStart => exact ⟨0, Nat.zero_le _, rfl, Below.refl _ _⟩
        case round =>
          obtain ⟨j, hj, rfl, hb⟩ := hrel
          by_cases hlt : (j : Int) + 1 ≤ (N : Int)
          · have hMk := (HP6.out.read hb).mark (j + 1) (by omega)
            have hcs : ((j + 1 : Nat) : Int) = (j : Int) + 1 := by omega
            rw [hcs] at hMk
            obtain ⟨oj, hoj⟩ := HGC.out (j + 1) (by omega) (by omega)
            rw [mark_of hoj] at hMk
            have HB : Hid _ := hidden hb
            have HJ1 : Hid (j + 1 ≤ N) := by
              have e : j + 1 ≤ N := by omega
              exact e
            have hkl := Row.lt HR6.out
            have cf := fun W (hB : Below w6.heap.size w6 W) => (hB.cell (p := ⟨kb, j + 1, none⟩) hkl).trans (rk_cell HR6.out (j + 1) (by omega))
            have hkl2 : kb < wr.heap.size := Nat.lt_of_lt_of_le hkl hb.size
            rcases HF.out (j + 1) with ⟨e1, e2⟩ | ⟨r, e1, e2⟩
            · rw [e1] at hMk
              rw [e2] at cf
              simp only at hMk
              clear hoj hb
              go_wp2_with fail
              refine hMk.mono ?_
              rintro e w7 ⟨rfl, b7⟩
              have HB7 : Hid _ := hidden (HB.out.trans (b7.mono HB.out.size))
              have c7 := cf w7 HB7.out
              clear hMk cf b7 HB
              go_wp2
              go_roundw
              case rel => exact ⟨j + 1, HJ1.out, by go_num, HB7.out⟩
              case measure => have := HJ1.out; simp [intOf]; omega
            · rw [e1] at hMk
              rw [e2] at cf
              simp only at hMk
              have hr0 : (0 : Int) ≤ (r : Int) := by omega
              have hrr : ((r : Int) != (r : Int)) = false := by simp
              clear hoj hb
              go_wp2_with fail
              refine hMk.mono ?_
              rintro e w7 ⟨rfl, b7⟩
              have HB7 : Hid _ := hidden (HB.out.trans (b7.mono HB.out.size))
              have c7 := cf w7 HB7.out
              clear hMk cf b7 HB
              go_wp2
              go_roundw
              case rel => exact ⟨j + 1, HJ1.out, by go_num, HB7.out⟩
              case measure => have := HJ1.out; simp [intOf]; omega
          · have HPW : Hid _ := hidden (HP6.out.read hb)
            have hln := met_len HPW.out.nd HOK.out HJ6.out.mi.snd
            have hO := HPW.out.outs HJ6.out.mi.good.nm hln
            have HR7 : Hid _ := hidden (HR6.out.below hb)
            have HLN7 : Hid _ := hidden hln
            clear hb HP6 HR6 hln
            go_wp2_with fail
            refine hO.mono ?_
            rintro e w7 ⟨ov, L, rfl, ho, hol, b7⟩
            have HP8 : Hid _ := hidden (HPW.out.read b7)
            have HR8 : Hid _ := hidden (HR7.out.below b7)
            have HOO : Hid (OutsOf p5.me L) := ho
            have hlL : L.length ≤ 1000000 := by
              have := HOO.out.1.length_eq
              have := HLN7.out
              omega
            obtain ⟨M, hM⟩ : ∃ M, M = L.length := ⟨_, rfl⟩
            have HOL : Hid (∀ W, Below w7.heap.size w7 W → ∀ j (hj : j < L.length), ∃ b c, ov = .slice (some ⟨b, 0, none⟩) M c ∧ b < W.heap.size ∧ W.cell? ⟨b, j * 3, none⟩ = some (.int .i64 L[j].1.1) ∧ W.cell? ⟨b, j * 3 + 1, none⟩ = some (.int .u64 (L[j].1.2 : Int)) ∧ W.cell? ⟨b, j * 3 + 2, none⟩ = some (.int .i64 (L[j].2 : Int))) := fun W hB j hj => by
              obtain ⟨ao, cap, e, hx⟩ := (hol.below hB).ex
              obtain ⟨b, e2, _, hbl, hc⟩ := hx (by omega)
              subst e2
              obtain ⟨q0, q1, q2⟩ := osV_at L j hj
              exact ⟨b, cap, by rw [hM]; exact e, hbl, hc _ _ q0, hc _ _ q1, hc _ _ q2⟩
            obtain ⟨ao, cap, hav, _⟩ := hol.ex
            subst hav
            rw [← hM] at hlL ⊢
            have HM : Hid (M = L.length) := hM
            clear hO ho hol b7 hM HPW HR7
            go_wp2
            go_loopw [24, 25, 26, 27] (fun t _ _ _ wr => ∃ i : Nat, i ≤ M ∧ t = .int .i64 (i : Int) ∧ Below w7.heap.size w7 wr) (fun t _ _ _ _ => M - (intOf t).toNat)
            case atStart => exact ⟨0, Nat.zero_le _, rfl, Below.refl _ _⟩
            case round =>
              obtain ⟨j, hj, rfl, hb⟩ := hrel
              by_cases hjl : (j : Int) < (M : Int)
              · have HB : Hid _ := hidden hb
                have hjl' : j < L.length := by
                  have := HM.out
                  omega
                have HJ1 : Hid (j + 1 ≤ M) := by
                  have e : j + 1 ≤ M := by omega
                  exact e
                obtain ⟨b, c, eb, hbl, q0, q1, q2⟩ := HOL.out wr hb j hjl'
                simp only [Value.slice.injEq] at eb
                obtain ⟨rfl, _, rfl⟩ := eb
                have hget : getA p5.me L[j].1 = some L[j].2 := (getA_iff HP8.out.nd L[j].1 L[j].2).1 (HOO.out.1.mem_iff.1 (List.getElem_mem hjl'))
                have hnm : namesB L[j].1 = true := HJ6.out.mi.good.nm _ (HOO.out.1.mem_iff.1 (List.getElem_mem hjl'))
                generalize L[j] = y at *
                obtain ⟨⟨xa, xs⟩, rk⟩ := y
                simp only at q0 q1 q2 hget hnm
                have HEND : Hid (∀ v, Lst g N f (xa, xs) N 0 v → v = (rk : Int)) := fun v H => H.ends HM2.out HIN.out HJ6.out HI6.out hget hnm HF.out
                have HC : Hid (∀ W, Below wr.heap.size wr W → W.cell? ⟨b, j * 3, none⟩ = some (.int .i64 xa) ∧ W.cell? ⟨b, j * 3 + 1, none⟩ = some (.int .u64 (xs : Int)) ∧ W.cell? ⟨b, j * 3 + 2, none⟩ = some (.int .i64 (rk : Int)) ∧ b < W.heap.size) := fun W hB => ⟨(hB.cell (p := ⟨b, j * 3, none⟩) hbl).trans q0, (hB.cell (p := ⟨b, j * 3 + 1, none⟩) hbl).trans q1, (hB.cell (p := ⟨b, j * 3 + 2, none⟩) hbl).trans q2, Nat.lt_of_lt_of_le hbl hB.size⟩
                clear hb q0 q1 q2 hbl hget hnm
                generalize wr = wj at *
                go_wp2
                go_loopw [25, 26, 27] (fun v t _ wr => ∃ (i : Nat) (z : Int), i ≤ N ∧ v = .int .i64 z ∧ t = .int .i64 (i : Int) ∧ Lst g N f (xa, xs) i 0 z ∧ Below wj.heap.size wj wr) (fun _ t _ _ => N - (intOf t).toNat)
                case atStart => exact ⟨0, 41, Nat.zero_le _, rfl, rfl, Lst.new, Below.refl _ _⟩
                case round =>
                  obtain ⟨i, z, hi, rfl, rfl, hls, hbr⟩ := hrel
                  have HLS : Hid _ := hidden hls
                  have HB2 : Hid _ := hidden hbr
                  by_cases hil : (i : Int) < (N : Int)
                  · have HI1 : Hid (i + 1 ≤ N) := by
                      have e : i + 1 ≤ N := by omega
                      exact e
                    clear hls hbr hi
                    go_wp2
                    go_loopw [25, 27] (fun v t wr => ∃ (k : Nat) (z : Int), k ≤ fl g i ∧ v = .int .i64 z ∧ t = .int .i64 (k : Int) ∧ Lst g N f (xa, xs) i k z ∧ Below wj.heap.size wj wr) (fun _ t _ => fl g i - (intOf t).toNat)
                    case atStart => exact ⟨0, z, Nat.zero_le _, rfl, rfl, HLS.out, HB2.out⟩
                    case round =>
                      clear HLS HB2
                      obtain ⟨k, z, hk, rfl, rfl, hls, hbr⟩ := hrel
                      have HLS : Hid _ := hidden hls
                      have HB2 : Hid _ := hidden hbr
                      have hbw : Below wA.heap.size wA wr := (HP8.out.read (HB.out.trans (hbr.mono HB.out.size))).bel
                      have h1 : i < g.refs.length := by have := HNG.out; have := HI1.out; omega
                      obtain ⟨d0, d1, d2, gi, hgs⟩ := HD0.out wr hbw
                      obtain ⟨rb', ro', q4, q5, q6⟩ := WS.one (f := fun y : Value × List Int => y.1) gi.r i h1
                      obtain ⟨a4, c4, q7, q8⟩ := (gi.rs _ (List.getElem_mem h1)).slice
                      rw [q7] at q6
                      clear q8
                      have hfl := fl_at h1
                      obtain ⟨nk, hnk⟩ : ∃ nk, nk = g.refs[i].2.length := ⟨_, rfl⟩
                      rw [← hnk] at q6 hfl
                      have hii : (i : Int) < (g.refs.length : Int) := by omega
                      have hi60 : i < 60 := by have := HI1.out; omega
                      have hiN1 : (i : Int) + 1 < (N : Int) + 1 := by have := HI1.out; omega
                      have rk7 := HR8.out.below (HB.out.trans (hbr.mono HB.out.size))
                      have ci := rk_cell rk7 (i + 1) HI1.out
                      have hkl := rk7.lt
                      obtain ⟨fi, hfi⟩ : ∃ z, z = f (i + 1) := ⟨_, rfl⟩
                      rw [← hfi] at ci
                      have HFI : Hid (fi = f (i + 1)) := hfi
                      subst q4
                      clear hls hbr hfi rk7 hbw q7
                      by_cases hpos : 0 ≤ fi
                      · by_cases hkf : k < fl g i
                        · have hk1 : (k : Int) < (nk : Int) := by omega
                          have hk2 : (k : Int) < 7 := by omega
                          have HL1 : Hid (k + 1 ≤ fl g i) := hkf
                          have hTg := fun p : BelW wr => target_any (gi.below p.h) i k N h1 (by omega) hi60 (by omega) (by omega) (by omega)
                          have HLK : Hid (targetR g i k N = (xa, xs) → Lst g N f (xa, xs) i (k + 1) (min z fi)) := fun e => by
                            have h := HLS.out.look (i := i) (k := k) HI1.out HL1.out (by rw [← HFI.out]; exact hpos) e
                            rw [← HFI.out] at h
                            exact h
                          have HNO : Hid (targetR g i k N ≠ (xa, xs) → Lst g N f (xa, xs) i (k + 1) z) := fun e => HLS.out.pass e
                          have D0 := fun p : BelW wr => p.cell d0
                          have D1 := fun p : BelW wr => p.cell d1
                          have D2 := fun p : BelW wr => p.cell d2
                          have C0 := fun p : BelW wr => p.cell (HC.out wr HB2.out).1
                          have C1 := fun p : BelW wr => p.cell (HC.out wr HB2.out).2.1
                          have hbl := (HC.out wr HB2.out).2.2.2
                          have hCI : Hid (∀ W, Below wr.heap.size wr W → W.cell? ⟨kb, i + 1, none⟩ = some (.int .i64 fi) ∧ kb < W.heap.size) := fun W hB => ⟨(hB.cell (p := ⟨kb, i + 1, none⟩) hkl).trans ci, Nat.lt_of_lt_of_le hkl hB.size⟩
                          generalize targetR g i k N = tg at *
                          obtain ⟨ta, ts⟩ := tg
                          simp only at hTg
                          have HEQ : Hid ((ta == xa && (ts : Int) == (xs : Int)) = true ↔ ((ta, ts) : Int × Nat) = (xa, xs)) := by
                            have e3 : (ta == xa && (ts : Int) == (xs : Int)) = true ↔ ((ta, ts) : Int × Nat) = (xa, xs) := by
                              simp only [Bool.and_eq_true, beq_iff_eq, Prod.mk.injEq]
                              constructor
                              · rintro ⟨h1, h2⟩; exact ⟨h1, by omega⟩
                              · rintro ⟨h1, h2⟩; exact ⟨h1, by omega⟩
                            exact e3
                          have heq := eqID
                          have hgd := guardID
                          have hwi : IntKind.i64.wrap (i : Int) = (i : Int) := by rw [IntKind.wrap_i64]; omega
                          have hmix : Tryd.prog.follows .mixedOrders = true := by kernel_rfl
                          clear gi hfl hnk hkf h1
                          go_upto_region 34 with fail
                          refine wp_region_below hmix (by kernel_rfl) ?_
                          iterate 4 (quiet_step (done))
                          quiet_step ((go_at_call 18; exact calls_below_of (hTg _)))
                          iterate 6 (quiet_step (done))
                          refine wpQuiet_nil ?_
                          rintro wq ⟨⟨_, hq⟩, rfl⟩
                          have HQ : Hid _ := hidden hq
                          clear hTg D0 D1 D2 C0 C1 hq
                          generalize (ta == xa && (ts : Int) == (xs : Int)) = eqb at *
                          cases eqb with
                          | false =>
                            have HNX : Hid _ := hidden (HNO.out (fun e => by have := HEQ.out.2 e; cases this))
                            go_wp2
                            go_roundw
                            case rel => exact ⟨k + 1, z, HL1.out, rfl, by go_num, HNX.out, HB2.out.trans (HQ.out.mono HB2.out.size)⟩
                            case measure => have := HL1.out; simp [intOf]; omega
                          | true =>
                            have HNX : Hid _ := hidden (HLK.out (HEQ.out.1 rfl))
                            obtain ⟨cq, hkq⟩ := hCI.out wq HQ.out
                            clear ci hkl
                            go_wp2
                            go_roundw
                            case rel => exact ⟨k + 1, _, HL1.out, rfl, by go_num, HNX.out, HB2.out.trans (HQ.out.mono HB2.out.size)⟩
                            case measure => have := HL1.out; simp [intOf]; omega
                        · have hke : k = fl g i := by omega
                          have HU : Hid _ := hidden (HLS.out.up (Or.inr hke))
                          have hfe : fl g i = nk ∨ (fl g i = 7 ∧ 7 < nk) := by omega
                          rcases hfe with hfe | hfe
                          · have hk1 : ¬ (k : Int) < (nk : Int) := by omega
                            clear gi hnk
                            go_wp2
                            go_roundw
                            case rel => exact ⟨i + 1, z, HI1.out, rfl, by go_num, HU.out, HB2.out⟩
                            case measure => have := HI1.out; simp [intOf]; omega
                          · have hk1 : (k : Int) < (nk : Int) := by omega
                            have hk2 : ¬ (k : Int) < 7 := by omega
                            clear gi hnk
                            go_wp2
                            go_roundw
                            case rel => exact ⟨i + 1, z, HI1.out, rfl, by go_num, HU.out, HB2.out⟩
                            case measure => have := HI1.out; simp [intOf]; omega
                      · have HU : Hid _ := hidden (HLS.out.up (Or.inl (by have := HFI.out; omega)))
                        clear gi hnk
                        go_wp2
                        go_roundw
                        case rel => exact ⟨i + 1, z, HI1.out, rfl, by go_num, HU.out, HB2.out⟩
                        case measure => have := HI1.out; simp [intOf]; omega
                  · have hiN : i = N := by omega
                    subst hiN
                    have hz := HEND.out z hls
                    subst hz
                    obtain ⟨_, _, q2, hbl⟩ := HC.out wr hbr
                    have hrr : ((rk : Int) != (rk : Int)) = false := by simp
                    have HBW : Hid _ := hidden (HB.out.trans (hbr.mono HB.out.size))
                    clear hls hbr
                    go_wp2
                    go_roundw
                    case rel => exact ⟨j + 1, HJ1.out, by go_num, HBW.out⟩
                    case measure => have := HJ1.out; simp [intOf]; omega
              · have HE : Hid _ := hidden (HBA.out _ (HP8.out.read hb).bel)
                clear hb
                go_wp2
                go_ret
                exact ⟨rfl, HE.out⟩
end Go.Proofs.YtlabdbfmfejkaaaDoor
