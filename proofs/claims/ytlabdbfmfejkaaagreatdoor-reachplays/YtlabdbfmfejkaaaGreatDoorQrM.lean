/- ReachPlays. -/
import Derived.Test.YtlabdbfmfejkaaaGreatDoorQrPP
import Derived.Test.YtlabdbfmfejkaaaGreatDoorPick
import Derived.Deep.RegionHeld
import Derived.Deep.CutRange
import Derived.Deep.CutBlock
namespace Go.Proofs.YtlabdbfmfejkaaaGreatDoor
open Go.RowKit
open Go.Sort hiding Below

theorem hos_qs2 (w0 : World) (B yb hb rb pb qb : Nat) (h1 h2 : HSt) (p : PSt) (s : QSt) : Hos (QS w0 B yb hb rb pb qb h1 h2 p s) w0 B pb hb h1 p :=
  ⟨fun w X x => by
    obtain ⟨L2, y, a, z⟩ := x
    exact z.ph.off _ (fun k e => Or.inl e), fun _ _ _ _ x hk hT => x.fresh hk hT, fun _ _ _ x hY => x.off hY⟩
/-- All references may be. -/
def RightH (h : HSt) : Prop := ∀ a, ∀ x ∈ refsC h.cs a, rightI x = true
theorem RightH.u64 {h : HSt} (H : RightH h) : ∀ s, ∀ x ∈ refsC h.cs s, x.2 < 18446744073709551616 := fun s x hx => by
  rcases right_cases (H s x hx) with e | e
  · rw [e]; simp
  · have := names_lt e; omega
theorem RightH.set {h : HSt} (H : RightH h) (s : Nat) (f : Int) (x : Int × Nat) : RightH (h.setRefS s f x) := by
  unfold HSt.setRefS
  split
  · next hc =>
    intro a y hy
    have hg : getC (updC h.cs s (fun o => o.setR f.toNat x)) a = (getC h.cs a).map (fun o => if o.s = s then o.setR f.toNat x else o) := getC_upd h.cs s a _ (fun _ => rfl)
    unfold refsC at hy
    have hy' : y ∈ (match getC (updC h.cs s (fun o => o.setR f.toNat x)) a with | none => [] | some o => o.rf) := hy
    rw [hg] at hy'
    cases ho : getC h.cs a with
    | none => rw [ho] at hy'; cases hy'
    | some o =>
      rw [ho] at hy'
      simp only [Option.map_some] at hy'
      have hin : ∀ z ∈ o.rf, rightI z = true := fun z hz => H a z (by unfold refsC; rw [ho]; exact hz)
      split at hy'
      · rcases List.mem_or_eq_of_mem_set hy' with h1 | h1
        · exact hin y h1
        · rw [h1]; exact hc.1
      · exact hin y hy'
  · exact H
theorem set_last (h : HSt) (s : Nat) (f : Int) (x : Int × Nat) : (h.setRefS s f x).last = h.last := by unfold HSt.setRefS; split <;> rfl
theorem m2_right {g : Gr} {n : Nat} {h : HSt} (m : M2 g n n 0 h) (hok : h.Ok) (hn : n ≤ 60) : RightH h := fun a x hx => by
  unfold refsC at hx
  cases ha : getC h.cs a with
  | none => rw [ha] at hx; cases hx
  | some o =>
    rw [ha] at hx
    have hx : x ∈ o.rf := hx
    obtain ⟨ho, hs⟩ := getC_mem ha
    have hle := hok.le o ho
    rw [hs, m.last] at hle
    obtain ⟨o', h1, h2, h3⟩ := m.at_ (a - 1) (by omega)
    have e : a - 1 + 1 = a := by omega
    rw [e, ha] at h1
    cases h1
    obtain ⟨q, hq, rfl⟩ := List.getElem_of_mem hx
    have ht := h3 q (by omega) (Or.inl (by omega))
    rw [List.getElem?_eq_getElem hq] at ht
    simp only [Option.some.injEq] at ht
    rw [ht]
    exact target_right g (a - 1) q n (by omega) hn
set_option maxRecDepth 20000 in
set_option maxHeartbeats 8000000 in
theorem reachPlays_any {w : World} {vr vo vi vl vz : Value} {g : Gr} {xs zs : List Way} (a : Int) (x : GI w vr vo vi g) (hT : TB w) (hl : WS w vl 5 cWay xs) (hR : ∀ y ∈ xs, y.Ok) (hl2 : WS w vz 5 cWay zs) (hR2 : ∀ y ∈ zs, y.Ok) :
    Calls Tryz.prog 3 #[.agg #[vr, vo, vi], vl, .int .i64 a, vz] w fun e w' => e = .returned (.bool true) ∧ Below w.heap.size w w' := by
  obtain ⟨a1, c1, a2, c2, a3, c3, rfl, rfl, rfl⟩ := x.shape
  obtain ⟨lo, lc, rfl, _, _⟩ := hl.slice
  obtain ⟨zo, zc, rfl, _, hzm⟩ := hl2.slice
  have hA : ∀ o, Below w.heap.size w (w.alloc o) := fun o => bel_alloc w o
  have hHp := fun o => heaps_at (x.below (hA o)) (hT.below (hA o)) 25 (by omega)
  have HL : Hid _ := hidden hl
  have HL2 : Hid _ := hidden hl2
  have HRW : Hid _ := hidden hR
  have HRW2 : Hid _ := hidden hR2
  clear x hl hR hl2 hR2
  go_enter Tryz.func3, Tryz.ntmps3
  go_wp2_with fail
  refine (hHp _).mono ?_
  rintro e w1 ⟨hb, rb, h, rfl, y1, m1⟩
  obtain ⟨wA, hwA⟩ : ∃ z, z = w.alloc (.cells #[.slice a1 g.refs.length c1, .slice a2 g.out.length c2, .slice a3 g.inn.length c3] 26) := ⟨_, rfl⟩
  rw [← hwA] at y1
  have hbA : Below w.heap.size w wA := by rw [hwA]; exact hA _
  have hTA : TB wA := hT.below hbA
  have HWL : Hid _ := hidden (HL.out.below hbA)
  have HWZ : Hid (∀ W, Below wA.heap.size wA W → WS W (.slice zo zs.length zc) 5 cWay zs) := fun W hB => HL2.out.below (hbA.trans (hB.mono hbA.size))
  have HBA : Hid (∀ W, Below wA.heap.size wA W → Below w.heap.size w W) := fun W hB => hbA.trans (hB.mono hbA.size)
  clear hHp hwA hA hT
  have hok := y1.ok
  obtain ⟨N, hN⟩ : ∃ N, N = min g.refs.length 25 := ⟨_, rfl⟩
  rw [← hN] at m1
  have hla : h.last = N := m1.last
  have hN25 : N ≤ 25 := by omega
  have HRT : Hid (RightH h) := m2_right m1 hok (by omega)
  have HLA : Hid (h.last = N) := hla
  clear m1 hN hok
  go_wp2_with fail
  refine (reknown_any _ (hTA.below (y1.bel.mono (Nat.le_refl _)))).mono ?_
  rintro e w2 ⟨rfl, b2⟩
  have hPt := painted_any (y1.read b2) HWL.out HRW.out (by omega)
  clear y1 b2 hTA hla HWL HRW HL
  go_wp2_with fail
  refine hPt.mono ?_
  rintro e w3 ⟨pb, qb, p, rfl, z3, K3⟩
  have H := hos_p4 wA wA.heap.size hb rb pb qb h h p p
  have hNw := H.rnew z3
  have HNM : Hid (∀ e ∈ p.me, namesB e.1 = true) := K3.nm
  clear hPt z3 K3
  go_wp2_with fail
  refine hNw.mono ?_
  rintro e w4 ⟨rfl, x4, b4⟩
  generalize w3.heap.size = xb at *
  clear hNw b4
  go_wp2_with fail
  refine (pick_any a 9 (by omega) (by omega) _).mono ?_
  rintro e _ ⟨rfl, rfl⟩
  generalize pickN a 9 = t at *
  go_upto_region 12 with fail
  obtain ⟨w5, hw5⟩ : ∃ z, z = w4.alloc (.cells #[.pointer (some ⟨rb, 0, none⟩), .pointer (some ⟨qb, 0, none⟩), .slice none 0 0, .int .u64 0, .int .i64 0, .bool false, .int .u64 0, .slice none 0 0, .slice none 0 0, .int .i64 0, .slice none 0 0, .slice none 0 0] 50) := ⟨_, rfl⟩
  rw [← hw5]
  have r5 : Row w5 w4.heap.size 50 [.pointer (some ⟨rb, 0, none⟩), .pointer (some ⟨qb, 0, none⟩), .slice none 0 0, .int .u64 0, .int .i64 0, .bool false, .int .u64 0, .slice none 0 0, .slice none 0 0, .int .i64 0, .slice none 0 0, .slice none 0 0] := by
    rw [hw5]
    exact heap_alloc_new w4 _
  have b5 : Below w4.heap.size w4 w5 := by rw [hw5]; exact bel_alloc _ _
  have hz5 : w5.heap.size = w4.heap.size + 1 := by rw [hw5]; simp
  have hle4 : wA.heap.size ≤ w4.heap.size := (x4.out H).le
  have x5 := x4.grow H b5
  have hBe := x5.begin H (t : Int)
  have HR5 : Hid _ := hidden r5
  clear hw5 x4 x5 r5 b5
  generalize w4.heap.size = yb at *
  have HZ5 : Hid (w5.heap.size = yb + 1 ∧ wA.heap.size ≤ yb) := ⟨hz5, hle4⟩
  clear hz5 hle4
  go_wp2_with fail
  refine hBe.mono ?_
  rintro e w6 ⟨rfl, x6, k6⟩
  have r6 := HR5.out.kept k6 (fun e => e.2 (Or.inr ⟨Nat.le_refl _, by have := HZ5.out.1; omega⟩))
  have hQb := qbegin_any (rb := rb) (qb := qb) r6 HZ5.out.2 (t : Int)
  have HX6 : Hid _ := hidden x6
  clear hBe x6 k6 r6
  go_wp2_with fail
  refine hQb.mono ?_
  rintro e w7 ⟨rfl, y7, k7⟩
  have HX7 : Hid (RcS (QS wA wA.heap.size yb hb rb pb qb h h p (QSt.new (t : Int))) w7 wA.heap.size xb hb pb (RSt.new (t : Int)) (fun _ => False)) := by
    have e : RcS (QS wA wA.heap.size yb hb rb pb qb h h p (QSt.new (t : Int))) w7 wA.heap.size xb hb pb (RSt.new (t : Int)) (fun _ => False) := by
      have x7 := HX6.out.other H k7 (fun k e => ⟨Or.inr ⟨Nat.le_of_eq e.symm, by have := HZ5.out.1; omega⟩, by have := HZ5.out.2; omega⟩)
      obtain ⟨L, z1, z2, z3⟩ := x7.ex
      refine ⟨L, z1, fun _ _ e => e, _, y7, fun k e f => ?_, z3.off _ (fun k e => ?_)⟩
      · have hk : k = yb := by
          by_cases hk : k = yb
          · exact hk
          · have e2 : (if k = yb then 0 else 9) < 9 := e
            rw [if_neg hk] at e2
            omega
        subst hk
        rcases f with f | f
        · exact f
        · exact z2 k f (Or.inr ⟨Nat.le_refl _, by have := HZ5.out.1; omega⟩)
      · rcases e with (e | e) | e
        · exact e.elim
        · exact Or.inr e
        · have hk : k = yb := by
            by_cases hk : k = yb
            · exact hk
            · have e2 : (if k = yb then 0 else 9) < 9 := e
              rw [if_neg hk] at e2
              omega
          subst hk
          exact Or.inl (Or.inr ⟨Nat.le_refl _, by have := HZ5.out.1; omega⟩)
    exact e
  clear hQb y7 k7 HX6 HR5
  have HRT0 := HRT.out
  have HLA0 := HLA.out
  go_upto_block 0 with fail
  go_cut [16, 17, 18] from 66 to 125 (fun _ _ _ wc => ∃ (h : HSt) (r : RSt) (s : QSt), RcS (QS wA wA.heap.size yb hb rb pb qb h h p s) wc wA.heap.size xb hb pb r (fun _ => False) ∧ Sim r s ∧ RB r 14007)
  case first =>
    go_wp2
    go_loopw [16, 17, 18] (fun tt _ _ wr => ∃ (i : Nat) (h : HSt) (r : RSt) (s : QSt), tt = .int .i64 (i : Int) ∧ i ≤ 2000 ∧ RcS (QS wA wA.heap.size yb hb rb pb qb h h p s) wr wA.heap.size xb hb pb r (fun _ => False) ∧ Sim r s ∧ RB r (7 * i) ∧ RightH h ∧ h.last = N) (fun tt _ _ _ => 2000 - (intOf tt).toNat)
    case atStart => exact ⟨0, h, _, _, rfl, Nat.zero_le _, HX7.out, Sim.new _, RB.new _, HRT.out, HLA.out⟩
    case round =>
      clear HX7 HRT HLA HRT0 HLA0 H
      obtain ⟨i, h, r, s, rfl, hi, x, hsim, hrb, hrt, hlast⟩ := hrel
      by_cases hlt : (i : Int) < 2000
      · have Hh := hos_qs wA wA.heap.size yb hb rb pb qb h p s
        have hS := x.step Hh HNM.out hrt.u64 hrb (by omega)
        have hok : h.Ok := (Hh.ph _ _ (x.out Hh)).ok
        have hsb := (hrb.step hok HNM.out).mono (m := 7 * (i + 1)) (by omega)
        obtain ⟨hqb, hel⟩ := hsim.bound hrb
        obtain ⟨hs1, hs2⟩ := hsim.step (h := h) (p := p)
        have HRT : Hid (RightH h) := hrt
        have HLA : Hid (h.last = N) := hlast
        have HI1 : Hid (i + 1 ≤ 2000) := by
          have e : i + 1 ≤ 2000 := by omega
          exact e
        clear x
        go_wp2_with fail
        refine hS.mono ?_
        rintro e w6 ⟨rfl, x6, k6⟩
        have HQS : Hid (∀ W, Below w6.heap.size w6 W → Calls Tryz.prog 12 #[.pointer (some ⟨yb, 0, none⟩)] W fun e w' => e = .returned (.bool (s.step h p).1) ∧ RcS (QS wA wA.heap.size yb hb rb pb qb h h p (s.step h p).2) w' wA.heap.size xb hb pb (r.step h p).2 (fun _ => False) ∧ Kept W w' (Its wA.heap.size (fun _ => False))) := fun W hB => (x6.read Hh hB).qstep HNM.out HRT.out (n0 := 7 * i) hqb (by omega) (by omega)
        clear hS x6 k6 hsim hrb hrt hlast hok hqb hel Hh
        generalize r.step h p = R at *
        generalize s.step h p = T at *
        obtain ⟨b, r2⟩ := R
        obtain ⟨b', s2⟩ := T
        simp only at hs1 hs2 hsb
        subst hs1
        have HSM : Hid (Sim r2 s2) := hs2
        have HRB : Hid (RB r2 (7 * (i + 1))) := hsb
        clear hs2 hsb
        go_upto_region 18 with fail
        go_cut [85] from 72 to 85 (fun tt wc => tt = .bool false ∧ RcS (QS wA wA.heap.size yb hb rb pb qb h h p s2) wc wA.heap.size xb hb pb r2 (fun _ => False))
        case first =>
          have q0 : Below w6.heap.size w6 w6.drew := (Below.refl _ _).drew
          go_region_with (first
            | (go_at_call 12; refine (HQS.out _ q0).mono ?_; rintro e w7 ⟨rfl, x7, k7⟩; obtain ⟨rv, ts2, c2, hrl2, hts2, hyl⟩ := x7.qbox; have hRo := x7.rows HRB.out (by have := HI1.out; omega); have Hh2 := hos_qs wA wA.heap.size yb hb rb pb qb h p s2; have HX7 : Hid _ := hidden x7; have HRL2 : Hid _ := hidden hrl2; obtain ⟨ro2, rc2, hrv2, _⟩ := own_slice hrl2.ow; subst hrv2; clear x7 k7 hrl2)
            | (go_at_call 14; refine hRo.mono ?_; rintro e w8 ⟨v8, ts8, rfl, hrl8, hts8, b8⟩; have c8 := (b8.cell (p := ⟨yb, 2, none⟩) hyl).trans c2; have hyl8 : yb < w8.heap.size := Nat.lt_of_lt_of_le hyl b8.size; have HRL8 : Hid _ := hidden hrl8; have HB8 : Hid _ := hidden b8; clear hrl8 b8)
            | (go_at_call 13; refine (rowsEq_any ts8 ts2 _ _ _ _ _ HRL8.out (HRL2.out.below HB8.out) (by rw [hts8, hts2, HSM.out.ended])).mono ?_; rintro e w9 ⟨rfl, b9⟩; have HX9 : Hid _ := hidden ((HX7.out.read Hh2 HB8.out).read Hh2 b9); clear b9))
          all_goals
            go_wp2
            go_meet
            exact ⟨rfl, HX9.out⟩
        case rest =>
          obtain ⟨rfl, x9⟩ := hcut
          have HX9 : Hid _ := hidden x9
          clear x9 HQS
          cases b' with
          | false =>
            go_wp2
            go_meet
            exact ⟨h, r2, s2, HX9.out, HSM.out, HRB.out.mono (by have := HI1.out; omega)⟩
          | true =>
            by_cases hz : i < zs.length
            · have hzi : (i : Int) < (zs.length : Int) := by omega
              have Hh := hos_qs wA wA.heap.size yb hb rb pb qb h p s2
              have HWC : Hid (∀ W, Below wA.heap.size wA W → ∃ b off, zo = some ⟨b, off, none⟩ ∧ b < W.heap.size ∧ W.cell? ⟨b, off + i * 5, none⟩ = some (.int .u64 (zs[i].ser : Int)) ∧ W.cell? ⟨b, off + i * 5 + 1, none⟩ = some (.int .i64 zs[i].rank) ∧ W.cell? ⟨b, off + i * 5 + 2, none⟩ = some (.int .i64 zs[i].xn) ∧ W.cell? ⟨b, off + i * 5 + 3, none⟩ = some (.int .u64 (zs[i].xs : Int)) ∧ W.cell? ⟨b, off + i * 5 + 4, none⟩ = some (.bool zs[i].scan)) := fun W hB => (HWZ.out W hB).way i hz
              have hokx := HRW2.out _ (List.getElem_mem hz)
              generalize zs[i] = st at *
              obtain ⟨ser, rank, xn, xs', scan⟩ := st
              simp only at HWC
              obtain ⟨L2, y2, a2', z2⟩ := HX9.out.out Hh
              have hbel := z2.bel
              have hlc := z2.last
              rw [HLA.out] at hlc
              have hrl := cell_lt hlc
              obtain ⟨b, off, rfl, hbw, q0, q1, q2, q3, q4⟩ := HWC.out wc hbel
              have hser := hokx.1
              simp only at hser
              clear y2 a2' z2 hokx hz
              cases scan with
              | false =>
                clear hlc hrl
                go_wp2
                go_roundw
                case rel => exact ⟨i + 1, h, r2, s2, by go_num, HI1.out, HX9.out, HSM.out, HRB.out, HRT.out, HLA.out⟩
                case measure => have := HI1.out; simp [intOf]; omega
              | true =>
                obtain ⟨q, hq⟩ : ∃ q, q = ser % (N + 1) := ⟨_, rfl⟩
                obtain ⟨D, hDN⟩ : ∃ D, D = N + 1 := ⟨_, rfl⟩
                have hadd : (N : Int) + 1 = (D : Int) := by omega
                have hrem : (ser : Int).tmod (D : Int) = (q : Int) := by rw [hq, hDN]; rfl
                have hrem2 : (ser : Int) % (D : Int) = (q : Int) := by rw [hq, hDN]; rfl
                have hq64 : q < 18446744073709551616 := by have := Nat.mod_le ser (N + 1); omega
                have hne : ((D : Int) == 0) = false := by rw [beq_eq_false_iff_ne]; omega
                have hne2 : ¬ (D : Int) = 0 := by omega
                have hwA : IntKind.u64.wrap ((N : Int) + 1) = (D : Int) := by rw [IntKind.wrap_u64]; omega
                have hwB : ((N : Int) + 1) % 18446744073709551616 = (D : Int) := by omega
                have HQ64 : Hid (q < 18446744073709551616) := hidden hq64
                have HHh : Hid _ := hidden Hh
                have P0 : ∀ k, (wc.drewN k).cell? ⟨b, off + i * 5, none⟩ = some (.int .u64 (ser : Int)) := fun _ => q0
                have P1 : ∀ k, (wc.drewN k).cell? ⟨rb, 2, none⟩ = some (.int .u64 (N : Int)) := fun _ => hlc
                have HWD : Hid (∀ W, Below wA.heap.size wA W → b < W.heap.size ∧ W.cell? ⟨b, off + i * 5 + 2, none⟩ = some (.int .i64 xn) ∧ W.cell? ⟨b, off + i * 5 + 3, none⟩ = some (.int .u64 (xs' : Int))) := fun W hB => by
                  obtain ⟨b', off', e, h1, _, _, h4, h5, _⟩ := HWC.out W hB
                  cases e
                  exact ⟨h1, h4, h5⟩
                clear hq64 hser hq hDN hadd HWC Hh
                go_upto_region 22 with fail
                go_cut [18] from 99 to 109 (fun t wt => t = .int .u64 (q : Int) ∧ Below wc.heap.size wc wt)
                case first =>
                  clear HQ64 HWD HX9 HSM HRB HRT HLA HHh HI1 HNM hbel
                  go_quiet (fail)
                  go_wp2
                  go_meet
                  exact ⟨rfl, below_drewN0 _ _⟩
                case rest =>
                  obtain ⟨rfl, bc⟩ := hcut
                  clear q0 q1 q2 q3 q4 hbw hlc hrl hrem hrem2 hwA hwB hne hne2 P0 P1 hbel
                  obtain ⟨wB, hwB⟩ : ∃ z, z = wc := ⟨_, rfl⟩
                  subst hwB
                  have x10 := HX9.out.read HHh.out bc
                  clear bc HX9
                  have HX10 : Hid _ := hidden x10
                  obtain ⟨_, _, _, z10⟩ := x10.out HHh.out
                  obtain ⟨hbw, q2, q3⟩ := HWD.out _ z10.bel
                  clear x10 z10
                  have hS1 := HX10.out.host (S' := QS wA wA.heap.size yb hb rb pb qb (h.setRefS q 0 (xn, xs')) h p s2) (fun X' y => y.hgo (fun F hp => hp.setRef q HQ64.out 0 xn xs'))
                  clear HX10
                  go_wp2_with fail
                  refine hS1.mono ?_
                  rintro e w11 ⟨rfl, x11, k11⟩
                  have Hh2 := hos_qs2 wA wA.heap.size yb hb rb pb qb (h.setRefS q 0 (xn, xs')) h p s2
                  obtain ⟨_, _, _, z11⟩ := x11.out Hh2
                  clear hS1 q2 q3 hbw k11
                  obtain ⟨hbw, q2, q3⟩ := HWD.out _ z11.bel
                  clear z11
                  have hS2 := x11.host (S' := QS wA wA.heap.size yb hb rb pb qb (h.setRefS q 0 (xn, xs')) (h.setRefS q 0 (xn, xs')) p s2) (fun X' y => y.rgo (fun F hp => hp.setRef q 0 xn xs'))
                  have HRT' : Hid (RightH (h.setRefS q 0 (xn, xs'))) := HRT.out.set q 0 (xn, xs')
                  have HLA' : Hid ((h.setRefS q 0 (xn, xs')).last = N) := by
                    have e : (h.setRefS q 0 (xn, xs')).last = N := (set_last h q 0 (xn, xs')).trans HLA.out
                    exact e
                  generalize h.setRefS q 0 (xn, xs') = h' at *
                  generalize h.setRefR q 0 (xn, xs') = R at *
                  clear x11 Hh2 HRT HLA HHh HWD HQ64
                  go_wp2_with fail
                  refine hS2.mono ?_
                  rintro e w12 ⟨rfl, x12, k12⟩
                  have HX12 : Hid _ := hidden x12
                  clear hS2 q2 q3 hbw x12 k12
                  go_wp2
                  go_roundw
                  case rel => exact ⟨i + 1, h', r2, s2, by go_num, HI1.out, HX12.out, HSM.out, HRB.out, HRT'.out, HLA'.out⟩
                  case measure => have := HI1.out; simp [intOf]; omega
            · have hzi : ¬ (i : Int) < (zs.length : Int) := by omega
              clear hz
              go_wp2
              go_roundw
              case rel => exact ⟨i + 1, h, r2, s2, by go_num, HI1.out, HX9.out, HSM.out, HRB.out, HRT.out, HLA.out⟩
              case measure => have := HI1.out; simp [intOf]; omega
      · have HX : Hid _ := hidden x
        have HS : Hid _ := hidden hsim
        have HRB : Hid _ := hidden (hrb.mono (m := 14007) (by omega))
        clear x hsim hrb hrt hlast
        go_wp2
        go_meet
        exact ⟨h, r, s, HX.out, HS.out, HRB.out⟩
  case rest =>
    obtain ⟨h, r, s, x, hsim, hrb⟩ := hcut
    have hRo := x.rows hrb (by omega)
    have HX : Hid _ := hidden x
    have HSM : Hid _ := hidden hsim
    have HRB : Hid _ := hidden hrb
    clear x hsim hrb HX7 HRT HLA HRT0 HLA0 H
    go_wp2_with fail
    refine hRo.mono ?_
    rintro e w8 ⟨v8, ts, rfl, hrl, hts, b8⟩
    obtain ⟨ao, c, rfl, hc1, hc2, _⟩ := hrl.at
    have HSC : Hid _ := hidden (Scr.start hrl)
    have HNT : Hid (ts.length ≤ 14007 ∧ ∀ i (hi : i < ts.length), ts[i].1.2.length ≤ 1000000 ∧ ∃ oa oc, ts[i].2 = .slice oa ts[i].1.2.length oc ∧ ts[i].1.2.length ≤ oc ∧ oc ≤ maxLen) := by
      have e : ts.length ≤ 14007 ∧ ∀ i (hi : i < ts.length), ts[i].1.2.length ≤ 1000000 ∧ ∃ oa oc, ts[i].2 = .slice oa ts[i].1.2.length oc ∧ ts[i].1.2.length ≤ oc ∧ oc ≤ maxLen := by
        refine ⟨?_, fun i hi => ⟨?_, ?_⟩⟩
        · have h1 := HRB.out.el
          have h2 := congrArg List.length hts
          rw [List.length_map] at h2
          omega
        · have h1 := (HRB.out.eo ts[i].1 (by rw [← hts]; exact List.mem_map_of_mem (List.getElem_mem hi))).2
          omega
        · obtain ⟨oa, oc, h1, h2, h3, _⟩ := (hrl.sr _ (List.getElem_mem hi)).slice
          exact ⟨oa, oc, h1, h2, h3⟩
      exact e
    have HHh : Hid _ := hidden (hos_qs wA wA.heap.size yb hb rb pb qb h p s)
    have hle8 : wA.heap.size ≤ wc.heap.size := by
      obtain ⟨_, _, _, z⟩ := HX.out.out HHh.out
      exact z.le
    have x8 := HX.out.grow HHh.out b8
    have HX8 : Hid _ := hidden (fun W (S : Scr wc.heap.size w8 W ao ts) => x8.other HHh.out S.kept (fun k e => ⟨Or.inr e, Nat.le_trans hle8 e.1⟩))
    have hN7 : ts.length ≤ 14007 := HNT.out.1
    clear hrl hts b8 hRo HWZ HRW2 HL2 HZ5 x8 hle8 HX
    obtain ⟨B8, hB8⟩ : ∃ z, z = wc.heap.size := ⟨_, rfl⟩
    rw [← hB8] at HSC HX8
    clear hB8
    go_upto_block 2 with fail
    go_cut [20, 21] from 128 to 155 (fun _ _ wt => Scr B8 w8 wt ao ts)
    case first =>
      go_wp2
      go_loopw [20, 21] (fun tt _ wr => ∃ i : Nat, tt = .int .i64 (i : Int) ∧ i ≤ ts.length ∧ Scr B8 w8 wr ao ts) (fun tt _ _ => ts.length - (intOf tt).toNat)
      case atStart => exact ⟨0, rfl, Nat.zero_le _, HSC.out⟩
      case round =>
        clear HX8 HHh HSM HRB HSC HBA HNM
        obtain ⟨i, rfl, hi, S⟩ := hrel
        by_cases hlt : (i : Int) < (ts.length : Int)
        · have hit : i < ts.length := by omega
          obtain ⟨g3, l3, rfl, hg1, hg2, r3, hl3, hl4⟩ := S.ls i hit
          have c0 := r3.cell (i * 2) hl3
          have f0 := r3.frozen (i * 2)
          have hg3 := r3.lt
          generalize l3[i * 2] = u0 at c0
          have HS1 : Hid _ := hidden (S.inn i hit (.int .u64 77))
          have HI : Hid (i + 1 ≤ ts.length) := by
            have e : i + 1 ≤ ts.length := by omega
            exact e
          obtain ⟨ho1, oa, oc, ho2, ho3, ho4⟩ := HNT.out.2 i hit
          obtain ⟨m, hm⟩ : ∃ m, m = (ts[i]'hit).1.2.length := ⟨_, rfl⟩
          have ho2 : (ts[i]'hit).2 = .slice oa m oc := by subst hm; exact ho2
          have ho3 : m ≤ oc := by subst hm; exact ho3
          have ho1 : m ≤ 1000000 := by subst hm; exact ho1
          clear S r3 hl3 hl4 hg1 hg2 l3
          go_upto_block 3 with fail
          go_cut [21] from 134 to 155 (fun _ wt => Scr B8 w8 wt (some ⟨g3, 0, none⟩) ts)
          case first =>
            go_wp2
            go_loopw [21] (fun kk wr => ∃ k : Nat, kk = .int .i64 (k : Int) ∧ k ≤ m ∧ Scr B8 w8 wr (some ⟨g3, 0, none⟩) ts) (fun kk _ => m - (intOf kk).toNat)
            case atStart => exact ⟨0, rfl, Nat.zero_le _, HS1.out⟩
            case round =>
              clear HS1 HI c0 f0 hg3
              obtain ⟨k, rfl, hk, S⟩ := hrel
              obtain ⟨g4, l4, he4, _, _, r4, hl5, hl6⟩ := S.ls i hit
              cases he4
              have c1 := (r4.at (i * 2 + 1) _ hl6).trans (congrArg some ho2)
              have hg4 := r4.lt
              by_cases hkm : (k : Int) < (m : Int)
              · have hkt : k < (ts[i]'hit).1.2.length := by omega
                obtain ⟨g5, c5, l5, hv5, _, _, hne5, r5, hl7⟩ := S.os i hit k hkt
                have hv5 : (ts[i]'hit).2 = .slice (some ⟨g5, 0, none⟩) m c5 := by subst hm; exact hv5
                have hv6 := ho2.symm.trans hv5
                cases hv6
                have d0 := r5.cell (k * 2) (by omega)
                have d1 := r5.cell (k * 2 + 1) hl7
                have e0 := r5.frozen (k * 2)
                have e1 := r5.frozen (k * 2 + 1)
                have hg5 := r5.lt
                generalize l5[k * 2] = y0 at d0
                generalize l5[k * 2 + 1] = y1 at d1
                have HS2 : Hid _ := hidden ((S.out i hit k hkt ho2 (k * 2) (.int .i64 0)).out i hit k hkt ho2 (k * 2 + 1) (.int .u64 0))
                have HK : Hid (k + 1 ≤ m) := by
                  have e : k + 1 ≤ m := by omega
                  exact e
                clear S r4 r5 hl5 hl6 hl7 hne5 hv5 l4 l5 ho2
                go_wp2
                go_roundw
                case rel => exact ⟨k + 1, by go_num, HK.out, HS2.out⟩
                case measure => have := HK.out; simp [intOf]; omega
              · have HS2 : Hid _ := hidden S
                clear S r4 hl5 hl6 l4
                go_wp2
                go_meet
                exact HS2.out
          case rest =>
            have HS3 : Hid _ := hidden hcut
            clear hcut HS1 c0 f0 ho2
            go_wp2
            go_roundw
            case rel => exact ⟨i + 1, by go_num, HI.out, HS3.out⟩
            case measure => have := HI.out; simp [intOf]; omega
        · have HS2 : Hid _ := hidden S
          clear S
          go_wp2
          go_meet
          exact HS2.out
    case rest =>
      have x9 := (HX8.out _ hcut).read HHh.out (below_drew0 wc)
      obtain ⟨rv, ts2, c2, hrl2, hts2, hyl⟩ := x9.qbox
      have hRo := x9.rows HRB.out (by omega)
      have HX9 : Hid _ := hidden x9
      have HRL2 : Hid _ := hidden hrl2
      obtain ⟨ro2, rc2, hrv2, _⟩ := own_slice hrl2.ow
      subst hrv2
      clear x9 hrl2 HX8 HSC HNT hcut
      go_upto_region 34 with fail
      go_region_with (first
        | (go_at_call 14; refine hRo.mono ?_; rintro e wa ⟨v9, ts8, rfl, hrl8, hts8, b8⟩; have c8 := (b8.cell (p := ⟨yb, 2, none⟩) hyl).trans c2; have hyl8 : yb < wa.heap.size := Nat.lt_of_lt_of_le hyl b8.size; have HRL8 : Hid _ := hidden hrl8; have HB8 : Hid _ := hidden b8; clear hrl8 b8)
        | (go_at_call 13; refine (rowsEq_any ts8 ts2 _ _ _ _ _ HRL8.out (HRL2.out.below HB8.out) (by rw [hts8, hts2, HSM.out.ended])).mono ?_; rintro e wb ⟨rfl, b9⟩; have HBF : Hid _ := hidden (show Below wA.heap.size wA wb from by (obtain ⟨_, _, _, z⟩ := (((HX9.out.read HHh.out HB8.out).read HHh.out b9).out HHh.out); exact z.bel)); clear b9))
      all_goals
        go_wp2
        go_ret
        exact ⟨rfl, HBA.out _ HBF.out⟩
end Go.Proofs.YtlabdbfmfejkaaaGreatDoor
