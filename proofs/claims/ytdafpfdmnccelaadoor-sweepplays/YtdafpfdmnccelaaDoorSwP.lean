/- SweepPlays, walked. -/
import Derived.Test.YtdafpfdmnccelaaDoorSwAP
import Derived.Test.YtdafpfdmnccelaaDoorSwSP
import Derived.Test.YtdafpfdmnccelaaDoorSwK
import Derived.Test.YtdafpfdmnccelaaDoorPick
namespace Go.Proofs.YtdafpfdmnccelaaDoor
open Go.RowKit

theorem PK.mono {h : HSt} {p : PSt} {i j : Nat} (K : PK h p i) (e : i ≤ j) : PK h p j := ⟨K.pi.mono (by omega), by have := K.tu; omega, by have := K.la; omega, K.st⟩
/-- What a round keeps, of the sweep's statement. -/
structure SwI (h : HSt) (p : PSt) (i pl en : Nat) : Prop where
  pk : PK h p i
  pl : pl ≤ 72057594037927935
  en : en ≤ 72057594037927935
theorem SwI.step {h : HSt} {p : PSt} {i pl en : Nat} (K : SwI h p i pl en) (ok : h.Ok)   : SwI (swH h p pl en) (swP h p pl en) (i + 2) (swL h pl en) en := by
  have hL : swL h pl en ≤ 72057594037927935 := by
    unfold swL
    split
    · exact nextR_le ok pl
    · exact K.pl
  refine ⟨?_, hL, K.en⟩
  unfold swH swP
  split
  · exact (K.pk.free _).forget _
  · exact K.pk.stay.stay
set_option maxRecDepth 20000 in
set_option maxHeartbeats 4000000 in
theorem sweepPlays_any {w : World} {vm vl : Value} {ms : List Nat} {xs : List StepS} (n0 : Int) (hT : TB w) (hm : WS w vm 1 cW ms) (hmR : ∀ z ∈ ms, z < 18446744073709551616) (hl : WS w vl 2 cStepS xs) (hR : ∀ x ∈ xs, x.ser < 18446744073709551616) :
    Calls Tryd.prog 4 #[.int .i64 n0, vm, vl] w fun e w' => e = .returned (.bool true) ∧ Below w.heap.size w w' := by
  obtain ⟨aom, capm, rfl, _, _⟩ := hm.slice
  obtain ⟨ao, cap, rfl, _, _⟩ := hl.slice
  have hP := fun W => pick_any n0 30 (by omega) (by omega) W
  have hn30 := pickN_lt n0 30 (by omega)
  generalize pickN n0 30 = n at *
  have hMk := make_nils n (by omega)
  obtain ⟨wA, hwA⟩ : ∃ z, z = w.alloc (.cells (Array.replicate n (Value.slice none 0 0)) 27) := ⟨_, rfl⟩
  have hbA : Below w.heap.size w wA := by rw [hwA]; exact bel_alloc w _
  have hTA : TB wA := hT.below hbA
  have hGI : GI wA (.slice (some ⟨w.heap.size, 0, none⟩) n n) (.slice none 0 0) (.slice none 0 0) (nilG n) := nilG_gi (by omega) (fun i hi => by rw [hwA]; exact nils_cell hi (Below.refl _ _))
  have hHp := heaps_at hGI hTA 30 (by omega)
  rw [nilG_len n 30 (by omega)] at hHp
  have HWM : Hid _ := hidden hm
  have HMR : Hid _ := hidden hmR
  have HWL : Hid _ := hidden hl
  have HLR : Hid _ := hidden hR
  have HN : Hid (n < 30) := hn30
  clear hm hmR hl hR hT hGI
  have hNw := fun hb B W (hB : B ≤ W.heap.size) => pnew_ok hb B 3 (by omega) (by omega) W hB
  have hNq := fun rb B W (hB : B ≤ W.heap.size) => rnewp_any 3 (by omega) (by omega) rb B W hB
  go_enter Tryd.func4, Tryd.ntmps4
  go_wp2_with fail
  refine (hP _).mono ?_
  rintro e _ ⟨rfl, rfl⟩
  clear hP
  go_wp2_with fail
  rw [← hwA]
  refine hHp.mono ?_
  rintro e w1 ⟨hb, rb, h, rfl, y1, m1⟩
  have HK0 : Hid (PK h (PSt.new 3) 0) := PK.new 3 (by have := m1.last; have := HN.out; omega)
  have HL0 : Hid (h.last ≤ 30) := by have e : h.last ≤ 30 := by have := m1.last; have := HN.out; omega
                                     exact e
  clear hHp hMk m1
  go_wp2_with fail
  refine (sknown_any _ (hTA.below (y1.bel.mono (Nat.le_refl _)))).mono ?_
  rintro e w2 ⟨rfl, b2⟩
  have y2 := y1.read b2
  clear y1 b2
  go_wp2_with fail
  refine (hNw _ wA.heap.size _ y2.le).mono ?_
  rintro e w3 ⟨pb, G, rfl, pn, hG, b3⟩
  have hLa := fun o : Obj => (y2.read (b3.trans ((bel_alloc w3 o).mono b3.size))).hlast
  clear hNw
  go_wp2_with fail
  refine (snew_sw hLa).mono ?_
  rintro e w4 ⟨rfl, r4, b4⟩
  clear hLa
  go_wp2_with fail
  refine (hNq rb wA.heap.size _ (Nat.le_trans (Nat.le_trans y2.le b3.size) b4.size)).mono ?_
  rintro e w5 ⟨rfl, q5, b5⟩
  have hs34 : w3.heap.size < w4.heap.size := Row.lt r4
  have z5 := (y2.p4x pn hG b3 b4 q5 b5).off (fun k => k = w3.heap.size) (fun k e => by omega)
  have r5 : SwB w5 w3.heap.size hb pb 0 h.last := Row.below r4 b5
  have hsB : wA.heap.size ≤ w3.heap.size := Nat.le_trans y2.le b3.size
  have hs35 : w3.heap.size < w5.heap.size := Nat.lt_of_lt_of_le hs34 b5.size
  clear hNq y2 pn hG b3 b4 q5 b5 r4 hs34
  generalize w3.heap.size = sb at *
  generalize w4.heap.size = qb at *
  obtain ⟨w6, hw6⟩ : ∃ z, z = w5.alloc (.cells #[.pointer (some ⟨rb, 0, none⟩), .pointer (some ⟨qb, 0, none⟩), .int .u64 0, .int .u64 0] 49) := ⟨_, rfl⟩
  have HZ6 : Hid (P4 wA wA.heap.size w6 hb rb pb qb h h (PSt.new 3) (PSt.new 3) (fun k => k = sb ∨ k = w5.heap.size)) := by rw [hw6]; exact hidden (z5.box _)
  have HS6 : Hid (SwB w6 sb hb pb 0 h.last) := by rw [hw6]; exact hidden (Row.below r5 (bel_alloc w5 _))
  have HR6 : Hid (RwB w6 w5.heap.size rb qb 0 0) := by rw [hw6]; exact hidden (heap_alloc_new w5 _)
  have HBd : Hid (wA.heap.size ≤ sb ∧ wA.heap.size ≤ w5.heap.size ∧ sb ≠ w5.heap.size) := ⟨hsB, z5.le, by omega⟩
  have HWA : Hid (∀ W : World, Below wA.heap.size wA W → Below w.heap.size w W) := fun W hB => hbA.trans (hB.mono hbA.size)
  clear z5 r5 hsB hs35 hTA hbA hwA
  go_upto_block 0 with fail
  rw [← hw6]
  generalize w5.heap.size = wb at *
  clear hw6
  go_cut [15, 16] from 73 to 98 (fun _ _ wc => ∃ p, PK h p 40 ∧ P4 wA wA.heap.size wc hb rb pb qb h h p p (fun k => k = sb ∨ k = wb) ∧ SwB wc sb hb pb 0 h.last ∧ RwB wc wb rb qb 0 0)
  case first =>
    go_wp2
    go_loopw [15, 16] (fun t _ wr => ∃ (i : Nat) (p : PSt), i ≤ 40 ∧ t = .int .i64 (i : Int) ∧ PK h p i ∧ P4 wA wA.heap.size wr hb rb pb qb h h p p (fun k => k = sb ∨ k = wb) ∧ SwB wr sb hb pb 0 h.last ∧ RwB wr wb rb qb 0 0) (fun t _ _ => 40 - (intOf t).toNat)
    case atStart => exact ⟨0, _, by omega, rfl, HK0.out, HZ6.out, HS6.out, HR6.out⟩
    case round =>
      clear HZ6 HS6 HR6 HK0
      obtain ⟨i, p, hi, rfl, K, z, rs, rr⟩ := hrel
      by_cases hlt : i < ms.length ∧ i < 40
      · obtain ⟨hl1, hl2⟩ := hlt
        have hws := HWM.out.below (w' := wr) (HWA.out _ z.bel)
        obtain ⟨b, off, rfl, hbw, q0⟩ := hws.word i hl1
        have hzr := HMR.out _ (List.getElem_mem hl1)
        have hlti : (i : Int) < (ms.length : Int) := by omega
        have hlt40 : (i : Int) < 40 := by omega
        generalize ms[i] = z0 at *
        obtain ⟨D, hD⟩ : ∃ D, D = n + 1 := ⟨_, rfl⟩
        have hwc : IntKind.u64.wrap ((n : Int) + 1) = (D : Int) := by rw [IntKind.wrap_u64]; omega
        have hne : ((D : Int) == 0) = false := by rw [beq_eq_false_iff_ne]; omega
        have hne2 : ¬ (D : Int) = 0 := by omega
        obtain ⟨q, hq⟩ : ∃ q, q = z0 % D := ⟨_, rfl⟩
        have hrem : (z0 : Int).tmod (D : Int) = (q : Int) := by rw [hq]; rfl
        have hrem2 : (z0 : Int) % (D : Int) = (q : Int) := by rw [hq]; rfl
        have HZ : Hid _ := hidden z
        have HS : Hid _ := hidden rs
        have HR : Hid _ := hidden rr
        have HK : Hid _ := hidden K
        have HL : Hid (i + 1 ≤ 40) := hl2
        clear z rs rr K hws hl1 hl2 hi hq hzr
        go_upto_region 15 with fail
        have hq3 : (z0 : Int) % ((n : Int) + 1) = (q : Int) := by rw [show ((n : Int) + 1) = (D : Int) by omega]; exact hrem2
        rw [hq3]
        clear hq3 hrem hrem2 hne hne2 hwc hD q0 hbw
        have hX7 : ∀ k : Nat, (k = sb ∨ k = wb) ∨ k = wr.heap.size → (k = sb ∨ k = wb) ∨ k = wr.heap.size := fun _ e => e
        obtain ⟨w7, hw7⟩ : ∃ z, z = wr.alloc (.cells #[.int .i64 1, .int .u64 (q : Int)] 51) := ⟨_, rfl⟩
        have z7 : P4 wA wA.heap.size w7 hb rb pb qb h h p p (fun k => (k = sb ∨ k = wb) ∨ k = wr.heap.size) := by rw [hw7]; exact HZ.out.box _
        have r7 : Row w7 wr.heap.size 51 [.int .i64 1, .int .u64 (q : Int)] := by rw [hw7]; exact heap_alloc_new wr _
        have HS7 : Hid (SwB w7 sb hb pb 0 h.last) := by rw [hw7]; exact hidden (Row.below HS.out (bel_alloc wr _))
        have HR7 : Hid (RwB w7 wb rb qb 0 0) := by rw [hw7]; exact hidden (Row.below HR.out (bel_alloc wr _))
        have hH := z7.shade 1 q 1
        have HK' : Hid (PK h (p.shade h (1, q) 1) (i + 1)) := HK.out.shade z7.okh (1, q) 1
        have hRS := fun W (y : P4 wA wA.heap.size W hb rb pb qb h h (p.shade h (1, q) 1) p (fun k => (k = sb ∨ k = wb) ∨ k = wr.heap.size)) => y.rshade HK.out.pi (by have := HL.out; omega) 1 q 1
        have c0 : w7.cell? ⟨wr.heap.size, 0, none⟩ = some (.int .i64 1) := r7.cell 0 (by simp)
        have c1 : w7.cell? ⟨wr.heap.size, 1, none⟩ = some (.int .u64 (q : Int)) := r7.cell 1 (by simp)
        have hl7 := r7.lt
        have HG : Hid _ := hidden r7
        rw [← hw7]
        generalize wr.heap.size = g at *
        clear z7 r7 hX7 hw7 HZ HS HR HK
        generalize (p.shade h (1, q) 1) = p' at *
        go_wp2_with fail
        refine hH.mono ?_
        rintro e w8 ⟨rfl, z8, k8⟩
        have r8 := its_row k8 (Or.inr rfl) HG.out
        have HS8 : Hid (SwB w8 sb hb pb 0 h.last) := its_row k8 (Or.inl (Or.inl rfl)) HS7.out
        have HR8 : Hid (RwB w8 wb rb qb 0 0) := its_row k8 (Or.inl (Or.inr rfl)) HR7.out
        have hR8 := hRS _ z8
        clear c0 c1 hl7 hH hRS z8 k8 HG HS7 HR7
        have c0 : w8.cell? ⟨g, 0, none⟩ = some (.int .i64 1) := r8.cell 0 (by simp)
        have c1 : w8.cell? ⟨g, 1, none⟩ = some (.int .u64 (q : Int)) := r8.cell 1 (by simp)
        have hl8 := r8.lt
        clear r8
        go_wp2_with fail
        refine hR8.mono ?_
        rintro e w9 ⟨rfl, z9, k9⟩
        have HS9 : Hid (SwB w9 sb hb pb 0 h.last) := its_row k9 (Or.inl (Or.inl rfl)) HS8.out
        have HR9 : Hid (RwB w9 wb rb qb 0 0) := its_row k9 (Or.inl (Or.inr rfl)) HR8.out
        have HZ9 : Hid _ := hidden (z9.off (fun k => k = sb ∨ k = wb) (fun k e => Or.inl e))
        clear hR8 z9 k9 c0 c1 hl8 HS8 HR8
        go_wp2
        go_roundw
        case rel => exact ⟨i + 1, p', HL.out, by go_num, HK'.out, HZ9.out, HS9.out, HR9.out⟩
        case measure => have := HL.out; simp [intOf]; omega
      · have HZ : Hid _ := hidden z
        have HS : Hid _ := hidden rs
        have HR : Hid _ := hidden rr
        have HK : Hid (PK h p 40) := hidden (K.mono hi)
        have hex : (¬ (i : Int) < (ms.length : Int)) ∨ ((i : Int) < (ms.length : Int) ∧ ¬ (i : Int) < 40) := by omega
        clear z rs rr K hlt hi
        rcases hex with hx | ⟨hx1, hx2⟩
        all_goals
          go_wp2
          go_meet
          exact ⟨p, HK.out, HZ.out, HS.out, HR.out⟩
  case rest =>
    obtain ⟨p, K, z, rs, rr⟩ := hcut
    obtain ⟨w7, hw7⟩ : ∃ x, x = wc := ⟨_, rfl⟩
    subst hw7
    clear HZ6 HS6 HR6 HK0
    have hB1 := sbegin_at z.hlast rs
    have hX1 : ∀ k, k = sb → (k = sb ∨ k = wb) ∧ wA.heap.size ≤ k := fun k e => ⟨Or.inl e, by rw [e]; exact HBd.out.1⟩
    have hB2 := fun W (y : P4 wA wA.heap.size W hb rb pb qb h h p p (fun k => k = sb ∨ k = wb)) (rW : RwB W wb rb qb 0 0) => rsbegin_any y (Or.inr rfl) HBd.out.2.1 rW
    have HZ : Hid _ := hidden z
    have HR : Hid _ := hidden rr
    have HK : Hid _ := hidden K
    have hKE : ∀ {a b : World} {S : Nat → Prop}, Kept a b S → (∀ k, S k → k = sb) → Kept a b (fun k => k = sb) := fun k e => k.mono (fun i _ a => e i a)
    clear z rs rr K hKE
    go_wp2_with fail
    refine hB1.mono ?_
    rintro e w8 ⟨rfl, r8, k8⟩
    have z8 := HZ.out.other k8 (fun k e => hX1 k e)
    have hr8 : RwB w8 wb rb qb 0 0 := Row.kept HR.out k8 (fun e => HBd.out.2.2 e.symm)
    have hC := hB2 _ z8 hr8
    have HS8 : Hid _ := hidden r8
    clear hB1 hB2 z8 hr8 r8 k8 HZ HR
    go_wp2_with fail
    refine hC.mono ?_
    rintro e w9 ⟨rfl, z9, r9, k9⟩
    have HZ9 : Hid _ := hidden z9
    have HR9 : Hid _ := hidden r9
    have HS9 : Hid (SwB w9 sb hb pb 0 h.last) := Row.kept HS8.out k9 HBd.out.2.2
    have HK9 : Hid (SwI h p 40 0 h.last) := ⟨HK.out, Nat.zero_le _, by have := HL0.out; omega⟩
    clear hC z9 r9 k9 HS8 HK HL0
    go_upto_block 2 with fail
    go_cut [17, 18, 19, 20, 21, 22] from 102 to 192 (fun _ _ _ _ _ _ wc => ∃ h p, P4 wA wA.heap.size wc hb rb pb qb h h p p (fun k => k = sb ∨ k = wb))
    case first =>
      go_wp2
      go_loopw [17, 18, 19, 20, 21, 22] (fun t _ _ _ _ _ wr => ∃ (i : Nat) (h : HSt) (p : PSt) (pl en : Nat), i ≤ 200 ∧ t = .int .i64 (i : Int) ∧ SwI h p (40 + 2 * i) pl en ∧ P4 wA wA.heap.size wr hb rb pb qb h h p p (fun k => k = sb ∨ k = wb) ∧ SwB wr sb hb pb pl en ∧ RwB wr wb rb qb pl en) (fun t _ _ _ _ _ _ => 200 - (intOf t).toNat)
      case atStart => exact ⟨0, h, p, 0, h.last, by omega, rfl, HK9.out, HZ9.out, HS9.out, HR9.out⟩
      case round =>
        clear HZ9 HS9 HR9 HK9
        obtain ⟨i, h, p, pl, en, hi, rfl, K, z, rs, rr⟩ := hrel
        by_cases hlt : i < xs.length ∧ i < 200
        · obtain ⟨hl1, hl2⟩ := hlt
          have hws := HWL.out.below (w' := wr) (HWA.out _ z.bel)
          obtain ⟨b, off, rfl, hbw, q0, q1⟩ := hws.stepS i hl1
          have hokx := HLR.out _ (List.getElem_mem hl1)
          have hlti : (i : Int) < (xs.length : Int) := by omega
          have hlt200 : (i : Int) < 200 := by omega
          generalize xs[i] = st at *
          obtain ⟨what, ser⟩ := st
          simp only at q0 q1 hokx
          have hc := z.last
          have hrl := cell_lt hc
          obtain ⟨N, hN⟩ : ∃ N, N = h.last := ⟨_, rfl⟩
          rw [← hN] at hc
          have hN2 : N ≤ 1000 := by have := K.pk.la; omega
          obtain ⟨q, hq⟩ : ∃ q, q = ser % (N + 2) := ⟨_, rfl⟩
          obtain ⟨D, hDN⟩ : ∃ D, D = N + 2 := ⟨_, rfl⟩
          have HQ64 : Hid (q < 18446744073709551616) := by
            have e : q < 18446744073709551616 := by have := Nat.mod_le ser (N + 2); omega
            exact e
          have hadd : (N : Int) + 2 = (D : Int) := by omega
          have hrem : (ser : Int).tmod (D : Int) = (q : Int) := by rw [hq, hDN]; rfl
          have hrem2 : (ser : Int) % (D : Int) = (q : Int) := by rw [hq, hDN]; rfl
          have hne : ((D : Int) == 0) = false := by rw [beq_eq_false_iff_ne]; omega
          have hne2 : ¬ (D : Int) = 0 := by omega
          have hne3 : ¬ D = 0 := by omega
          have hwA : IntKind.u64.wrap ((N : Int) + 2) = (D : Int) := by rw [IntKind.wrap_u64]; omega
          have hwB : ((N : Int) + 2) % 18446744073709551616 = (D : Int) := by omega
          have hdr : Below wr.heap.size wr wr.drew := ⟨rfl, rfl, rfl, Nat.le_refl _, fun _ _ => rfl⟩
          have HZ : Hid _ := hidden z
          have HS : Hid _ := hidden rs
          have HR : Hid _ := hidden rr
          have HK : Hid _ := hidden K
          have HL : Hid (i + 1 ≤ 200) := hl2
          clear z rs rr K hws hl1 hl2 hi hq hDN hN2 hN hadd hokx
          go_upto_region 22 with fail
          go_cut [18] from 112 to 123 (fun t wc => t = .int .u64 (q : Int) ∧ Below wr.heap.size wr wc)
          case first =>
            go_region
            all_goals
              go_wp2
              go_meet
              exact ⟨rfl, hdr⟩
          case rest =>
            obtain ⟨rfl, b1⟩ := hcut
            obtain ⟨w1, hw1⟩ : ∃ x, x = wc := ⟨_, rfl⟩
            subst hw1
            have c0 : w1.cell? ⟨b, off + i * 2, none⟩ = some (.int .i64 what) := (b1.cell (p := ⟨b, off + i * 2, none⟩) hbw).trans q0
            have c1 : w1.cell? ⟨b, off + i * 2 + 1, none⟩ = some (.int .u64 (ser : Int)) := (b1.cell (p := ⟨b, off + i * 2 + 1, none⟩) hbw).trans q1
            have hb1 : b < w1.heap.size := Nat.lt_of_lt_of_le hbw b1.size
            have HZ1 : Hid _ := hidden (HZ.out.read b1)
            have HS1 : Hid (SwB w1 sb hb pb pl en) := Row.below HS.out b1
            have HR1 : Hid (RwB w1 wb rb qb pl en) := Row.below HR.out b1
            have hP := fun W => pick_any what 8 (by omega) (by omega) W
            have hk8 := pickN_lt what 8 (by omega)
            generalize pickN what 8 = k at *
            clear q0 q1 hbw b1 HZ HS HR hdr hrem hrem2 hne hne2 hne3 hwA hwB hc hrl
            go_upto_block 4 with (go_at_call 11; refine (hP _).mono ?_; rintro e _ ⟨rfl, rfl⟩)
            clear hP
            go_cut [19, 20, 21, 22] from 129 to 184 (fun _ _ _ _ wc => ∃ (h' : HSt) (p' : PSt) (pl' en' : Nat), SwI h' p' (40 + 2 * (i + 1)) pl' en' ∧ P4 wA wA.heap.size wc hb rb pb qb h' h' p' p' (fun k => k = sb ∨ k = wb) ∧ SwB wc sb hb pb pl' en' ∧ RwB wc wb rb qb pl' en')
            case first =>
              have hcase : k = 0 ∨ k = 1 ∨ k = 2 ∨ k = 3 ∨ k = 4 ∨ k = 5 ∨ k = 6 ∨ k = 7 := by omega
              have HXs : Hid (∀ k, Its wA.heap.size (fun k => k = sb ∨ k = wb) k → k ≠ sb ∧ k ≠ wb) := fun k e => ⟨fun a => e.2 (Or.inl a), fun a => e.2 (Or.inr a)⟩
              clear hk8
              rcases hcase with rfl | rfl | rfl | rfl | rfl | rfl | rfl | rfl
              · have hA := sstep_sw (how_p4 (p2 := p) (h2 := h) (X := (fun k => k = sb ∨ k = wb)) (Or.inl rfl) HBd.out.1) HZ1.out HS1.out
                have hB := fun W (y : P4 wA wA.heap.size W hb rb pb qb (swH h p pl en) h (swP h p pl en) p (fun k => k = sb ∨ k = wb)) (rW : RwB W wb rb qb pl en) => rsstep_any y (Or.inr rfl) HBd.out.2.1 rW
                have HK' : Hid (SwI (swH h p pl en) (swP h p pl en) (40 + 2 * (i + 1)) (swL h pl en) en) := HK.out.step HZ1.out.okh
                generalize swH h p pl en = h' at *
                generalize swP h p pl en = p' at *
                generalize swL h pl en = pl' at *
                generalize swR h p pl en = R at *
                obtain ⟨R1, R2⟩ := R
                simp only at hA hB
                have hq1 : ((R1 : Int) == (R1 : Int)) = true := beq_self_eq_true _
                have hq2 : (R2 == R2) = true := beq_self_eq_true _
                go_wp2_with fail
                refine hA.mono ?_
                rintro e w2 ⟨rfl, z2, r2, k2⟩
                have hR2 : RwB w2 wb rb qb pl en := Row.kept HR1.out k2 (fun e => by
                  rcases e with e | e
                  · exact (HXs.out _ e).2 rfl
                  · exact HBd.out.2.2 e.symm)
                have hB2 := hB _ z2 hR2
                have HS2 : Hid _ := hidden r2
                clear hA hB k2 hR2 r2 z2 HZ1 HS1 HR1 c0 c1 hb1
                go_wp2_with fail
                refine hB2.mono ?_
                rintro e w3 ⟨rfl, z3, r3, k3⟩
                have HZ3 : Hid _ := hidden z3
                have HR3 : Hid _ := hidden r3
                have HS3 : Hid (SwB w3 sb hb pb pl' en) := Row.kept HS2.out k3 (fun e => by
                  rcases e with e | e
                  · exact (HXs.out _ e).1 rfl
                  · exact HBd.out.2.2 e)
                clear hB2 z3 r3 k3 HS2
                go_wp2
                go_meet
                exact ⟨h', p', pl', en, HK'.out, HZ3.out, HS3.out, HR3.out⟩
              · have hA := sstep_sw (how_p4 (p2 := p) (h2 := h) (X := (fun k => k = sb ∨ k = wb)) (Or.inl rfl) HBd.out.1) HZ1.out HS1.out
                have hB := fun W (y : P4 wA wA.heap.size W hb rb pb qb (swH h p pl en) h (swP h p pl en) p (fun k => k = sb ∨ k = wb)) (rW : RwB W wb rb qb pl en) => rsstep_any y (Or.inr rfl) HBd.out.2.1 rW
                have HK' : Hid (SwI (swH h p pl en) (swP h p pl en) (40 + 2 * (i + 1)) (swL h pl en) en) := HK.out.step HZ1.out.okh
                generalize swH h p pl en = h' at *
                generalize swP h p pl en = p' at *
                generalize swL h pl en = pl' at *
                generalize swR h p pl en = R at *
                obtain ⟨R1, R2⟩ := R
                simp only at hA hB
                have hq1 : ((R1 : Int) == (R1 : Int)) = true := beq_self_eq_true _
                have hq2 : (R2 == R2) = true := beq_self_eq_true _
                go_wp2_with fail
                refine hA.mono ?_
                rintro e w2 ⟨rfl, z2, r2, k2⟩
                have hR2 : RwB w2 wb rb qb pl en := Row.kept HR1.out k2 (fun e => by
                  rcases e with e | e
                  · exact (HXs.out _ e).2 rfl
                  · exact HBd.out.2.2 e.symm)
                have hB2 := hB _ z2 hR2
                have HS2 : Hid _ := hidden r2
                clear hA hB k2 hR2 r2 z2 HZ1 HS1 HR1 c0 c1 hb1
                go_wp2_with fail
                refine hB2.mono ?_
                rintro e w3 ⟨rfl, z3, r3, k3⟩
                have HZ3 : Hid _ := hidden z3
                have HR3 : Hid _ := hidden r3
                have HS3 : Hid (SwB w3 sb hb pb pl' en) := Row.kept HS2.out k3 (fun e => by
                  rcases e with e | e
                  · exact (HXs.out _ e).1 rfl
                  · exact HBd.out.2.2 e)
                clear hB2 z3 r3 k3 HS2
                go_wp2
                go_meet
                exact ⟨h', p', pl', en, HK'.out, HZ3.out, HS3.out, HR3.out⟩
              · have hA := sstep_sw (how_p4 (p2 := p) (h2 := h) (X := (fun k => k = sb ∨ k = wb)) (Or.inl rfl) HBd.out.1) HZ1.out HS1.out
                have hB := fun W (y : P4 wA wA.heap.size W hb rb pb qb (swH h p pl en) h (swP h p pl en) p (fun k => k = sb ∨ k = wb)) (rW : RwB W wb rb qb pl en) => rsstep_any y (Or.inr rfl) HBd.out.2.1 rW
                have HK' : Hid (SwI (swH h p pl en) (swP h p pl en) (40 + 2 * (i + 1)) (swL h pl en) en) := HK.out.step HZ1.out.okh
                generalize swH h p pl en = h' at *
                generalize swP h p pl en = p' at *
                generalize swL h pl en = pl' at *
                generalize swR h p pl en = R at *
                obtain ⟨R1, R2⟩ := R
                simp only at hA hB
                have hq1 : ((R1 : Int) == (R1 : Int)) = true := beq_self_eq_true _
                have hq2 : (R2 == R2) = true := beq_self_eq_true _
                go_wp2_with fail
                refine hA.mono ?_
                rintro e w2 ⟨rfl, z2, r2, k2⟩
                have hR2 : RwB w2 wb rb qb pl en := Row.kept HR1.out k2 (fun e => by
                  rcases e with e | e
                  · exact (HXs.out _ e).2 rfl
                  · exact HBd.out.2.2 e.symm)
                have hB2 := hB _ z2 hR2
                have HS2 : Hid _ := hidden r2
                clear hA hB k2 hR2 r2 z2 HZ1 HS1 HR1 c0 c1 hb1
                go_wp2_with fail
                refine hB2.mono ?_
                rintro e w3 ⟨rfl, z3, r3, k3⟩
                have HZ3 : Hid _ := hidden z3
                have HR3 : Hid _ := hidden r3
                have HS3 : Hid (SwB w3 sb hb pb pl' en) := Row.kept HS2.out k3 (fun e => by
                  rcases e with e | e
                  · exact (HXs.out _ e).1 rfl
                  · exact HBd.out.2.2 e)
                clear hB2 z3 r3 k3 HS2
                go_wp2
                go_meet
                exact ⟨h', p', pl', en, HK'.out, HZ3.out, HS3.out, HR3.out⟩
              · have hA := sstep_sw (how_p4 (p2 := p) (h2 := h) (X := (fun k => k = sb ∨ k = wb)) (Or.inl rfl) HBd.out.1) HZ1.out HS1.out
                have hB := fun W (y : P4 wA wA.heap.size W hb rb pb qb (swH h p pl en) h (swP h p pl en) p (fun k => k = sb ∨ k = wb)) (rW : RwB W wb rb qb pl en) => rsstep_any y (Or.inr rfl) HBd.out.2.1 rW
                have HK' : Hid (SwI (swH h p pl en) (swP h p pl en) (40 + 2 * (i + 1)) (swL h pl en) en) := HK.out.step HZ1.out.okh
                generalize swH h p pl en = h' at *
                generalize swP h p pl en = p' at *
                generalize swL h pl en = pl' at *
                generalize swR h p pl en = R at *
                obtain ⟨R1, R2⟩ := R
                simp only at hA hB
                have hq1 : ((R1 : Int) == (R1 : Int)) = true := beq_self_eq_true _
                have hq2 : (R2 == R2) = true := beq_self_eq_true _
                go_wp2_with fail
                refine hA.mono ?_
                rintro e w2 ⟨rfl, z2, r2, k2⟩
                have hR2 : RwB w2 wb rb qb pl en := Row.kept HR1.out k2 (fun e => by
                  rcases e with e | e
                  · exact (HXs.out _ e).2 rfl
                  · exact HBd.out.2.2 e.symm)
                have hB2 := hB _ z2 hR2
                have HS2 : Hid _ := hidden r2
                clear hA hB k2 hR2 r2 z2 HZ1 HS1 HR1 c0 c1 hb1
                go_wp2_with fail
                refine hB2.mono ?_
                rintro e w3 ⟨rfl, z3, r3, k3⟩
                have HZ3 : Hid _ := hidden z3
                have HR3 : Hid _ := hidden r3
                have HS3 : Hid (SwB w3 sb hb pb pl' en) := Row.kept HS2.out k3 (fun e => by
                  rcases e with e | e
                  · exact (HXs.out _ e).1 rfl
                  · exact HBd.out.2.2 e)
                clear hB2 z3 r3 k3 HS2
                go_wp2
                go_meet
                exact ⟨h', p', pl', en, HK'.out, HZ3.out, HS3.out, HR3.out⟩
              · have hA := HZ1.out.shade 1 q 2
                have hB := fun W (y : P4 wA wA.heap.size W hb rb pb qb h h (p.shade h (1, q) 2) p (fun k => k = sb ∨ k = wb)) => y.rshade HK.out.pk.pi (by have := HL.out; omega) 1 q 2
                have HK' : Hid (SwI h (p.shade h (1, q) 2) (40 + 2 * (i + 1)) pl en) := ⟨(HK.out.pk.shade HZ1.out.okh (1, q) 2).mono (by omega), HK.out.pl, HK.out.en⟩
                generalize (p.shade h (1, q) 2) = p' at *
                go_wp2_with fail
                refine hA.mono ?_
                rintro e w2 ⟨rfl, z2, k2⟩
                have hB2 := hB _ z2
                have HS2 : Hid (SwB w2 sb hb pb pl en) := its_row k2 (Or.inl rfl) HS1.out
                have HR2 : Hid (RwB w2 wb rb qb pl en) := its_row k2 (Or.inr rfl) HR1.out
                clear hA hB z2 k2 HZ1 HS1 HR1 c0 c1 hb1
                go_wp2_with fail
                refine hB2.mono ?_
                rintro e w3 ⟨rfl, z3, k3⟩
                have HZ3 : Hid _ := hidden z3
                have HS3 : Hid (SwB w3 sb hb pb pl en) := its_row k3 (Or.inl rfl) HS2.out
                have HR3 : Hid (RwB w3 wb rb qb pl en) := its_row k3 (Or.inr rfl) HR2.out
                clear hB2 z3 k3 HS2 HR2
                go_wp2
                go_meet
                exact ⟨_, _, pl, en, HK'.out, HZ3.out, HS3.out, HR3.out⟩
              · have hA := HZ1.out.hmake 0 0
                have hB := fun W (y : P4 wA wA.heap.size W hb rb pb qb (h.makeS 0 0) h p p (fun k => k = sb ∨ k = wb)) => y.rmake 0 0
                have HK' : Hid (SwI (h.makeS 0 0) p (40 + 2 * (i + 1)) pl en) := ⟨(HK.out.pk.make 0 0).mono (by omega), HK.out.pl, HK.out.en⟩
                generalize (h.makeS 0 0) = h' at *
                generalize (h.makeR 0 0) = R at *
                go_wp2_with fail
                refine hA.mono ?_
                rintro e w2 ⟨rfl, z2, k2⟩
                have hB2 := hB _ z2
                have HS2 : Hid (SwB w2 sb hb pb pl en) := its_row k2 (Or.inl rfl) HS1.out
                have HR2 : Hid (RwB w2 wb rb qb pl en) := its_row k2 (Or.inr rfl) HR1.out
                clear hA hB z2 k2 HZ1 HS1 HR1 c0 c1 hb1
                go_wp2_with fail
                refine hB2.mono ?_
                rintro e w3 ⟨rfl, z3, k3⟩
                have HZ3 : Hid _ := hidden z3
                have HS3 : Hid (SwB w3 sb hb pb pl en) := its_row k3 (Or.inl rfl) HS2.out
                have HR3 : Hid (RwB w3 wb rb qb pl en) := its_row k3 (Or.inr rfl) HR2.out
                clear hB2 z3 k3 HS2 HR2
                go_wp2
                go_meet
                exact ⟨_, _, pl, en, HK'.out, HZ3.out, HS3.out, HR3.out⟩
              · by_cases h3 : ser % 3 = 0
                · have h3a : (ser : Int) % 3 = 0 := by omega
                  have h3b : (((ser : Int) % 3) == 0) = true := by rw [beq_iff_eq]; exact h3a
                  have h3c : ((ser : Int).tmod 3 == 0) = true := by rw [show (ser : Int).tmod 3 = (ser : Int) % 3 from rfl]; exact h3b
                  have hA := sbegin_at HZ1.out.hlast HS1.out
                  have hB := fun W (y : P4 wA wA.heap.size W hb rb pb qb h h p p (fun k => k = sb ∨ k = wb)) (rW : RwB W wb rb qb pl en) => rsbegin_any y (Or.inr rfl) HBd.out.2.1 rW
                  have HK' : Hid (SwI h p (40 + 2 * (i + 1)) 0 h.last) := ⟨HK.out.pk.mono (by omega), Nat.zero_le _, HZ1.out.okh.last⟩
                  generalize h.last = L at *
                  go_wp2_with fail
                  refine hA.mono ?_
                  rintro e w2 ⟨rfl, r2, k2⟩
                  have z2 := HZ1.out.other k2 (fun k e => hX1 k e)
                  have hR2 : RwB w2 wb rb qb pl en := Row.kept HR1.out k2 (fun e => HBd.out.2.2 e.symm)
                  have hB2 := hB _ z2 hR2
                  have HS2 : Hid _ := hidden r2
                  clear hA hB k2 hR2 r2 z2 HZ1 HS1 HR1 c0 c1 hb1
                  go_wp2_with fail
                  refine hB2.mono ?_
                  rintro e w3 ⟨rfl, z3, r3, k3⟩
                  have HZ3 : Hid _ := hidden z3
                  have HR3 : Hid _ := hidden r3
                  have HS3 : Hid (SwB w3 sb hb pb 0 L) := Row.kept HS2.out k3 (fun e => HBd.out.2.2 e)
                  clear hB2 z3 r3 k3 HS2
                  go_wp2
                  go_meet
                  exact ⟨h, p, 0, L, HK'.out, HZ3.out, HS3.out, HR3.out⟩
                · have h3a : ¬ (ser : Int) % 3 = 0 := by omega
                  have h3b : (((ser : Int) % 3) == 0) = false := by rw [beq_eq_false_iff_ne]; exact h3a
                  have h3c : ((ser : Int).tmod 3 == 0) = false := by rw [show (ser : Int).tmod 3 = (ser : Int) % 3 from rfl]; exact h3b
                  have HK' : Hid (SwI h p (40 + 2 * (i + 1)) pl en) := ⟨HK.out.pk.mono (by omega), HK.out.pl, HK.out.en⟩
                  go_wp2
                  go_meet
                  exact ⟨h, p, pl, en, HK'.out, HZ1.out, HS1.out, HR1.out⟩
              · have hA := HZ1.out.hfree q HQ64.out
                have hB := fun W (y : P4 wA wA.heap.size W hb rb pb qb (h.freeS q) h p p (fun k => k = sb ∨ k = wb)) => y.rfree q
                have HK' : Hid (SwI (h.freeS q) p (40 + 2 * (i + 1)) pl en) := ⟨(HK.out.pk.free q).mono (by omega), HK.out.pl, HK.out.en⟩
                generalize (h.freeS q) = h' at *
                generalize (h.freeR q) = R at *
                go_wp2_with fail
                refine hA.mono ?_
                rintro e w2 ⟨rfl, z2, k2⟩
                have hB2 := hB _ z2
                have HS2 : Hid (SwB w2 sb hb pb pl en) := its_row k2 (Or.inl rfl) HS1.out
                have HR2 : Hid (RwB w2 wb rb qb pl en) := its_row k2 (Or.inr rfl) HR1.out
                clear hA hB z2 k2 HZ1 HS1 HR1 c0 c1 hb1
                go_wp2_with fail
                refine hB2.mono ?_
                rintro e w3 ⟨rfl, z3, k3⟩
                have HZ3 : Hid _ := hidden z3
                have HS3 : Hid (SwB w3 sb hb pb pl en) := its_row k3 (Or.inl rfl) HS2.out
                have HR3 : Hid (RwB w3 wb rb qb pl en) := its_row k3 (Or.inr rfl) HR2.out
                clear hB2 z3 k3 HS2 HR2
                go_wp2
                go_meet
                exact ⟨_, _, pl, en, HK'.out, HZ3.out, HS3.out, HR3.out⟩
            case rest =>
              obtain ⟨h', p', pl', en', K2, z2, s2, r2⟩ := hcut
              obtain ⟨w2, hw2⟩ : ∃ x, x = wc := ⟨_, rfl⟩
              subst hw2
              have hdr2 : Below w2.heap.size w2 w2.drew := ⟨rfl, rfl, rfl, Nat.le_refl _, fun _ _ => rfl⟩
              have hLen := (z2.read hdr2).hlen
              obtain ⟨lv, M, LI, hM⟩ := z2.lst
              obtain ⟨ao2, cap2, rfl⟩ := LI.sl
              have hMl : M.length = h'.cs.length := by rw [← hM, List.length_map]
              have c4 := LI.c4
              have hrb := LI.lt
              rw [hMl] at c4
              have hqe : ((h'.cs.length : Int) == (h'.cs.length : Int)) = true := beq_self_eq_true _
              have HZ2 : Hid _ := hidden (z2.read hdr2)
              have HS2 : Hid (SwB w2.drew sb hb pb pl' en') := Row.below s2 hdr2
              have HR2 : Hid (RwB w2.drew wb rb qb pl' en') := Row.below r2 hdr2
              have HK2 : Hid _ := hidden K2
              clear z2 s2 r2 K2 LI hM hMl HZ1 HS1 HR1 HK c0 c1 hb1 hk8
              generalize h'.cs.length = cl at *
              go_upto_region 41 with fail
              go_region_with (go_at_call 22; refine hLen.mono ?_; rintro e _ ⟨rfl, rfl⟩)
              all_goals
                go_wp2
                go_roundw
                case rel => exact ⟨i + 1, h', p', pl', en', HL.out, by go_num, HK2.out, HZ2.out, HS2.out, HR2.out⟩
                case measure => have := HL.out; simp [intOf]; omega
        · have HZ : Hid _ := hidden z
          have hex : (¬ (i : Int) < (xs.length : Int)) ∨ ((i : Int) < (xs.length : Int) ∧ ¬ (i : Int) < 200) := by omega
          clear z rs rr K hlt hi
          rcases hex with hx | ⟨hx1, hx2⟩
          all_goals
            go_wp2
            go_meet
            exact ⟨h, p, HZ.out⟩
    case rest =>
      obtain ⟨h, p, z⟩ := hcut
      obtain ⟨w2, hw2⟩ : ∃ x, x = wc := ⟨_, rfl⟩
      subst hw2
      obtain ⟨lv, M, LI, hM⟩ := z.lst
      obtain ⟨ao2, cap2, hlv⟩ := LI.sl
      have hok := z.okh
      have HNX : Hid (∀ k (hk : k < M.length), nextR h.cs (atM M k) = (M[k].o.s, true)) := fun k hk => atM_next hok hM hk
      have HNc : Hid (∀ W : World, Below w2.heap.size w2 W → ∀ s : Nat, Calls Tryd.prog 23 #[.pointer (some ⟨hb, 0, none⟩), .int .u64 (s : Int)] W fun e w' => e = .returned (.tuple #[.int .u64 ((nextR h.cs s).1 : Int), .bool (nextR h.cs s).2]) ∧ Below W.heap.size W w') := fun W hB s => (z.read hB).hnext s
      have HLI : Hid _ := hidden LI
      have HZB : Hid _ := hidden (HWA.out _ z.bel)
      have hF := LI.few
      clear LI z hok hM HZ9 HS9 HR9 HK9
      go_wp2
      go_loopw [23, 24, 25, 26] (fun a t _ _ wr => ∃ k : Nat, k ≤ M.length ∧ a = .int .u64 (atM M k : Int) ∧ t = .int .i64 (k : Int) ∧ Below w2.heap.size w2 wr) (fun _ t _ _ _ => M.length - (intOf t).toNat)
      case atStart => exact ⟨0, Nat.zero_le _, rfl, rfl, Below.refl _ _⟩
      case round =>
        obtain ⟨k, hk, rfl, rfl, b1⟩ := hrel
        have LI1 := HLI.out.below b1
        have hrb := LI1.lt
        by_cases hlt : k < M.length
        · obtain ⟨g, cap', e, hgl, hp, hpl, hs⟩ := LI1.at_ k hlt
          have c4 := LI1.c4
          rw [e] at c4
          have hN := HNc.out _ b1 (atM M k)
          rw [HNX.out k hlt] at hN
          have hlti : (k : Int) < (M.length : Int) := by omega
          have HL : Hid (k + 1 ≤ M.length) := hlt
          have HA : Hid (atM M (k + 1) = M[k].o.s) := by
            have e : atM M (k + 1) = M[k].o.s := by
              show (M[k]?.map (·.o.s)).getD 0 = _
              rw [List.getElem?_eq_getElem hlt]
              rfl
            exact e
          have HB1 : Hid _ := hidden b1
          have HRL : Hid (wr.cell? ⟨rb, 4, none⟩ = some (.slice (some ⟨g, 0, none⟩) M.length cap') ∧ wr.cell? ⟨g, k, none⟩ = some (.pointer (some ⟨M[k].pb, 0, none⟩)) ∧ wr.cell? ⟨M[k].pb, 0, none⟩ = some (.int .u64 (M[k].o.s : Int)) ∧ rb < wr.heap.size ∧ g < wr.heap.size ∧ M[k].pb < wr.heap.size) := ⟨c4, hp, hs, hrb, hgl, hpl⟩
          clear LI1 e hp hs hgl hpl b1
          generalize M[k].o.s = sk at *
          generalize M[k].pb = pk at *
          go_wp2_with fail
          refine hN.mono ?_
          rintro e w3 ⟨rfl, b3⟩
          obtain ⟨a1, a2, a3, a4, a5, a6⟩ := HRL.out
          have d4 := (b3.cell (p := ⟨rb, 4, none⟩) a4).trans a1
          have d5 := (b3.cell (p := ⟨g, k, none⟩) a5).trans a2
          have d6 := (b3.cell (p := ⟨pk, 0, none⟩) a6).trans a3
          have l4 : rb < w3.heap.size := Nat.lt_of_lt_of_le a4 b3.size
          have l5 : g < w3.heap.size := Nat.lt_of_lt_of_le a5 b3.size
          have l6 : pk < w3.heap.size := Nat.lt_of_lt_of_le a6 b3.size
          have hqe : ((sk : Int) == (sk : Int)) = true := beq_self_eq_true _
          have HB3 : Hid (Below w2.heap.size w2 w3) := HB1.out.trans (b3.mono HB1.out.size)
          clear hN b3 a1 a2 a3 a4 a5 a6 c4 hrb HRL
          go_wp2
          go_roundw
          case rel => exact ⟨k + 1, HL.out, by rw [HA.out], by go_num, HB3.out⟩
          case measure => have := HL.out; simp [intOf]; omega
        · have c4 := LI1.c4
          rw [hlv] at c4
          have hx : ¬ (k : Int) < (M.length : Int) := by omega
          have HB : Hid (Below w.heap.size w wr) := HZB.out.trans (b1.mono HZB.out.size)
          clear LI1 b1 hlt hk
          go_wp2
          go_ret
          exact ⟨rfl, HB.out⟩
end Go.Proofs.YtdafpfdmnccelaaDoor
