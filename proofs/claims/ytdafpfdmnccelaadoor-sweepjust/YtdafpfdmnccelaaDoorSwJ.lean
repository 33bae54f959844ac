/- SweepJust, walked. -/
import Derived.Test.YtdafpfdmnccelaaDoorSwAP
import Derived.Test.YtdafpfdmnccelaaDoorSwSP
import Derived.Test.YtdafpfdmnccelaaDoorSwK
import Derived.Test.YtdafpfdmnccelaaDoorPick
namespace Go.Proofs.YtdafpfdmnccelaaDoor
open Go.RowKit

theorem updW_or (f : Nat → Bool) (q t : Nat) : (f t || decide (t = q)) = updW f q t := by
  unfold updW
  by_cases e : t = q
  · rw [if_pos e, decide_eq_true e, Bool.or_true]
  · rw [if_neg e, decide_eq_false e, Bool.or_false]
/-- What stays apart from heap and paint: the plain heap's block, the sweeper, the marks' list, what was freed. -/
def XJ (rb sb mb : Nat) (v : Value) (k : Nat) : Prop := ((k = rb ∨ k = sb) ∨ k = mb) ∨ v.ownBlock = some k
/-- The sweep's second loop. -/
structure SwJI (wA w : World) (rb sb mb hb pb n k : Nat) (h : HSt) (p : PSt) (f : Nat → Bool) (v : Value) (l : List Nat) : Prop where
  sw : Swp h n k f
  mks : Mks p n f
  ph : PH wA wA.heap.size w pb hb h p (XJ rb sb mb v)
  s : SwB w sb hb pb k n
  m : Row w mb 4 (bwV n f)
  o : OwU w wA.heap.size v l
  c : w.cell? ⟨rb, 2, none⟩ = some (.int .u64 (n : Int))
  ne : ∀ j, v.ownBlock = some j → j ≠ rb ∧ j ≠ sb ∧ j ≠ mb
  d : rb ≠ sb ∧ sb ≠ mb
section
variable {wA w w' : World} {rb sb mb hb pb n k : Nat} {h : HSt} {p : PSt} {f : Nat → Bool} {v v' : Value} {l l' : List Nat}
theorem SwJI.make (J : SwJI wA w rb sb mb hb pb n k h p f v l) (z : PH wA wA.heap.size w' pb hb (h.makeS 0 0) p (XJ rb sb mb v)) (kp : Kept w w' (Its wA.heap.size (XJ rb sb mb v))) : SwJI wA w' rb sb mb hb pb n k (h.makeS 0 0) p f v l :=
  ⟨J.sw.make 0 0, J.mks, z, its_row kp (Or.inl (Or.inl (Or.inr rfl))) J.s, its_row kp (Or.inl (Or.inr rfl)) J.m, J.o.kept kp (fun _ e a => a.2 (Or.inr e)), its_cell J.c kp (Or.inl (Or.inl (Or.inl rfl))), J.ne, J.d⟩
theorem SwJI.step (J : SwJI wA w rb sb mb hb pb n k h p f v l) (hk : k < n) (z : PH wA wA.heap.size w' pb hb (swH h p k n) (swP h p k n) (XJ rb sb mb v)) (s : SwB w' sb hb pb (swL h k n) n) (kp : Kept w w' (fun j => Its wA.heap.size (XJ rb sb mb v) j ∨ j = sb)) : SwJI wA w' rb sb mb hb pb n (k + 1) (swH h p k n) (swP h p k n) f v l := by
  obtain ⟨_, e2, S, M⟩ := J.sw.step hk J.mks
  rw [e2] at s
  refine ⟨S, M, z, s, Row.kept J.m kp (fun e => ?_), J.o.kept kp (fun j e a => ?_), cell_kept J.c kp (fun e => ?_), J.ne, J.d⟩
  · rcases e with e | e
    · exact e.2 (Or.inl (Or.inr rfl))
    · exact J.d.2 e.symm
  · rcases a with a | a
    · exact a.2 (Or.inr e)
    · exact (J.ne j e).2.1 a
  · rcases e with e | e
    · exact e.2 (Or.inl (Or.inl (Or.inl rfl)))
    · exact J.d.1 e
theorem SwJI.stay (J : SwJI wA w rb sb mb hb pb n n h p f v l) (z : PH wA wA.heap.size w' pb hb (swH h p n n) (swP h p n n) (XJ rb sb mb v)) (s : SwB w' sb hb pb (swL h n n) n) (kp : Kept w w' (fun j => Its wA.heap.size (XJ rb sb mb v) j ∨ j = sb)) : SwJI wA w' rb sb mb hb pb n n h p f v l := by
  obtain ⟨_, e2, e3, e4⟩ := sw_none h p n
  rw [e2] at s
  rw [e3, e4] at z
  refine ⟨J.sw, J.mks, z, s, Row.kept J.m kp (fun e => ?_), J.o.kept kp (fun j e a => ?_), cell_kept J.c kp (fun e => ?_), J.ne, J.d⟩
  · rcases e with e | e
    · exact e.2 (Or.inl (Or.inr rfl))
    · exact J.d.2 e.symm
  · rcases a with a | a
    · exact a.2 (Or.inr e)
    · exact (J.ne j e).2.1 a
  · rcases e with e | e
    · exact e.2 (Or.inl (Or.inl (Or.inl rfl)))
    · exact J.d.1 e
theorem SwJI.read (J : SwJI wA w rb sb mb hb pb n k h p f v l) (hb' : Below w.heap.size w w') : SwJI wA w' rb sb mb hb pb n k h p f v l :=
  ⟨J.sw, J.mks, J.ph.read hb', Row.below J.s hb', J.m.below hb', J.o.below hb', (hb'.cell (p := ⟨rb, 2, none⟩) (cell_lt J.c)).trans J.c, J.ne, J.d⟩
theorem SwJI.push (J : SwJI wA w rb sb mb hb pb n k h p f v l) (o : OwU w' wA.heap.size v' l') (kp : Kept w w' (fun j => v.ownBlock = some j)) (mv : Moved w v v') : SwJI wA w' rb sb mb hb pb n k h p f v' l' := by
  have hl : rb < w.heap.size := cell_lt J.c
  have hs : sb < w.heap.size := Row.lt J.s
  have hm : mb < w.heap.size := J.m.lt
  have hg := o.ge
  refine ⟨J.sw, J.mks, (J.ph.sGrow kp (fun j e _ => ⟨Or.inr e, (J.o.ge j e).1⟩)).off _ (fun j e => ?_), Row.kept J.s kp (fun e => (J.ne sb e).2.1 rfl), J.m.kept kp (fun e => (J.ne mb e).2.2 rfl), o, cell_kept J.c kp (fun e => (J.ne rb e).1 rfl), fun j e => ?_, J.d⟩
  · rcases e with e | e
    · exact Or.inl (Or.inl e)
    · rcases mv j e with a | a
      · exact Or.inl (Or.inr a)
      · exact Or.inr ⟨a, (hg j e).2⟩
  · rcases mv j e with a | a
    · exact J.ne j a
    · exact ⟨by omega, by omega, by omega⟩
end
set_option maxRecDepth 20000 in
set_option maxHeartbeats 4000000 in
theorem sweepJust_any {w : World} {vm : Value} {ms : List Nat} (n0 made : Int) (hT : TB w) (hm : WS w vm 1 cW ms) (hmR : ∀ z ∈ ms, z < 18446744073709551616) :
    Calls Tryd.prog 5 #[.int .i64 n0, vm, .int .i64 made] w fun e w' => e = .returned (.bool true) ∧ Below w.heap.size w w' := by
  obtain ⟨aom, capm, rfl, _, _⟩ := hm.slice
  have hP := fun W => pick_any n0 40 (by omega) (by omega) W
  have hP2 := fun W => pick_any made 8 (by omega) (by omega) W
  have hn40 := pickN_lt n0 40 (by omega)
  have hmd := pickN_lt made 8 (by omega)
  generalize pickN n0 40 = n at *
  generalize pickN made 8 = md at *
  have hMk := make_nils n (by omega)
  have hMb := make_bws n (by omega)
  obtain ⟨Z, hZ⟩ : ∃ Z, Z = (bwV n (fun _ => false)).toArray := ⟨_, rfl⟩
  rw [← hZ] at hMb
  have HZZ : Hid (Z = (bwV n (fun _ => false)).toArray) := hZ
  clear hZ
  obtain ⟨wA, hwA⟩ : ∃ z, z = w.alloc (.cells (Array.replicate n (Value.slice none 0 0)) 27) := ⟨_, rfl⟩
  have hbA : Below w.heap.size w wA := by rw [hwA]; exact bel_alloc w _
  have hTA : TB wA := hT.below hbA
  have hGI : GI wA (.slice (some ⟨w.heap.size, 0, none⟩) n n) (.slice none 0 0) (.slice none 0 0) (nilG n) := nilG_gi (by omega) (fun i hi => by rw [hwA]; exact nils_cell hi (Below.refl _ _))
  have hHp := heaps_at hGI hTA 40 (by omega)
  rw [nilG_len n 40 (by omega)] at hHp
  have HWM : Hid _ := hidden hm
  have HMR : Hid _ := hidden hmR
  have HN : Hid (n < 40) := hn40
  clear hm hmR hT hGI
  go_enter Tryd.func5, Tryd.ntmps5
  go_wp2_with fail
  refine (hP _).mono ?_
  rintro e _ ⟨rfl, rfl⟩
  clear hP
  go_wp2_with fail
  rw [← hwA]
  refine hHp.mono ?_
  rintro e w1 ⟨hb, rb, h, rfl, y1, m1⟩
  have HLN : Hid (h.last = n) := m1.last
  have HND : Hid (h.node = 1) := m1.node
  have HSW : Hid (∀ mk, Swp h n 0 mk) := fun mk => m1.swp y1.ok mk
  clear hHp hMk m1
  go_wp2_with fail
  refine (sknown_any _ (hTA.below (y1.bel.mono (Nat.le_refl _)))).mono ?_
  rintro e w2 ⟨rfl, b2⟩
  have y2 := y1.read b2
  clear y1 b2
  go_wp2_with fail
  refine (y2.pl 3 (by omega) (by omega)).mono ?_
  rintro e w3 ⟨pb, rfl, z3, b3⟩
  have hLa := fun o : Obj => (z3.ph.read (bel_alloc w3 o)).sLast
  have hrB : wA.heap.size ≤ rb := y2.rge
  clear y2
  go_wp2_with fail
  refine (snew_sw hLa).mono ?_
  rintro e w4 ⟨rfl, r4, b4⟩
  have hs34 : w3.heap.size < w4.heap.size := Row.lt r4
  have z4 : PH wA wA.heap.size w4 pb hb h (PSt.new 3) (fun k => k = rb ∨ k = w3.heap.size) := (z3.ph.sFresh b4).off _ (fun k e => by
    rcases e with e | e
    · exact Or.inl (Or.inl e)
    · exact Or.inr (by omega))
  have c4 : w4.cell? ⟨rb, 2, none⟩ = some (.int .u64 (n : Int)) := by
    rw [← HLN.out]
    exact (b4.cell (p := ⟨rb, 2, none⟩) (cell_lt z3.c)).trans z3.c
  have hsB : wA.heap.size ≤ w3.heap.size := z3.ph.le
  have hrs : rb < w3.heap.size := cell_lt z3.c
  clear hLa z3 b3 b4
  generalize w3.heap.size = sb at *
  obtain ⟨w5, hw5⟩ : ∃ z, z = w4.alloc (.cells Z 4) := ⟨_, rfl⟩
  have HZ5 : Hid (PH wA wA.heap.size w5 pb hb h (PSt.new 3) (fun k => (k = rb ∨ k = sb) ∨ k = w4.heap.size)) := by rw [hw5]; exact hidden (z4.box _)
  have HS5 : Hid (SwB w5 sb hb pb 0 h.last) := by rw [hw5]; exact hidden (Row.below r4 (bel_alloc w4 _))
  have HM5 : Hid (Row w5 w4.heap.size 4 (bwV n (fun _ => false))) := by rw [hw5, HZZ.out]; exact hidden (heap_alloc_new w4 _)
  have HC5 : Hid (w5.cell? ⟨rb, 2, none⟩ = some (.int .u64 (n : Int))) := by rw [hw5]; exact ((bel_alloc w4 _).cell (p := ⟨rb, 2, none⟩) (Nat.lt_trans hrs hs34)).trans c4
  have HBd : Hid (wA.heap.size ≤ sb ∧ wA.heap.size ≤ w4.heap.size ∧ sb ≠ w4.heap.size ∧ wA.heap.size ≤ rb ∧ rb ≠ sb ∧ rb ≠ w4.heap.size) := ⟨hsB, z4.le, by omega, hrB, by omega, by omega⟩
  have HWA : Hid (∀ W : World, Below wA.heap.size wA W → Below w.heap.size w W) := fun W hB => hbA.trans (hB.mono hbA.size)
  clear z4 c4 r4 hsB hs34 hrs hrB hTA hbA hwA
  clear HZZ
  go_upto_block 0 with fail
  rw [← hw5]
  generalize w4.heap.size = mb at *
  clear hw5 hMb
  go_cut [14, 15] from 69 to 94 (fun _ _ wc => ∃ (p : PSt) (f : Nat → Bool), Mks p n f ∧ PH wA wA.heap.size wc pb hb h p (fun k => (k = rb ∨ k = sb) ∨ k = mb) ∧ Row wc mb 4 (bwV n f) ∧ SwB wc sb hb pb 0 h.last ∧ wc.cell? ⟨rb, 2, none⟩ = some (.int .u64 (n : Int)))
  case first =>
    go_wp2
    go_loopw [14, 15] (fun t _ wr => ∃ (i : Nat) (p : PSt) (f : Nat → Bool), i ≤ 60 ∧ t = .int .i64 (i : Int) ∧ Mks p n f ∧ PH wA wA.heap.size wr pb hb h p (fun k => (k = rb ∨ k = sb) ∨ k = mb) ∧ Row wr mb 4 (bwV n f) ∧ SwB wr sb hb pb 0 h.last ∧ wr.cell? ⟨rb, 2, none⟩ = some (.int .u64 (n : Int))) (fun t _ _ => 60 - (intOf t).toNat)
    case atStart => exact ⟨0, PSt.new 3, fun _ => false, by omega, rfl, Mks.none 3 n, HZ5.out, HM5.out, HS5.out, HC5.out⟩
    case round =>
      clear HZ5 HS5 HM5 HC5
      obtain ⟨i, p, f, hi, rfl, mk, z, rm, rs, rc⟩ := hrel
      by_cases hlt : i < ms.length ∧ i < 60
      · obtain ⟨hl1, hl2⟩ := hlt
        have hws := HWM.out.below (w' := wr) (HWA.out _ z.bel)
        obtain ⟨b, off, rfl, hbw, q0⟩ := hws.word i hl1
        have hlti : (i : Int) < (ms.length : Int) := by omega
        have hlt60 : (i : Int) < 60 := by omega
        generalize ms[i] = z0 at *
        obtain ⟨D, hD⟩ : ∃ D, D = n + 1 := ⟨_, rfl⟩
        have hwc : IntKind.u64.wrap ((n : Int) + 1) = (D : Int) := by rw [IntKind.wrap_u64]; have := HN.out; omega
        have hne : ((D : Int) == 0) = false := by rw [beq_eq_false_iff_ne]; omega
        have hne2 : ¬ (D : Int) = 0 := by omega
        obtain ⟨q, hq⟩ : ∃ q, q = z0 % D := ⟨_, rfl⟩
        have hqn : q ≤ n := by have := Nat.mod_lt z0 (show 0 < D by omega); omega
        have hrem : (z0 : Int).tmod (D : Int) = (q : Int) := by rw [hq]; rfl
        have hrem2 : (z0 : Int) % (D : Int) = (q : Int) := by rw [hq]; rfl
        have HZ : Hid _ := hidden z
        have HS : Hid _ := hidden rs
        have HM : Hid _ := hidden rm
        have HC : Hid _ := hidden rc
        have HMK : Hid _ := hidden mk
        have HL : Hid (i + 1 ≤ 60) := hl2
        clear z rs rm rc mk hws hl1 hl2 hi hq
        go_upto_region 14 with fail
        have hq3 : (z0 : Int) % ((n : Int) + 1) = (q : Int) := by rw [show ((n : Int) + 1) = (D : Int) by omega]; exact hrem2
        rw [hq3]
        clear hq3 hrem hrem2 hne hne2 hwc q0 hbw
        have c0 := bw_cell HM.out q hqn
        have fr := Row.frozen HM.out q
        have hml := Row.lt HM.out
        have hqi : (q : Int) < (n : Int) + 1 := by omega
        have hk7 : Kept wr (wr.setCell ⟨mb, q, none⟩ (.bool true)) (fun k => k = mb) := (Kept.refl wr (fun k => k = mb)).put ⟨mb, q, none⟩ (.bool true) rfl
        obtain ⟨w7, hw7⟩ : ∃ z, z = wr.setCell ⟨mb, q, none⟩ (.bool true) := ⟨_, rfl⟩
        rw [← hw7] at hk7
        have z7 := HZ.out.other hk7 (fun k e => by have e' : k = mb := e; rw [e']; exact ⟨Or.inr rfl, HBd.out.2.1⟩)
        have HM7 : Hid (Row w7 mb 4 (bwV n (updW f q))) := by rw [hw7]; exact hidden (bw_set HM.out q)
        have HS7 : Hid (SwB w7 sb hb pb 0 h.last) := Row.kept HS.out hk7 (fun e => HBd.out.2.2.1 e)
        have HC7 : Hid (w7.cell? ⟨rb, 2, none⟩ = some (.int .u64 (n : Int))) := cell_kept HC.out hk7 (fun e => HBd.out.2.2.2.2.2 e)
        have hH := z7.shade 1 q 0
        have HMK7 : Hid (Mks (p.shade h (1, q) 0) n (updW f q)) := (HMK.out.shade HND.out (fun s h1 h2 => ((HSW.out f).has s).2 (Or.inl ⟨h1, h2, fun e => by omega⟩)) hqn (by have := HN.out; omega) 0).like (fun s _ _ => updW_or f q s)
        clear hk7 z7 HZ HS HM HC HMK hD
        generalize (p.shade h (1, q) 0) = p' at *
        go_upto_region 15 with fail
        rw [← hw7]
        clear hw7 c0 fr hml hqi
        go_wp2_with fail
        refine hH.mono ?_
        rintro e w8 ⟨rfl, z8, k8⟩
        have HZ8 : Hid _ := hidden z8
        have HM8 : Hid (Row w8 mb 4 (bwV n (updW f q))) := its_row k8 (Or.inr rfl) HM7.out
        have HS8 : Hid (SwB w8 sb hb pb 0 h.last) := its_row k8 (Or.inl (Or.inr rfl)) HS7.out
        have HC8 : Hid (w8.cell? ⟨rb, 2, none⟩ = some (.int .u64 (n : Int))) := its_cell HC7.out k8 (Or.inl (Or.inl rfl))
        clear hH z8 k8 HM7 HS7 HC7
        go_wp2
        go_roundw
        case rel => exact ⟨i + 1, p', updW f q, HL.out, by go_num, HMK7.out, HZ8.out, HM8.out, HS8.out, HC8.out⟩
        case measure => have := HL.out; simp [intOf]; omega
      · have HZ : Hid _ := hidden z
        have HS : Hid _ := hidden rs
        have HM : Hid _ := hidden rm
        have HC : Hid _ := hidden rc
        have HMK : Hid _ := hidden mk
        have hex : (¬ (i : Int) < (ms.length : Int)) ∨ ((i : Int) < (ms.length : Int) ∧ ¬ (i : Int) < 60) := by omega
        clear z rs rm rc mk hlt hi
        rcases hex with hx | ⟨hx1, hx2⟩
        all_goals
          go_wp2
          go_meet
          exact ⟨p, f, HMK.out, HZ.out, HM.out, HS.out, HC.out⟩
  case rest =>
    obtain ⟨p, f, mk, z, rm, rs, rc⟩ := hcut
    obtain ⟨w7, hw7⟩ : ∃ x, x = wc := ⟨_, rfl⟩
    subst hw7
    clear HZ5 HS5 HM5 HC5
    have hB1 := sbegin_at z.sLast rs
    have HZ : Hid _ := hidden z
    have HM : Hid _ := hidden rm
    have HC : Hid _ := hidden rc
    have HMK : Hid _ := hidden mk
    clear z rm rs rc mk
    go_wp2_with fail
    refine hB1.mono ?_
    rintro e w8 ⟨rfl, r8, k8⟩
    have HZ8 : Hid _ := hidden (HZ.out.other k8 (fun k e => by have e' : k = sb := e; rw [e']; exact ⟨Or.inl (Or.inr rfl), HBd.out.1⟩))
    have HM8 : Hid (Row w8 mb 4 (bwV n f)) := Row.kept HM.out k8 (fun e => HBd.out.2.2.1 e.symm)
    have HC8 : Hid (w8.cell? ⟨rb, 2, none⟩ = some (.int .u64 (n : Int))) := cell_kept HC.out k8 (fun e => HBd.out.2.2.2.2.1 e)
    have HS8 : Hid (SwB w8 sb hb pb 0 n) := by rw [← HLN.out]; exact hidden r8
    clear hB1 r8 k8 HZ HM HC
    go_wp2_with fail
    refine (hP2 _).mono ?_
    rintro e _ ⟨rfl, rfl⟩
    clear hP2
    go_upto_block 2 with fail
    have HJ0 : Hid (SwJI wA w8 rb sb mb hb pb n 0 h p f (.slice none 0 0) (frdL f 0)) := ⟨HSW.out f, HMK.out, HZ8.out.off _ (fun k e => by
      rcases e with e | e
      · exact e
      · cases e), HS8.out, HM8.out, OwU.nil w8 _, HC8.out, (fun j e => (by cases e)), ⟨HBd.out.2.2.2.2.1, HBd.out.2.2.1⟩⟩
    clear HZ8 HM8 HC8 HS8 HMK HSW
    go_cut [16, 17, 18, 19] from 98 to 122 (fun v _ _ _ wc => ∃ h p, SwJI wA wc rb sb mb hb pb n n h p f v (frdL f n))
    case first =>
      go_wp2
      go_loopw [16, 17, 18, 19] (fun v t _ _ wr => ∃ (k : Nat) (h : HSt) (p : PSt), k ≤ n ∧ t = .int .i64 (k : Int) ∧ SwJI wA wr rb sb mb hb pb n k h p f v (frdL f k)) (fun _ t _ _ _ => n - (intOf t).toNat)
      case atStart => exact ⟨0, h, p, Nat.zero_le _, rfl, HJ0.out⟩
      case round =>
        clear HJ0
        obtain ⟨k, h, p, hk, rfl, J⟩ := hrel
        obtain ⟨aof, capf, hvf, _, _⟩ := J.o.slice
        subst hvf
        have hlt10 : (k : Int) < (n : Int) + 10 := by omega
        have hX : XJ rb sb mb (.slice aof (frdL f k).length capf) sb := Or.inl (Or.inl (Or.inr rfl))
        have HJ : Hid _ := hidden J
        have HKN : Hid (k ≤ n) := hk
        have hMk := J.ph.sMake 0 0
        clear J
        go_upto_if 106 with fail
        go_cut [] from 104 to 109 (fun wc => ∃ h', SwJI wA wc rb sb mb hb pb n k h' p f (.slice aof (frdL f k).length capf) (frdL f k))
        case first =>
          by_cases hkm : k < md
          · have hki : (k : Int) < (md : Int) := by omega
            go_wp2_with fail
            refine hMk.mono ?_
            rintro e w2 ⟨rfl, z2, k2⟩
            have HJ2 : Hid _ := hidden (HJ.out.make z2 k2)
            clear hMk z2 k2
            go_wp2
            go_meet
            exact ⟨_, HJ2.out⟩
          · have hki : ¬ (k : Int) < (md : Int) := by omega
            clear hMk
            go_wp2
            go_meet
            exact ⟨h, HJ.out⟩
        case rest =>
          obtain ⟨h2, J2⟩ := hcut
          obtain ⟨w2, hw2⟩ : ∃ x, x = wc := ⟨_, rfl⟩
          subst hw2
          clear HJ hMk
          have hSt := sstep_sw (how_ph (X := XJ rb sb mb (.slice aof (frdL f k).length capf)) hX HBd.out.1) J2.ph J2.s
          by_cases hkn : k < n
          · obtain ⟨e1, e2, _, _⟩ := J2.sw.step hkn J2.mks
            have hstp := fun w' => J2.step (w' := w') hkn
            rw [e1] at hSt
            have HST : Hid _ := hidden hstp
            have HL : Hid (k + 1 ≤ n) := hkn
            clear J2 e1 e2 hstp hkn
            cases hf : f (k + 1) with
            | true =>
              rw [hf, if_pos rfl] at hSt
              go_wp2_with fail
              refine hSt.mono ?_
              rintro e w3 ⟨rfl, z3, r3, k3⟩
              have HJ3 : Hid _ := hidden (HST.out _ z3 r3 k3)
              have HE : Hid (frdL f (k + 1) = frdL f k) := by
                have e : frdL f (k + 1) = frdL f k := by rw [frdL_succ, hf, if_pos rfl]
                exact e
              clear hSt z3 r3 k3 HST hf
              go_wp2
              go_roundw
              case rel => exact ⟨k + 1, _, _, HL.out, by go_num, by rw [HE.out]; exact HJ3.out⟩
              case measure => have := HL.out; simp [intOf]; omega
            | false =>
              rw [hf, if_neg (by simp)] at hSt
              obtain ⟨q, hq⟩ : ∃ q, q = k + 1 := ⟨_, rfl⟩
              rw [← hq] at hSt
              have hqp : (0 : Int) < (q : Int) := by omega
              have HE : Hid (frdL f (k + 1) = frdL f k ++ [q]) := by
                have e : frdL f (k + 1) = frdL f k ++ [q] := by rw [frdL_succ, hf, hq]; rfl
                exact e
              have HLE : Hid ((frdL f k).length ≤ 40) := by
                have e : (frdL f k).length ≤ 40 := by have := frdL_len f k; have := HL.out; have := HN.out; omega
                exact e
              clear hq hf
              go_wp2_with fail
              refine hSt.mono ?_
              rintro e w3 ⟨rfl, z3, r3, k3⟩
              have J3 := HST.out _ z3 r3 k3
              have o4 := J3.o.below (bel_alloc w3 (.cells #[.int .u64 (q : Int)] 39))
              have hsz := J3.ph.le
              have HJ4 : Hid _ := hidden (J3.read (bel_alloc w3 (.cells #[.int .u64 (q : Int)] 39)))
              clear hSt z3 r3 k3 HST J3
              go_wp2_with (at_builtin; refine wpList_owU rfl (.tmp 118) (.tmp 120) rfl wA.heap.size _ (frdL f k) rfl o4 _ [q] rfl (sr_oneU w3 q _) (by have := HLE.out; simp; omega) (by simp; omega) ?_; intro v5 w5 o5 k5 mv5)
              go_roundw
              case rel => exact ⟨k + 1, _, _, HL.out, by go_num, by rw [HE.out]; exact HJ4.out.push o5 k5 mv5⟩
              case measure => have := HL.out; simp [intOf]; omega
          · have hkn2 : k = n := by have := HKN.out; omega
            subst hkn2
            obtain ⟨e1, _, _, _⟩ := sw_none h2 p k
            rw [e1] at hSt
            have hsty := fun w' => J2.stay (w' := w')
            have HST : Hid _ := hidden hsty
            clear J2 e1 hsty hkn
            go_wp2_with fail
            refine hSt.mono ?_
            rintro e w3 ⟨rfl, z3, r3, k3⟩
            have HJ3 : Hid _ := hidden (HST.out _ z3 r3 k3)
            clear hSt z3 r3 k3 HST
            go_wp2
            go_meet
            exact ⟨h2, p, HJ3.out⟩
    case rest =>
      obtain ⟨h, p, J⟩ := hcut
      obtain ⟨w9, hw9⟩ : ∃ x, x = wc := ⟨_, rfl⟩
      subst hw9
      clear HJ0
      obtain ⟨aof, capf, hvf, _, _⟩ := J.o.slice
      subst hvf
      have HJ : Hid _ := hidden J
      have HFL : Hid ((frdL f n).length ≤ n) := frdL_len f n
      clear J
      go_upto_block 4 with fail
      generalize hln : (frdL f n).length = Ln at *
      have HLN2 : Hid ((frdL f n).length = Ln) := hln
      clear hln
      go_cut [20, 21, 22, 23] from 122 to 160 (fun a _ _ _ wc => a = .int .i64 (Ln : Int) ∧ Below w9.heap.size w9 wc)
      case first =>
        go_wp2
        go_loopw [20, 21, 22, 23] (fun a t _ _ wr => ∃ q Lk : Nat, 1 ≤ q ∧ q ≤ n + 1 ∧ Lk = (frdL f (q - 1)).length ∧ a = .int .i64 (Lk : Int) ∧ t = .int .i64 (q : Int) ∧ Below w9.heap.size w9 wr) (fun _ t _ _ _ => n + 1 - (intOf t).toNat)
        case atStart => exact ⟨1, 0, Nat.le_refl _, by omega, rfl, rfl, rfl, Below.refl _ _⟩
        case round =>
          obtain ⟨q, Lk, hq1, hqn, hLk, rfl, rfl, b1⟩ := hrel
          have J1 := HJ.out.read b1
          by_cases hlt : q ≤ n
          · have hlti : (q : Int) ≤ (n : Int) := by omega
            have hOb := J1.ph.sObj q (by have := HN.out; omega)
            rw [J1.sw.there hq1 hlt] at hOb
            have c0 := bw_cell J1.m q hlt
            have hml : mb < wr.heap.size := J1.m.lt
            have hqi : (q : Int) < (n : Int) + 1 := by omega
            have hwq : IntKind.u64.wrap (q : Int) = (q : Int) := by rw [IntKind.wrap_u64]; have := HN.out; omega
            have hwq2 : (q : Int) % 18446744073709551616 = (q : Int) := by have := HN.out; omega
            have HMB : Hid (wr.cell? ⟨mb, q, none⟩ = some (.bool (f q)) ∧ mb < wr.heap.size) := ⟨c0, hml⟩
            have HB1 : Hid _ := hidden b1
            have hq' : q - 1 + 1 = q := by omega
            cases hf : f q with
            | true =>
              have HS : Hid ((frdL f (q + 1 - 1)).length = Lk) := by
                have e : (frdL f (q + 1 - 1)).length = Lk := by
                  rw [hLk, Nat.add_sub_cancel, ← hq', frdL_succ, hq', hf, if_pos rfl]
                exact e
              have HQ : Hid (q + 1 ≤ n + 1) := Nat.succ_le_succ hlt
              rw [hf] at hOb c0
              have HMB2 : Hid (wr.cell? ⟨mb, q, none⟩ = some (.bool true) ∧ mb < wr.heap.size) := ⟨c0, hml⟩
              clear J1 b1 hLk hq' hf HMB c0 hml hlt hqn hq1
              go_wp2_with fail
              refine hOb.mono ?_
              rintro e w3 ⟨a, b, d, o1, o2, n1, n2, rfl, b3⟩
              have c0 := (b3.cell (p := ⟨mb, q, none⟩) HMB2.out.2).trans HMB2.out.1
              have hml : mb < w3.heap.size := Nat.lt_of_lt_of_le HMB2.out.2 b3.size
              have HB3 : Hid _ := hidden (HB1.out.trans (b3.mono HB1.out.size))
              clear hOb b3
              go_wp2
              go_roundw
              case rel => exact ⟨q + 1, Lk, by omega, HQ.out, HS.out.symm, rfl, by go_num, HB3.out.trans ((bel_alloc w3 _).mono HB3.out.size)⟩
              case measure => have := HQ.out; simp [intOf]; omega
            | false =>
              have hS : (frdL f (q + 1 - 1)).length = Lk + 1 := by
                rw [hLk, Nat.add_sub_cancel]
                conv => lhs; rw [← hq', frdL_succ, hq', hf]
                rw [if_neg (by simp), List.length_append]
                rfl
              have hAt := frdL_at (mk := f) (k := q - 1) (n := n) (by omega) (by rw [hq']; exact hf)
              rw [hq', ← hLk] at hAt
              obtain ⟨hLt, hAv⟩ := List.getElem?_eq_some_iff.1 hAt
              obtain ⟨g, capg, eg, _, hgl, _, hgc⟩ := J1.o.at Lk hLt
              have hgc1 := hgc Lk hLt
              rw [hAv] at hgc1
              have hLti : (Lk : Int) < (Ln : Int) := by have := HLN2.out; omega
              have hLs : Lk < 40 := by have := HFL.out; have := HN.out; omega
              simp only [Value.slice.injEq] at eg
              obtain ⟨rfl, hdd, rfl⟩ := eg
              clear hdd
              have HS : Hid _ := hidden hS
              have HQ : Hid (q + 1 ≤ n + 1) := Nat.succ_le_succ hlt
              rw [hf] at hOb c0
              have HMB2 : Hid (wr.cell? ⟨mb, q, none⟩ = some (.bool false) ∧ mb < wr.heap.size) := ⟨c0, hml⟩
              have HG2 : Hid (wr.cell? ⟨g, Lk, none⟩ = some (.int .u64 (q : Int)) ∧ g < wr.heap.size) := ⟨hgc1, hgl⟩
              clear J1 b1 hLk hq' hf HMB c0 hml hlt hqn hq1 hS hAt hLt hAv hgl hgc hgc1
              go_wp2_with fail
              refine hOb.mono ?_
              rintro e w3 ⟨a, b, d, o1, o2, n1, n2, rfl, b3⟩
              have c0 := (b3.cell (p := ⟨mb, q, none⟩) HMB2.out.2).trans HMB2.out.1
              have hml : mb < w3.heap.size := Nat.lt_of_lt_of_le HMB2.out.2 b3.size
              have c1 := (b3.cell (p := ⟨g, Lk, none⟩) HG2.out.2).trans HG2.out.1
              have hgl : g < w3.heap.size := Nat.lt_of_lt_of_le HG2.out.2 b3.size
              have hqe : ((q : Int) == (q : Int)) = true := beq_self_eq_true _
              have HB3 : Hid _ := hidden (HB1.out.trans (b3.mono HB1.out.size))
              clear hOb b3
              go_wp2
              go_roundw
              case rel => exact ⟨q + 1, Lk + 1, by omega, HQ.out, HS.out.symm, by go_num, by go_num, HB3.out.trans ((bel_alloc w3 _).mono HB3.out.size)⟩
              case measure => have := HQ.out; simp [intOf]; omega
          · have hlti : ¬ (q : Int) ≤ (n : Int) := by omega
            have hE : Lk = Ln := by rw [hLk, show q - 1 = n by omega]; exact HLN2.out
            subst hE
            have HB : Hid _ := hidden b1
            clear J1 b1 hlt hLk
            go_wp2
            go_meet
            exact ⟨rfl, HB.out⟩
      case rest =>
        obtain ⟨rfl, b1⟩ := hcut
        obtain ⟨w10, hw10⟩ : ∃ x, x = wc := ⟨_, rfl⟩
        subst hw10
        have J1 := HJ.out.read b1
        have hX : XJ rb sb mb (.slice aof Ln capf) sb := Or.inl (Or.inl (Or.inr rfl))
        have hSt := sstep_sw (how_ph (X := XJ rb sb mb (.slice aof Ln capf)) hX HBd.out.1) J1.ph J1.s
        obtain ⟨e1, _, _, _⟩ := sw_none h p n
        rw [e1] at hSt
        have hsty := fun w' => J1.stay (w' := w')
        have HST : Hid _ := hidden hsty
        clear J1 e1 hsty b1 HJ
        go_wp2_with fail
        refine hSt.mono ?_
        rintro e w11 ⟨rfl, z3, r3, k3⟩
        have J2 := HST.out _ z3 r3 k3
        have hLa := fun m => (J2.read (below_drewN0 w11 m)).ph.sLast
        have hLe := fun m => (J2.read (below_drewN0 w11 m)).ph.sLen
        have hall := J2.sw.all
        have hge := J2.sw.ge
        have hcnt := J2.ph.ok.last
        have hrc : w11.cell? ⟨rb, 2, none⟩ = some (.int .u64 (n : Int)) := J2.c
        have hrl : rb < w11.heap.size := cell_lt hrc
        have HB : Hid (∀ m, Below w.heap.size w (w11.drewN m)) := fun m => HWA.out _ (J2.read (below_drewN0 w11 m)).ph.bel
        rw [HLN2.out] at hall
        clear hSt z3 r3 k3 HST J2
        generalize h.cs.length = cl at *
        generalize h.last = la at *
        have hLn : Ln ≤ n := HFL.out
        have hn40' := HN.out
        obtain ⟨dl, hdl⟩ : ∃ dl, dl = la - n := ⟨_, rfl⟩
        obtain ⟨nl, hnl⟩ : ∃ nl, nl = n - Ln := ⟨_, rfl⟩
        have a1 : ((Ln : Int) == (Ln : Int)) = true := beq_self_eq_true _
        have a2 : (n : Int) ≤ (la : Int) := by omega
        have a3 : IntKind.u64.wrap ((la : Int) - (n : Int)) = (dl : Int) := by rw [IntKind.wrap_u64]; omega
        have a4 : IntKind.i64.wrap (dl : Int) = (dl : Int) := by rw [IntKind.wrap_i64]; omega
        have a5 : IntKind.i64.wrap ((n : Int) - (Ln : Int)) = (nl : Int) := by rw [IntKind.wrap_i64]; omega
        have a6 : IntKind.i64.wrap ((nl : Int) + (dl : Int)) = (cl : Int) := by rw [IntKind.wrap_i64]; omega
        have a7 : ((cl : Int) == (cl : Int)) = true := beq_self_eq_true _
        clear hall hge hcnt hdl hnl hLn hn40' hn40 hmd
        go_upto_region 40 with fail
        go_quiet (first
          | (go_at_call 25; exact Calls.quiet_of_same ((hLa _).mono (fun _ _ ⟨a, b⟩ => ⟨a, b.symm⟩)))
          | (go_at_call 22; exact Calls.quiet_of_same ((hLe _).mono (fun _ _ ⟨a, b⟩ => ⟨a, b.symm⟩))))
        go_wp2
        go_ret
        exact ⟨rfl, HB.out _⟩
end Go.Proofs.YtdafpfdmnccelaaDoor
