/- The hand's Ranks: by rounds, over a graph. -/
import Derived.Test.YtlabdbfmfejkaaaDoorOwID
import Derived.Deep.CutRange
import Derived.Deep.CutBlock
import Derived.BigQuiet
namespace Go.Proofs.YtlabdbfmfejkaaaDoor
open Go.RowKit

/-- With which rank each is held: its distance. -/
def ini1 (g : Gr) (n j : Nat) : Int := if 1 ≤ j ∧ j ≤ n ∧ 0 < distR g (j - 1) then distR g (j - 1) else -1
/-- .. and those of a list with 0. -/
def ini2 (g : Gr) (n : Nat) (l : List (Int × Nat)) (j : Nat) : Int := if (1, j) ∈ l then 0 else ini1 g n j
theorem ini2_nil (g : Gr) (n : Nat) : ini2 g n [] = ini1 g n := by
  funext j
  simp [ini2]
theorem ini2_snoc (g : Gr) (n : Nat) (l : List (Int × Nat)) (s : Nat) : (fun k => if k = s then 0 else ini2 g n l k) = ini2 g n (l ++ [(1, s)]) := by
  funext k
  unfold ini2
  by_cases e : k = s
  · subst e
    rw [if_pos rfl, if_pos (by simp)]
  · rw [if_neg e]
    simp [e]
theorem ini1_lo (g : Gr) (n j : Nat) : -1 ≤ ini1 g n j := by
  unfold ini1
  split <;> omega
theorem ini2_lo (g : Gr) (n : Nat) (l : List (Int × Nat)) (j : Nat) : -1 ≤ ini2 g n l j := by
  unfold ini2
  split
  · omega
  · exact ini1_lo g n j
theorem ini1_no {g : Gr} {n : Nat} (h : ¬ 0 < distR g n) {m : Nat} : ini1 g m (n + 1) = -1 := by
  unfold ini1
  rw [if_neg]
  rintro ⟨_, _, h3⟩
  exact h (by simpa using h3)
theorem ini1_yes {g : Gr} {n m : Nat} (h : 0 < distR g n) (hn : n + 1 ≤ m) : ini1 g m (n + 1) = distR g n := by
  unfold ini1
  rw [if_pos ⟨by omega, hn, by simpa using h⟩]
  simp
theorem ini1_zero (g : Gr) (n : Nat) : ini1 g n 0 = -1 := by
  unfold ini1
  rw [if_neg (by omega)]
theorem MidV.next {n : Nat} {E : Nat → Nat → Prop} {R : Nat → Nat → Prop} {f0 f : Nat → Int} {i : Nat} {D D' : Nat → Prop} (h : MidV n E R f0 f i D) (hD : ∀ x, D' x → D x) : MidV n E R f0 f i D' :=
  ⟨h.mono, fun j x hj => h.proc j x (by
    rcases hj with hj | ⟨hj, hd⟩
    · exact Or.inl hj
    · exact Or.inr ⟨hj, hD x hd⟩), h.old, h.snd, h.lo⟩
/-- What the walk needs of a graph's references. -/
structure EdV (g : Gr) (n : Nat) (E : Nat → Nat → Prop) (R : Nat → Nat → Prop) : Prop where
  to_ : ∀ i q x, i < n → q < fl g i → targetR g i q n = (1, x) → E (i + 1) x ∧ 1 ≤ x ∧ x ≤ n
  of_ : ∀ i x, i < n → E (i + 1) x → ∃ q, q < fl g i ∧ targetR g i q n = (1, x)
  step : ∀ i x r, E i x → R i r → R x r
/-- The ranks' list in memory; what was there ahead stays. -/
structure RkI (wB : World) (kb n : Nat) (f : Nat → Int) (w : World) : Prop where
  row : Row w kb 3 (rkV n f)
  bel : Below wB.heap.size wB w
  ge : wB.heap.size ≤ kb
section
variable {wB w w' : World} {kb n : Nat} {f f' : Nat → Int}
theorem RkI.read (h : RkI wB kb n f w) (hb : Below w.heap.size w w') : RkI wB kb n f w' := ⟨h.row.below hb, h.bel.trans (hb.mono h.bel.size), h.ge⟩
theorem RkI.set (h : RkI wB kb n f w) (j : Nat) (v : Int) : RkI wB kb n (fun k => if k = j then v else f k) (w.setCell ⟨kb, j, none⟩ (.int .i64 v)) := ⟨rk_set h.row j v, h.bel.setCell h.ge _, h.ge⟩
theorem RkI.same (h : RkI wB kb n f w) (e : ∀ j, j ≤ n → f j = f' j) : RkI wB kb n f' w := ⟨rk_same h.row e, h.bel, h.ge⟩
theorem RkI.cell (h : RkI wB kb n f w) (j : Nat) (hj : j ≤ n) : w.cell? ⟨kb, j, none⟩ = some (.int .i64 (f j)) ∧ w.frozen? ⟨kb, j, none⟩ = false ∧ kb < w.heap.size := ⟨rk_cell h.row j hj, h.row.frozen j, h.row.lt⟩
theorem RkI.made (w : World) (o : Obj) (n : Nat) : RkI (w.alloc o) (w.heap.size + 1) n (fun _ => 0) ((w.alloc o).alloc (.cells (rkV n (fun _ => 0)).toArray 3)) := by
  have h := heap_alloc_new (w.alloc o) (.cells (rkV n (fun _ => 0)).toArray 3)
  rw [World.size_alloc] at h
  exact ⟨h, bel_alloc _ _, by simp⟩
end
set_option maxRecDepth 20000 in
set_option maxHeartbeats 4000000 in
theorem ranks_any {w : World} {B : Nat} {v vr vo vi : Value} {g : Gr} {rs : List (Int × Nat)} {E R : Nat → Nat → Prop} (x : GI w vr vo vi g) (hr : OwI w B v rs) (n : Nat) (hn : n ≤ 30) (hng : n ≤ g.refs.length) (hrs : ∀ r ∈ rs, r.1 = 1 ∧ 1 ≤ r.2 ∧ r.2 ≤ n) (hE : EdV g n E R) (hR : ∀ j, 0 ≤ ini2 g n rs j → 1 ≤ j ∧ j ≤ n ∧ R j (ini2 g n rs j).toNat) (hlr : rs.length ≤ 1000) :
    Calls Tryd.prog 15 #[.agg #[vr, vo, vi], .int .i64 (n : Int), v] w fun e w' => ∃ (f : Nat → Int) (kb : Nat), e = .returned (.slice (some ⟨kb, 0, none⟩) (n + 1) (n + 1)) ∧ Row w' kb 3 (rkV n f) ∧ w.heap.size ≤ kb ∧ RndV n E R (n + 1) f ∧ (∀ j, 0 ≤ ini2 g n rs j → 0 ≤ f j ∧ f j ≤ ini2 g n rs j) ∧ Below w.heap.size w w' := by
  obtain ⟨a1, c1, a2, c2, a3, c3, rfl, rfl, rfl⟩ := x.shape
  obtain ⟨ar, cr, rfl, hrc, _, hat⟩ := hr.at
  have hA : ∀ o, Below w.heap.size w (w.alloc o) := fun o => bel_alloc w o
  have HX : Hid _ := hidden x
  have HE : Hid _ := hidden hE
  have HR : Hid _ := hidden hR
  have hmk := make_ints n (by omega)
  have hn2 : (n : Int) ≤ 30 := by omega
  obtain ⟨wB, hwB⟩ : ∃ z, z = w.alloc (.cells #[.slice a1 g.refs.length c1, .slice a2 g.out.length c2, .slice a3 g.inn.length c3] 26) := ⟨_, rfl⟩
  have hbB : Below w.heap.size w wB := by rw [hwB]; exact hA _
  have hgw : w.heap.size < wB.heap.size := by rw [hwB]; simp
  have HD0 : Hid (∀ W : World, Below wB.heap.size wB W → W.cell? ⟨w.heap.size, 0, none⟩ = some (.slice a1 g.refs.length c1) ∧ W.cell? ⟨w.heap.size, 1, none⟩ = some (.slice a2 g.out.length c2) ∧ W.cell? ⟨w.heap.size, 2, none⟩ = some (.slice a3 g.inn.length c3) ∧ GI W (.slice a1 g.refs.length c1) (.slice a2 g.out.length c2) (.slice a3 g.inn.length c3) g ∧ w.heap.size < W.heap.size) := fun W hB => by
    refine ⟨(hB.cell (p := ⟨w.heap.size, 0, none⟩) hgw).trans (by rw [hwB]; simp), (hB.cell (p := ⟨w.heap.size, 1, none⟩) hgw).trans (by rw [hwB]; simp), (hB.cell (p := ⟨w.heap.size, 2, none⟩) hgw).trans (by rw [hwB]; simp), ?_, Nat.lt_of_lt_of_le hgw hB.size⟩
    exact HX.out.below (hbB.trans (hB.mono hbB.size))
  have HI : Hid (∀ W i (hB : Below wB.heap.size wB W) (hi : i < n), ∃ b o b4 c4 nk, a1 = some ⟨b, o, none⟩ ∧ b < W.heap.size ∧ W.cell? ⟨b, o + i, none⟩ = some (.slice b4 nk c4) ∧ (i : Int) < (g.refs.length : Int) ∧ (∀ k : Nat, k < fl g i → (k : Int) < (nk : Int) ∧ (k : Int) < 7) ∧ (fl g i = nk ∨ (fl g i = 7 ∧ 7 < nk)) ∧ ∃ h : i < g.refs.length, nk = g.refs[i].2.length) := fun W i hB hi => by
    have h1 : i < g.refs.length := by omega
    have hG := (HD0.out W hB).2.2.2.1
    obtain ⟨b, o, q1, q2, q3⟩ := WS.one (f := fun y : Value × List Int => y.1) hG.r i h1
    obtain ⟨a4, c4, q4, _⟩ := (hG.rs _ (List.getElem_mem h1)).slice
    rw [q4] at q3
    have hfl := fl_at h1
    exact ⟨b, o, a4, c4, _, q1, q2, q3, by omega, fun k hk => ⟨by omega, by omega⟩, by omega, h1, rfl⟩
  have HRT : Hid (∀ W i (hB : Below wB.heap.size wB W) (hi : i < rs.length), ∃ (b s : Nat), ar = some ⟨b, 0, none⟩ ∧ b < W.heap.size ∧ W.cell? ⟨b, i * 2, none⟩ = some (.int .i64 1) ∧ W.cell? ⟨b, i * 2 + 1, none⟩ = some (.int .u64 (s : Int)) ∧ 1 ≤ s ∧ s ≤ n ∧ rs.take (i + 1) = rs.take i ++ [(1, s)]) := fun W i hB hi => by
    obtain ⟨b, e, _, h2, h3, h4⟩ := hat i hi
    obtain ⟨p1, p2, p3⟩ := hrs _ (List.getElem_mem hi)
    have hB' := hbB.trans (hB.mono hbB.size)
    have e1 : rs[i] = (1, rs[i].2) := Prod.ext p1 rfl
    refine ⟨b, rs[i].2, e, Nat.lt_of_lt_of_le h2 hB'.size, (hB'.cell (p := ⟨b, i * 2, none⟩) h2).trans (by rw [h3, p1]), (hB'.cell (p := ⟨b, i * 2 + 1, none⟩) h2).trans h4, p2, p3, ?_⟩
    rw [← e1, List.take_succ_eq_append_getElem hi]
  have HW : Hid (∀ W, Below wB.heap.size wB W → Below w.heap.size w W) := fun W hB => hbB.trans (hB.mono hbB.size)
  have HM : Hid (RkI wB (w.heap.size + 1) n (fun _ => 0) (wB.alloc (.cells (rkV n (fun _ => 0)).toArray 3))) := by
    rw [hwB]
    exact RkI.made w _ n
  clear x hr hE hR hA hat hrs hng
  generalize (rkV n (fun _ => 0)).toArray = Z at *
  obtain ⟨nr, hnr⟩ : ∃ z, z = rs.length := ⟨_, rfl⟩
  rw [← hnr] at hrc HRT hlr ⊢
  have HNR : Hid (nr = rs.length) := hidden hnr
  have hnr2 : (nr : Int) ≤ 1000 := by omega
  clear hnr hgw
  go_enter Tryd.func15, Tryd.ntmps15
  go_wp2
  go_loopw [8] (fun t wr => ∃ (i : Nat) (f : Nat → Int), i ≤ n + 1 ∧ t = .int .i64 (i : Int) ∧ (∀ j, j < i → f j = ini1 g n j) ∧ RkI wB (w.heap.size + 1) n f wr) (fun t _ => n + 1 - (intOf t).toNat)
  case atStart =>
    refine ⟨0, fun _ => 0, by omega, rfl, fun j hj => absurd hj (Nat.not_lt_zero j), ?_⟩
    have := HM.out
    rw [← hwB]
    exact this
  case round =>
    obtain ⟨i, f, hi, rfl, hf, z⟩ := hrel
    by_cases hle : (i : Int) ≤ (n : Int)
    · obtain ⟨c0, c1', hkl⟩ := z.cell i (by omega)
      have HZ : Hid _ := hidden z
      have HF : Hid _ := hidden hf
      clear z hf
      go_upto_region 5 with fail
      go_cut [8] from 22 to 24 (fun a wc => a = .int .i64 (i : Int) ∧ RkI wB (w.heap.size + 1) n (fun k => if k = i then -1 else f k) wc)
      case first =>
        go_wp2
        go_meet
        exact ⟨rfl, HZ.out.set i (-1)⟩
      case rest =>
        obtain ⟨rfl, z⟩ := hcut
        clear HZ c0 c1' hkl
        cases i with
        | zero =>
          have HZ : Hid _ := hidden z
          clear z HF
          go_wp2
          go_roundw
          case rel =>
            refine ⟨1, _, by omega, by go_num, fun j hj => ?_, HZ.out⟩
            have e : j = 0 := by omega
            subst e
            rw [ini1_zero]
            rfl
          case measure => simp [intOf]
        | succ j =>
          obtain ⟨d0, d1, d2, gi, hgl⟩ := HD0.out wc z.bel
          have hD := fun W (hB : Below wc.heap.size wc W) => dist_any (gi.below hB) j
          have hcs : ((j + 1 : Nat) : Int) = (j : Int) + 1 := by omega
          rw [hcs] at hle ⊢
          have HZ : Hid _ := hidden z
          have HJ : Hid (j + 1 ≤ n) := by
            have e : j + 1 ≤ n := by omega
            exact e
          obtain ⟨dv, hdv⟩ : ∃ z, z = distR g j := ⟨_, rfl⟩
          rw [← hdv] at hD
          have HDV : Hid (dv = distR g j) := hidden hdv
          clear z gi hcs hdv
          by_cases hpos : 0 < dv
          · go_wp2_with fail
            refine (hD _ (Below.refl _ _)).mono ?_
            rintro e w5 ⟨rfl, b5⟩
            have z5 := HZ.out.read b5
            obtain ⟨d0', d1', d2', _, hgl'⟩ := HD0.out w5 z5.bel
            have HZ5 : Hid _ := hidden z5
            clear d0 d1 d2 hgl HZ z5
            go_wp2_with fail
            refine (hD _ b5).mono ?_
            rintro e w6 ⟨rfl, b6⟩
            have z6 := HZ5.out.read b6
            obtain ⟨c0, cf, hkl⟩ := z6.cell (j + 1) HJ.out
            have HZ6 : Hid _ := hidden z6
            clear d0' d1' d2' hgl' HZ5 z6 b5 b6 hD
            go_wp2
            go_roundw
            case rel =>
              refine ⟨j + 2, _, by omega, by go_num, fun q hq => ?_, HZ6.out.set (j + 1) dv⟩
              show (_ : Int) = _
              by_cases e : q = j + 1
              · rw [if_pos e, e, HDV.out, ini1_yes (by have := HDV.out; omega) HJ.out]
              · rw [if_neg e, if_neg e]
                exact HF.out q (by omega)
            case measure => simp [intOf]; omega
          · go_wp2_with fail
            refine (hD _ (Below.refl _ _)).mono ?_
            rintro e w5 ⟨rfl, b5⟩
            have HZ5 : Hid _ := hidden (HZ.out.read b5)
            clear d0 d1 d2 hgl HZ b5 hD
            go_wp2
            go_roundw
            case rel =>
              refine ⟨j + 2, _, by omega, by go_num, fun q hq => ?_, HZ5.out⟩
              show (_ : Int) = _
              by_cases e : q = j + 1
              · rw [if_pos e, e, ini1_no (by have := HDV.out; omega)]
              · rw [if_neg e]
                exact HF.out q (by omega)
            case measure => simp [intOf]; omega
    · have z1 : RkI wB (w.heap.size + 1) n (ini2 g n (rs.take 0)) wr := by
        rw [List.take_zero, ini2_nil]
        exact z.same (fun j hj => hf j (by omega))
      have HZ1 : Hid _ := hidden z1
      clear z z1 hf
      go_wp2
      go_loopw [9] (fun t wr => ∃ i : Nat, i ≤ nr ∧ t = .int .i64 (i : Int) ∧ RkI wB (w.heap.size + 1) n (ini2 g n (rs.take i)) wr) (fun t _ => nr - (intOf t).toNat)
      case atStart => exact ⟨0, Nat.zero_le _, rfl, HZ1.out⟩
      case round =>
        clear HZ1
        obtain ⟨i, hi, rfl, z⟩ := hrel
        by_cases hlt : (i : Int) < (nr : Int)
        · obtain ⟨b, s, rfl, hbl, q0, q1, hs1, hs2, htk⟩ := HRT.out _ i z.bel (by omega)
          obtain ⟨c0, cf, hkl⟩ := z.cell s hs2
          have hs3 : (s : Int) ≤ (n : Int) := by omega
          have hs4 : (s : Int) < (n : Int) + 1 := by omega
          have HZ : Hid (RkI wB (w.heap.size + 1) n (ini2 g n (rs.take (i + 1))) (wr.setCell ⟨w.heap.size + 1, s, none⟩ (.int .i64 0))) := by
            have h := z.set s 0
            rw [ini2_snoc, ← htk] at h
            exact h
          clear z htk
          go_wp2
          go_roundw
          case rel => exact ⟨i + 1, by omega, by go_num, HZ.out⟩
          case measure => simp [intOf]; omega
        · have z2 : RkI wB (w.heap.size + 1) n (ini2 g n rs) wr := by
            rw [List.take_of_length_le (by have := HNR.out; omega)] at z
            exact z
          have HZ2 : Hid _ := hidden z2
          have HRN : Hid (RndV n E R 0 (ini2 g n rs)) := RndV.zero HR.out (ini2_lo g n rs)
          clear z z2 HRT
          go_wp2
          go_loopw [10, 11, 12, 13] (fun t _ _ _ wr => ∃ (q : Nat) (f : Nat → Int), q ≤ n + 1 ∧ t = .int .i64 (q : Int) ∧ RkI wB (w.heap.size + 1) n f wr ∧ RndV n E R q f ∧ (∀ j, 0 ≤ ini2 g n rs j → 0 ≤ f j ∧ f j ≤ ini2 g n rs j)) (fun t _ _ _ _ => n + 1 - (intOf t).toNat)
          case atStart => exact ⟨0, _, Nat.zero_le _, rfl, HZ2.out, HRN.out, fun j hj => ⟨hj, Int.le_refl _⟩⟩
          case round =>
            clear HZ2 HRN
            obtain ⟨q, f0, hq, rfl, z, hrn, hin⟩ := hrel
            have HRN : Hid _ := hidden hrn
            have HIN : Hid _ := hidden hin
            by_cases hql : (q : Int) ≤ (n : Int)
            · have HZ3 : Hid _ := hidden z
              clear z hrn hin
              go_wp2
              go_loopw [11, 12, 13] (fun t _ _ wr => ∃ (i : Nat) (f : Nat → Int), i ≤ n ∧ t = .int .i64 ((i : Int) + 1) ∧ RkI wB (w.heap.size + 1) n f wr ∧ MidV n E R f0 f (i + 1) (fun _ => False)) (fun t _ _ _ => n + 1 - (intOf t).toNat)
              case atStart => exact ⟨0, f0, Nat.zero_le _, rfl, HZ3.out, HRN.out.start⟩
              case round =>
                clear HZ3
                obtain ⟨i, f, hi, rfl, z, hmd⟩ := hrel
                by_cases hil : (i : Int) + 1 ≤ (n : Int)
                · have HZ4 : Hid _ := hidden z
                  have HMD : Hid (MidV n E R f0 f (i + 1) (fun y => ∃ q, q < 0 ∧ targetR g i q n = (1, y))) := hmd.next (fun x hx => by
                    obtain ⟨_, h, _⟩ := hx
                    exact absurd h (Nat.not_lt_zero _))
                  clear z hmd
                  go_wp2
                  go_loopw [12, 13] (fun t _ wr => ∃ (k : Nat) (f : Nat → Int), k ≤ fl g i ∧ t = .int .i64 (k : Int) ∧ RkI wB (w.heap.size + 1) n f wr ∧ MidV n E R f0 f (i + 1) (fun y => ∃ q, q < k ∧ targetR g i q n = (1, y))) (fun t _ _ => fl g i - (intOf t).toNat)
                  case atStart => exact ⟨0, f, Nat.zero_le _, rfl, HZ4.out, HMD.out⟩
                  case round =>
                    clear HZ4 HMD
                    obtain ⟨k, f, hk, rfl, z, hmd⟩ := hrel
                    obtain ⟨b, o, a4, c4, nk, rfl, hbl, q1, hi2, hkk, hfe, hgl, hnk⟩ := HI.out wr i z.bel (by omega)
                    obtain ⟨d0, d1, d2, gi, hgs⟩ := HD0.out wr z.bel
                    obtain ⟨ci, cif, hkl⟩ := z.cell (i + 1) (by omega)
                    obtain ⟨fi, hfi⟩ : ∃ z, z = f (i + 1) := ⟨_, rfl⟩
                    rw [← hfi] at ci
                    have HFI : Hid (fi = f (i + 1)) := hidden hfi
                    have HZ5 : Hid _ := hidden z
                    have HMD : Hid _ := hidden hmd
                    clear z hmd hfi
                    have HEX : Hid ((fi < 0 ∨ fl g i ≤ k) → MidV n E R f0 f (i + 1 + 1) (fun _ => False)) := fun hx => by
                      refine HMD.out.done (fun x he h0 => ?_) (fun h => (HMD.out.mono _ h).1)
                      obtain ⟨q, h1, h2⟩ := HE.out.of_ i x (by omega) he
                      have := HFI.out
                      exact ⟨q, by omega, h2⟩
                    by_cases hpos : 0 ≤ fi
                    · by_cases hkf : k < fl g i
                      · obtain ⟨hk1, hk2⟩ := hkk k hkf
                        have hTg := target_any gi i k n hgl (by omega) (by omega) (by omega) (by omega) (by omega)
                        have HTO : Hid (∀ x, targetR g i k n = (1, x) → E (i + 1) x ∧ 1 ≤ x ∧ x ≤ n) := fun x => HE.out.to_ i k x (by omega) hkf
                        have HTE : Hid (∀ y, (∃ q, q < k + 1 ∧ targetR g i q n = (1, y)) → (∃ q, q < k ∧ targetR g i q n = (1, y)) ∨ targetR g i k n = (1, y)) := fun y hy => by
                          obtain ⟨q, h1, h2⟩ := hy
                          by_cases e : q = k
                          · rw [e] at h2
                            exact Or.inr h2
                          · exact Or.inl ⟨q, by omega, h2⟩
                        have HL : Hid (k + 1 ≤ fl g i) := hkf
                        generalize targetR g i k n = tg at *
                        obtain ⟨ta, ts⟩ := tg
                        simp only at hTg
                        clear gi hkk hfe hkf hk hnk hgl HEX
                        go_wp2_with fail
                        refine hTg.mono ?_
                        rintro e w6 ⟨rfl, b6⟩
                        have HZ6 : Hid _ := hidden (HZ5.out.read b6)
                        clear hTg b6 d0 d1 d2 hgs q1 hbl ci cif hkl HZ5
                        go_upto_region 23 with fail
                        obtain ⟨w7, hw7⟩ : ∃ z, z = w6.alloc (.cells #[.int .i64 ta, .int .u64 (ts : Int)] 47) := ⟨_, rfl⟩
                        rw [← hw7]
                        have b7 : Below w6.heap.size w6 w7 := by rw [hw7]; exact bel_alloc _ _
                        have HB7 : Hid (∀ W, Below w7.heap.size w7 W → W.cell? ⟨w6.heap.size, 0, none⟩ = some (.int .i64 ta) ∧ W.cell? ⟨w6.heap.size, 1, none⟩ = some (.int .u64 (ts : Int)) ∧ w6.heap.size < W.heap.size) := fun W hB => by
                          have hl : w6.heap.size < w7.heap.size := by rw [hw7]; simp
                          refine ⟨(hB.cell (p := ⟨w6.heap.size, 0, none⟩) hl).trans (by rw [hw7]; simp), (hB.cell (p := ⟨w6.heap.size, 1, none⟩) hl).trans (by rw [hw7]; simp), Nat.lt_of_lt_of_le hl hB.size⟩
                        have HZ7 : Hid _ := hidden (HZ6.out.read b7)
                        have hbn := fun m => below_drewN0 w7 m
                        have P0 : ∀ m, (w7.drewN m).cell? ⟨w6.heap.size, 0, none⟩ = some (.int .i64 ta) := fun m => (HB7.out _ (hbn m)).1
                        have P1 : ∀ m, (w7.drewN m).cell? ⟨w6.heap.size, 1, none⟩ = some (.int .u64 (ts : Int)) := fun m => (HB7.out _ (hbn m)).2.1
                        have P2 : ∀ m, (w7.drewN m).cell? ⟨w.heap.size + 1, i + 1, none⟩ = some (.int .i64 fi) := fun m => by
                          have := ((HZ7.out.read (hbn m)).cell (i + 1) (by omega)).1
                          rw [← HFI.out] at this
                          exact this
                        clear hw7 b7 HZ6 hbn
                        by_cases h1 : ta = 1
                        · subst h1
                          obtain ⟨hed, ht1, ht2⟩ := HTO.out ts rfl
                          obtain ⟨fx, hfx⟩ : ∃ z, z = f ts := ⟨_, rfl⟩
                          have P3 : ∀ m, (w7.drewN m).cell? ⟨w.heap.size + 1, ts, none⟩ = some (.int .i64 fx) := fun m => by
                            have := ((HZ7.out.read (below_drewN0 w7 m)).cell ts ht2).1
                            rw [← hfx] at this
                            exact this
                          have HFX : Hid (fx = f ts) := hidden hfx
                          have HED : Hid _ := hidden hed
                          have HT2 : Hid (ts ≤ n) := ht2
                          have hts : (ts : Int) < (n : Int) + 1 := by omega
                          have hii1 : (i : Int) + 1 < (n : Int) + 1 := by omega
                          have HLK : Hid (∀ f', f' = (fun j => if j = ts then (if f ts < 0 ∨ f (i + 1) < f ts then f (i + 1) else f ts) else f j) → MidV n E R f0 f' (i + 1) (fun y => ∃ q, q < k + 1 ∧ targetR g i q n = (1, y))) := fun f' e => by
                            refine HMD.out.look (x := ts) (by have := HFI.out; omega) HED.out ⟨ht1, ht2⟩ (fun r hr => HE.out.step _ _ r HED.out hr) e (fun y hy => ?_)
                            rcases HTE.out y hy with h | h
                            · exact Or.inl h
                            · simp only [Prod.mk.injEq, true_and] at h
                              exact Or.inr h.symm
                          clear hfx hed ht1 ht2
                          by_cases hb : fx < 0 ∨ fi < fx
                          · have HNX : Hid (MidV n E R f0 (fun j => if j = ts then fi else f j) (i + 1) (fun y => ∃ q, q < k + 1 ∧ targetR g i q n = (1, y))) := HLK.out _ (by
                              have h1 := HFX.out
                              have h2 := HFI.out
                              funext j
                              rw [← h1, ← h2, if_pos hb])
                            have HBB : Hid (fx < 0 ∨ fi < fx) := hb
                            clear HLK hb
                            go_cut [130] from 108 to 130 (fun t wd => t = .bool true ∧ Below w7.heap.size w7 wd)
                            case first =>
                              by_cases hneg : fx < 0
                              · have hn1 : decide (fx < 0) = true := decide_eq_true hneg
                                go_quiet (fail)
                                go_wp2
                                go_meet
                                exact ⟨by simp, below_drewN0 _ _⟩
                              · have hn1 : decide (fx < 0) = false := decide_eq_false hneg
                                have hn2 : decide (fi < fx) = true := decide_eq_true (HBB.out.resolve_left hneg)
                                go_quiet (fail)
                                go_wp2
                                go_meet
                                exact ⟨by simp, below_drewN0 _ _⟩
                            case rest =>
                              obtain ⟨rfl, hb2⟩ := hcut
                              have z8 := HZ7.out.read hb2
                              obtain ⟨e0, e1, e2⟩ := HB7.out _ hb2
                              obtain ⟨cx, cxf, ckl⟩ := z8.cell ts HT2.out
                              obtain ⟨ci, _, _⟩ := z8.cell (i + 1) (by omega)
                              rw [← HFX.out] at cx
                              rw [← HFI.out] at ci
                              have HZ8 : Hid _ := hidden z8
                              clear P0 P1 P2 P3 hb2 z8 e0
                              go_upto_region 24 with fail
                              have HZ9 : Hid (∀ W, Below wc.heap.size wc W → RkI wB (w.heap.size + 1) n (fun j => if j = ts then fi else f j) (W.setCell ⟨w.heap.size + 1, ts, none⟩ (.int .i64 fi))) := fun W hB => (HZ8.out.read hB).set ts fi
                              go_region
                              all_goals
                                go_wp2
                                go_roundw
                                case rel => exact ⟨k + 1, _, HL.out, by go_num, HZ9.out _ (Below.refl _ _).drew, HNX.out⟩
                                case measure => have := HL.out; simp [intOf]; omega
                          · have HNX : Hid (MidV n E R f0 f (i + 1) (fun y => ∃ q, q < k + 1 ∧ targetR g i q n = (1, y))) := HLK.out _ (by
                              have h1 := HFX.out
                              have h2 := HFI.out
                              funext j
                              rw [← h1, ← h2, if_neg hb]
                              by_cases e : j = ts
                              · rw [if_pos e, e, h1]
                              · rw [if_neg e])
                            have hb1 : decide (fx < 0) = false := decide_eq_false (fun h => hb (Or.inl h))
                            have hb2 : decide (fi < fx) = false := decide_eq_false (fun h => hb (Or.inr h))
                            clear hb HLK
                            go_cut [130] from 108 to 130 (fun t wd => t = .bool false ∧ Below w7.heap.size w7 wd)
                            case first =>
                              go_quiet (fail)
                              go_wp2
                              go_meet
                              exact ⟨by simp, below_drewN0 _ _⟩
                            case rest =>
                              obtain ⟨rfl, hb2⟩ := hcut
                              have HZ8 : Hid _ := hidden (HZ7.out.read hb2)
                              clear P0 P1 P2 P3 hb2
                              go_wp2
                              go_roundw
                              case rel => exact ⟨k + 1, f, HL.out, by go_num, HZ8.out, HNX.out⟩
                              case measure => have := HL.out; simp [intOf]; omega
                        · have HNX : Hid (MidV n E R f0 f (i + 1) (fun y => ∃ q, q < k + 1 ∧ targetR g i q n = (1, y))) := HMD.out.next (fun y hy => by
                            rcases HTE.out y hy with h | h
                            · exact h
                            · simp only [Prod.mk.injEq] at h
                              exact absurd h.1 h1)
                          have h1' : (ta == 1) = false := by simpa using h1
                          go_cut [130] from 108 to 130 (fun t wd => t = .bool false ∧ Below w7.heap.size w7 wd)
                          case first =>
                            clear P1 P2
                            go_quiet (fail)
                            go_wp2
                            go_meet
                            exact ⟨by simp, below_drewN0 _ _⟩
                          case rest =>
                            obtain ⟨rfl, hb2⟩ := hcut
                            have HZ8 : Hid _ := hidden (HZ7.out.read hb2)
                            clear P0 P1 P2 hb2
                            go_wp2
                            go_roundw
                            case rel => exact ⟨k + 1, f, HL.out, by go_num, HZ8.out, HNX.out⟩
                            case measure => have := HL.out; simp [intOf]; omega
                      · have HZ : Hid _ := hidden HZ5.out
                        have HD : Hid _ := hidden (HEX.out (Or.inr (by omega)))
                        rcases hfe with hfe | hfe
                        · have hk1 : ¬ (k : Int) < (nk : Int) := by omega
                          clear gi hkk hnk hgl HEX
                          go_wp2
                          go_roundw
                          case rel => exact ⟨i + 1, f, by omega, by go_num, HZ.out, HD.out⟩
                          case measure => simp [intOf]; omega
                        · have hk1 : (k : Int) < (nk : Int) := by omega
                          have hk2 : ¬ (k : Int) < 7 := by omega
                          clear gi hkk hnk hgl HEX
                          go_wp2
                          go_roundw
                          case rel => exact ⟨i + 1, f, by omega, by go_num, HZ.out, HD.out⟩
                          case measure => simp [intOf]; omega
                    · have HD : Hid _ := hidden (HEX.out (Or.inl (by omega)))
                      clear gi hkk hfe hnk hgl HEX
                      go_wp2
                      go_roundw
                      case rel => exact ⟨i + 1, f, by omega, by go_num, HZ5.out, HD.out⟩
                      case measure => simp [intOf]; omega
                · have HZ4 : Hid _ := hidden z
                  have hin1 : i = n := by omega
                  subst hin1
                  have HRN2 : Hid _ := hidden (hmd.ends HRN.out)
                  have HIN2 : Hid (∀ j, 0 ≤ ini2 g i rs j → 0 ≤ f j ∧ f j ≤ ini2 g i rs j) := fun j hj => by
                    have a := HIN.out j hj
                    have b := hmd.mono j a.1
                    omega
                  clear z hmd
                  go_wp2
                  go_roundw
                  case rel => exact ⟨q + 1, f, by omega, by go_num, HZ4.out, HRN2.out, HIN2.out⟩
                  case measure => simp [intOf]; omega
            · have hq1 : q = n + 1 := by omega
              subst hq1
              have HZ3 : Hid _ := hidden z
              clear z hrn hin
              go_wp2
              go_ret
              exact ⟨f0, w.heap.size + 1, rfl, HZ3.out.row, by omega, HRN.out, HIN.out, HW.out _ HZ3.out.bel⟩
end Go.Proofs.YtlabdbfmfejkaaaDoor
