/- Scan. -/
import Derived.Test.YtbgaejjoomnklaaDoorPaE
namespace Go.Proofs.YtbgaejjoomnklaaDoor
open Go.RowKit

section
variable {w w' : World} {pb hb base sb mb tb : Nat} {v v' : Value} {p p' : PSt} {F G : Nat → Prop} {h : HSt}
set_option maxRecDepth 20000 in
set_option maxHeartbeats 1000000 in
theorem scan_none (x : PX w pb hb base sb mb tb v p) (y : HP w hb F h) (s : Nat) (hs : s < 18446744073709551616) (hg : getC h.cs s = none) :
    Calls Tryd.prog 14 #[.pointer (some ⟨pb, 0, none⟩), .int .u64 (s : Int)] w fun e w' => e = .returned (.bool false) ∧ Below w.heap.size w w' := by
  have c0 := x.c0
  have hO := y.objNo s hs hg
  unfold zO at hO
  have hc := fun W (hB : Below w.heap.size w W) => (x.below hB).c3
  have hl := fun W (hB : Below w.heap.size w W) => (x.below hB).look1 s
  generalize markD p s = m at *
  obtain ⟨r0, g⟩ := m
  clear x y hg
  go_enter Tryd.func14, Tryd.ntmps14
  go_wp2_with fail
  refine hO.mono ?_
  rintro e w1 ⟨rfl, hb1⟩
  clear hO c0
  have hA : ∀ o, Below w.heap.size w (w1.alloc o) := fun o => hb1.trans ((bel_alloc w1 o).mono hb1.size)
  have c3 := fun o => hc _ (hA o)
  have hl1 := fun o => hl _ (hA o)
  have HB : Hid (∀ o o', Below w.heap.size w ((w1.alloc o).alloc o')) := fun o o' => (hA o).trans ((bel_alloc _ o').mono (hA o).size)
  clear hc hl hb1 hA
  go_wp2
  go_ret
  exact ⟨rfl, HB.out _ _⟩
set_option maxRecDepth 20000 in
set_option maxHeartbeats 1000000 in
theorem scan_no (x : PX w pb hb base sb mb tb v p) (y : HP w hb F h) (s : Nat) (hs : s < 18446744073709551616) (o : Oc) (hg : getC h.cs s = some o) (hm : (markD p s).2 = false) :
    Calls Tryd.prog 14 #[.pointer (some ⟨pb, 0, none⟩), .int .u64 (s : Int)] w fun e w' => e = .returned (.bool false) ∧ Below w.heap.size w w' := by
  have c0 := x.c0
  have hO := y.objOk s hs o hg
  unfold Pl.v at hO
  have hc := fun W (hB : Below w.heap.size w W) => (x.below hB).c3
  have hl := fun W (hB : Below w.heap.size w W) => (x.below hB).look1 s
  rw [hm] at hl
  generalize (markD p s).1 = r0 at *
  clear x y hg hm
  go_enter Tryd.func14, Tryd.ntmps14
  go_wp2_with fail
  refine hO.mono ?_
  rintro e w1 ⟨g1, g2, rfl, q1, q2, q3, q4, hb1⟩
  clear hO c0 q1 q2 q3 q4
  have hA : ∀ o, Below w.heap.size w (w1.alloc o) := fun o => hb1.trans ((bel_alloc w1 o).mono hb1.size)
  have c3 := fun o => hc _ (hA o)
  have hl1 := fun o => hl _ (hA o)
  have HB : Hid (∀ o o', Below w.heap.size w ((w1.alloc o).alloc o')) := fun o o' => (hA o).trans ((bel_alloc _ o').mono (hA o).size)
  clear hc hl hb1 hA
  go_wp2
  go_ret
  exact ⟨rfl, HB.out _ _⟩
theorem all_step (h : HSt) (p : PSt) (l : List (Int × Nat)) (r i : Nat) (hi : i < l.length) : PSt.all h p (l.take (i + 1)) r = (PSt.all h p (l.take i) r).shade h l[i] (r : Int) := by
  unfold PSt.all
  rw [List.take_succ_eq_append_getElem hi, List.foldl_append]
  rfl
set_option maxRecDepth 20000 in
set_option maxHeartbeats 2000000 in
theorem scan_ok (x : PX w pb hb base sb mb tb v p) (y : HP w hb F h) (hFG : ∀ k, F k → ¬ pBl pb sb mb tb v k) (hb0 : 0 < base) (s : Nat) (hs : s < 18446744073709551616) (o : Oc) (hg : getC h.cs s = some o) (r : Nat) (hm : markD p s = (r, true)) :
    Calls Tryd.prog 14 #[.pointer (some ⟨pb, 0, none⟩), .int .u64 (s : Int)] w fun e w' => e = .returned (.bool true) ∧ PGo w w' pb hb base (pBl pb sb mb tb v) (PSt.all h { p with ma := putA p.ma s (r, false) } o.rf r) := by
  have c0 := x.c0
  have hO := y.objOk s hs o hg
  have hlen := (y.ok.fl o (getC_mem hg).1).1
  unfold Pl.v at hO
  have hl := fun W (hB : Below w.heap.size w W) => (x.below hB).look1 s
  have hc := fun W (hB : Below w.heap.size w W) => (x.below hB).c3
  rw [hm] at hl
  have HX : Hid _ := hidden x
  have HY : Hid _ := hidden y
  clear x y hg hm
  go_enter Tryd.func14, Tryd.ntmps14
  go_wp2_with fail
  refine hO.mono ?_
  rintro e w1 ⟨g1, g2, rfl, q1, q2, q3, q4, hb1⟩
  clear hO c0 q2
  have hA : ∀ o, Below w.heap.size w (w1.alloc o) := fun o => hb1.trans ((bel_alloc w1 o).mono hb1.size)
  have c3 := fun o => hc _ (hA o)
  have hl1 := fun o => hl _ (hA o)
  have hg1 := q1.lt
  clear hl
  go_upto_region 5 with fail
  go_upto_region 6 with fail
  obtain ⟨w2, hw2⟩ : ∃ x, x = (w1.alloc (.cells #[.int .u64 (o.s : Int), .int .i64 (o.c : Int), .slice (some ⟨g1, 0, none⟩) o.rf.length o.rf.length, .slice (some ⟨g2, 0, none⟩) o.vl.length o.vl.length, .int .i64 (o.d : Int)] 78)).alloc (.cells #[.int .i64 (r : Int), .bool false] 90) := ⟨_, rfl⟩
  rw [← hw2]
  have b2 : Below w.heap.size w w2 := by rw [hw2]; exact (hA _).trans ((bel_alloc _ _).mono (hA _).size)
  have b12 : Below w1.heap.size w1 w2 := by rw [hw2]; exact (bel_alloc _ _).trans ((bel_alloc _ _).mono (by simp))
  have z2 : w2.heap.size = w1.heap.size + 2 := by rw [hw2]; simp
  have o2 : w2.cell? ⟨w1.heap.size, 2, none⟩ = some (.slice (some ⟨g1, 0, none⟩) o.rf.length o.rf.length) := by rw [hw2]; simp
  have m0 : w2.cell? ⟨w1.heap.size + 1, 0, none⟩ = some (.int .i64 (r : Int)) := by rw [hw2]; simp
  have m1 : w2.cell? ⟨w1.heap.size + 1, 1, none⟩ = some (.bool false) := by rw [hw2]; simp
  have q2 := q1.below b12
  have z := HX.out.below b2
  have hz1 := hb1.size
  have hD : Below w2.heap.size w2 w2.drew := ⟨rfl, rfl, rfl, Nat.le_refl _, fun _ _ => rfl⟩
  have hmb := HX.out.ma.lt
  obtain ⟨u, u', hu, hU, hZ⟩ := z.putM s r false
  obtain ⟨z3, k3⟩ := hZ _ (z.below hD)
  have hU1 := hU _ hu
  have hU2 := hU w2.drew hu
  have e3 := z.c3
  have k23 : Kept w2 (ChangeMaps.setBlock w2.drew mb u') (fun k => k = mb) := (kept_of_below hD _).trans k3 (fun _ _ e => e)
  have hgm : g1 ≠ mb := by omega
  have hom : w1.heap.size ≠ mb := by omega
  have hmm : w1.heap.size + 1 ≠ mb := by omega
  have q5 := q2.kept k23 hgm
  have o5 := cell_kept o2 k23 hom
  have m5 := cell_kept m0 k23 hmm
  have s5 := k23.size
  have K5 : Hid (Kept w (ChangeMaps.setBlock w2.drew mb u') (pBl pb sb mb tb v)) := hidden ((kept_of_below b2 _).trans k23 (fun _ _ e => Or.inr (Or.inr (Or.inl e))))
  have Z5 : Hid _ := hidden z3
  have HY5 : Hid _ := hidden (HY.out.kept K5.out (fun e => by have := HX.out.gek 0 e; omega) (fun k a b => hFG k a b))
  have L5 : Hid (∀ k, pBl pb sb mb tb v k → k < w.heap.size) := HX.out.lt
  have hFG2 := hFG
  have hgw : w.heap.size ≤ g1 := q3
  clear hU hZ hu z z3 k3 k23 hD b2 b12 q2 o2 hA hw2 q1 hb1 hl1 c3 hc hg1 q4 q3 hgm hom hmm hFG HX HY
  go_cut [] from 33 to 38 (fun wc => wc = ChangeMaps.setBlock w2.drew mb u')
  case first =>
    go_region
    all_goals
      go_wp2
      go_meet
      rfl
  case rest =>
    subst hcut
    generalize ChangeMaps.setBlock w2.drew mb u' = w5 at *
    clear hU1 hU2 e3 m1 m0
    have q5l := q5.lt
    have hbx : w1.heap.size + 1 < w5.heap.size := by omega
    have hbxw : w.heap.size ≤ w1.heap.size + 1 := by omega
    clear s5 z2 hz1
    generalize w1.heap.size + 1 = mx at *
    go_wp2
    go_loopw [42] (fun t wr => ∃ i : Nat, i ≤ o.rf.length ∧ t = .int .i64 (i : Int) ∧ PGo w5 wr pb hb base (pBl pb sb mb tb v) (PSt.all h { p with ma := putA p.ma s (r, false) } (o.rf.take i) r)) (fun t _ => o.rf.length - (intOf t).toNat)
    case atStart => exact ⟨0, Nat.zero_le _, rfl, Z5.out.pn.stay (Below.refl _ _)⟩
    case round =>
      obtain ⟨i, hi, rfl, hp⟩ := hrel
      by_cases hlt : i < o.rf.length
      · obtain ⟨e0, e1⟩ := idsV_at o.rf i hlt
        have hst := all_step h { p with ma := putA p.ma s (r, false) } o.rf r i hlt
        have qr := q5.kept hp.kept (fun e => by have := L5.out _ e; omega)
        have d0 := qr.at _ _ e0
        have d1 := qr.at _ _ e1
        have dm := cell_kept m5 hp.kept (fun e => by have := L5.out _ e; omega)
        have hyr := HY5.out.kept hp.kept (fun e => by have := Z5.out.gek 0 e; omega) (fun k a b => hFG2 k a b)
        have hrl := qr.lt
        have hml : mx < wr.heap.size := Nat.lt_of_lt_of_le hbx hp.kept.size
        obtain ⟨Gi, ⟨sb', mb', tb', v', xi, hGi⟩, hsub⟩ := hp.ex
        have hSh := fun ob => shade_any (xi.below (bel_alloc wr ob)) (hyr.below (bel_alloc wr ob)) o.rf[i].1 o.rf[i].2 (r : Int)
        have HST : Hid (∀ ob w2, PGo (wr.alloc ob) w2 pb hb base (pBl pb sb' mb' tb' v') ((PSt.all h { p with ma := putA p.ma s (r, false) } (o.rf.take i) r).shade h o.rf[i] (r : Int)) → PGo w5 w2 pb hb base (pBl pb sb mb tb v) (PSt.all h { p with ma := putA p.ma s (r, false) } (o.rf.take (i + 1)) r)) := fun ob w2 hg => by
          rw [hst]
          exact PGo.trans (fun k hk => hsub k ((hGi k).2 hk)) (hp.kept.trans (kept_of_below (bel_alloc wr ob) (fun _ => False)) (fun _ _ e => e.elim)) hg
        have HL : Hid (i + 1 ≤ o.rf.length) := hlt
        generalize o.rf[i] = y at *
        obtain ⟨a, n⟩ := y
        simp only at d0 d1 hSh
        generalize PSt.all h { p with ma := putA p.ma s (r, false) } (o.rf.take i) r = pi at *
        clear e0 e1 hst qr hyr xi hGi hsub hp q5 m5 o5 Z5 HY5 L5 K5
        go_wp2_with (go_at_call 12; refine (hSh _).mono ?_; rintro e w2 ⟨rfl, hg⟩; have HG : Hid _ := hidden (HST.out _ _ hg); clear hg hSh HST d0 d1 dm hrl hml)
        go_roundw
        case rel => exact ⟨i + 1, HL.out, by go_num, HG.out⟩
        case measure => have := HL.out; simp [intOf]; omega
      · have hE : i = o.rf.length := by omega
        subst hE
        rw [List.take_length] at hp
        have HG : Hid _ := hidden (PGo.trans (fun k hk => Or.inl hk) K5.out hp)
        clear hp q5 m5 o5 Z5 HY5 L5 K5
        generalize o.rf.length = N at *
        go_wp2
        go_ret
        exact ⟨rfl, HG.out⟩
end

end Go.Proofs.YtbgaejjoomnklaaDoor
