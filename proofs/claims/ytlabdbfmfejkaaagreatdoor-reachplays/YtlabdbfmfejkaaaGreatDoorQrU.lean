/- The plain reacher's Outs: Put. -/
import Derived.Test.YtlabdbfmfejkaaaGreatDoorQrBP
import Derived.Test.YtlabdbfmfejkaaaGreatDoorPbQ
namespace Go.Proofs.YtlabdbfmfejkaaaGreatDoor
open Go.RowKit

section
variable {w w1 w5 : World} {B yb rb qb : Nat} {L : Nat → Nat} {s : QSt} {rv wv tv kv ov kv' ov' : Value} {ts : List ((Nat × List (Int × Nat)) × Value)}
/-- What stands there is stored: nothing changes. -/
theorem setCell_cell {w : World} {g j : Nat} {u : Value} {cur : Array Value} {T : TypeId} (hob : w.heap[g]? = some (.cells cur T (0, 0))) (hu : cur[j]? = some u) : w.setCell ⟨g, j, none⟩ u = w := by
  have hh : (w.setCell ⟨g, j, none⟩ u).heap = w.heap := by
    apply Array.ext_getElem?
    intro k
    by_cases e : k = g
    · subst e
      rw [heap_setCell_same w k j _ _ u hob, hob]
      congr 2
      apply Array.ext_getElem?
      intro m
      rw [Array.getElem?_setIfInBounds]
      split
      · next e2 =>
        subst e2
        rw [hu, if_pos (Array.getElem?_eq_some_iff.1 hu).1]
      · rfl
    · exact Below.heap_setCell _ _ _ _ e
  have e3 : w.setCell ⟨g, j, none⟩ u = { w with heap := (w.setCell ⟨g, j, none⟩ u).heap } := rfl
  rw [e3, hh]
/-- A list of IDs: what stands there. -/
theorem OwI.again {w : World} {B g n cap : Nat} {l : List (Int × Nat)} (h : OwI w B (.slice (some ⟨g, 0, none⟩) n cap) l) {j : Nat} {u : Value} (hu : (idsV l)[j]? = some u) : w.setCell ⟨g, j, none⟩ u = w := by
  rcases h.2 with ⟨e, _⟩ | ⟨g', cap', cur, e, _, hg, _, _, _, ht⟩
  · cases e
  · simp only [Value.slice.injEq, Option.some.injEq, Addr.mk.injEq] at e
    obtain ⟨⟨rfl, _⟩, _⟩ := e
    refine setCell_cell hg ?_
    rw [← ht, List.getElem?_take] at hu
    split at hu
    · simpa using hu
    · cases hu
/-- Another table. -/
theorem RcQ.table (x : RcQ w B yb rb qb L s rv wv tv kv ov ts) (hb : Below w.heap.size w w5) {l : List (Int × Nat)} (hk : w5.ownsRow w.heap.size 44 1 kv' l.length (l.map (fun x => uV (keyI x)))) (hv : OwI w5 w.heap.size ov' l) (hd : ∀ k, kv'.ownBlock = some k → ov'.ownBlock ≠ some k) :
    QcGo w ((w5.setCell ⟨yb, 10, none⟩ kv').setCell ⟨yb, 11, none⟩ ov') B yb rb qb L { s with outs := l } ∧ w5.cell? ⟨yb, 10, none⟩ = some kv ∧ w5.cell? ⟨yb, 11, none⟩ = some ov ∧ w5.frozen? ⟨yb, 10, none⟩ = false ∧ w5.frozen? ⟨yb, 11, none⟩ = false ∧ yb < w5.heap.size := by
  have y := x.below hb
  have hyl := x.bl
  have hks : Kept w5 ((w5.setCell ⟨yb, 10, none⟩ kv').setCell ⟨yb, 11, none⟩ ov') (fun k => k = yb) := ((Kept.refl w5 (fun k => k = yb)).put ⟨yb, 10, none⟩ kv' rfl).put ⟨yb, 11, none⟩ ov' rfl
  have hall : Kept w ((w5.setCell ⟨yb, 10, none⟩ kv').setCell ⟨yb, 11, none⟩ ov') (fun k => L k = 0) := (kept_of_below hb _).trans (hks.mono (fun k _ e => by
    have e' : k = yb := e
    rw [e', x.l0])) (fun _ _ e => e)
  have hn : ∀ k, kv'.ownBlock = some k → w.heap.size ≤ k := fun k e => (own_lt1 hk k e).1
  have hm : ∀ k, ov'.ownBlock = some k → w.heap.size ≤ k := fun k e => (own_lt1 hv k e).1
  have mono : ∀ {E : TypeId} {c m : Nat} {v : Value} {xs : List Value}, w5.ownsRow w.heap.size E c v m xs → w5.ownsRow B E c v m xs := fun h => by
    refine ⟨h.1, ?_⟩
    rcases h.2 with h1 | ⟨g, cap, cur, h0, h2, h3⟩
    · exact Or.inl h1
    · exact Or.inr ⟨g, cap, cur, h0, by omega, h3⟩
  exact ⟨x.upd (f := fun k => if kv'.ownBlock = some k then 3 else 4) hall (fun k _ e => by omega) ((y.box.set 10 kv').set 11 ov') (x.rl_k hall (fun k e => by omega)) x.ed (x.wl_k hall (fun k e => by omega)) (x.tl_k hall (fun k e => by omega)) (own_kept (mono hk) hks (fun k e e' => by have e' : k = yb := e'; have := hn k e; omega)) (OwI.kept (mono hv) hks (fun k e e' => by have e' : k = yb := e'; have := hm k e; omega)) (fun k e => Or.inl e) (fun k e => Or.inl e) (fun k e => Or.inr ⟨hn k e, if_pos e⟩) (fun k e => Or.inr ⟨hm k e, if_neg (fun e2 => hd k e2 e)⟩) (fun k e => Or.inl e) (fun e he k h => Or.inl ⟨e, he, h⟩),
    y.box.cell 10 (by simp [rqV]), y.box.cell 11 (by simp [rqV]), y.box.frozen 10, y.box.frozen 11, y.box.lt⟩
set_option maxRecDepth 20000 in
set_option maxHeartbeats 4000000 in
theorem iput_any (x : RcQ w B yb rb qb L s rv wv tv kv ov ts) (id : Int × Nat) (hid : namesB id = true) (hou : OutL s.outs) (hl : s.outs.length < 1000000) (k : Nat) (hk : k = keyI id) :
    Calls Tryz.prog 71 #[.pointer (some ⟨yb, 9, none⟩), .int .u64 (k : Int), .agg #[.int .i64 id.1, .int .u64 (id.2 : Int)]] w fun e w' => e = .returned (.bool true) ∧ QcGo w w' B yb rb qb L { s with outs := meetL s.outs id } := by
  have HK : Hid _ := hidden hk
  have hPl := fun o => iplace_any ((x.below (bel_alloc w o)).box.cell 10 (by simp [rqV])) (x.below (bel_alloc w o)).box.lt (x.below (bel_alloc w o)).kl (by omega) k
  have HX : Hid _ := hidden x
  have hql := x.box.lt
  clear x hk
  obtain ⟨ia, iN⟩ := id
  go_enter Tryz.func71, Tryz.ntmps71
  go_wp2_with fail
  refine (hPl _).mono ?_
  rintro e w1 ⟨i, ok, rfl, hpa, b1⟩
  clear hPl
  have r1 : Row w1 w.heap.size 55 [.int .i64 ia, .int .u64 (iN : Int)] := (show Row (w.alloc (.cells #[.int .i64 ia, .int .u64 (iN : Int)] 55)) w.heap.size 55 _ from heap_alloc_new w _).below b1
  have hbw : Below w.heap.size w w1 := (bel_alloc _ _).trans (b1.mono (by simp))
  have hz1 : w.heap.size < w1.heap.size := r1.lt
  have d0 := r1.cell 0 (by simp)
  have d1 := r1.cell 1 (by simp)
  simp only [List.getElem_cons_succ, List.getElem_cons_zero] at d0 d1
  clear b1
  cases ok with
  | true =>
    have hx1 := HX.out.below hbw
    rw [HK.out] at hpa
    obtain ⟨hme, hget⟩ := hpa.yes hou hid
    obtain ⟨hi, hge⟩ := List.getElem?_eq_some_iff.1 hget
    have HS : Hid ({ s with outs := meetL s.outs (ia, iN) } = s) := by
      have e : { s with outs := meetL s.outs (ia, iN) } = s := by rw [hme]
      exact e
    obtain ⟨g, cap, hv, _, hgl, hcap, hc, hf⟩ := ownc_cell hx1.ol (by omega)
    have c11 : w1.cell? ⟨yb, 11, none⟩ = some ov := hx1.box.cell 11 (by simp [rqV])
    rw [hv] at c11
    obtain ⟨u0, u1⟩ := idsV_at s.outs i hi
    rw [hge] at u0 u1
    have q0 := hc _ _ u0
    have q1 := hc _ _ u1
    have f0 := hf (i * 2)
    have f1 := hf (i * 2 + 1)
    have hii : (i : Int) < (s.outs.length : Int) := by omega
    have hql1 := hx1.box.lt
    have hgw : g ≠ w.heap.size := by
      intro e
      have h1 : ov.ownBlock = some g := by rw [hv]; rfl
      have := (HX.out.ol.ge g h1).2
      omega
    have HR : Hid (QcGo w (((w1.setCell ⟨g, i * 2, none⟩ (.int .i64 ia)).setCell ⟨g, i * 2 + 1, none⟩ (.int .u64 (iN : Int)))).drew B yb rb qb L s) := by
      have hol := hx1.ol
      rw [hv] at hol
      have e1 : w1.setCell ⟨g, i * 2, none⟩ (.int .i64 ia) = w1 := hol.again u0
      have e2 : w1.setCell ⟨g, i * 2 + 1, none⟩ (.int .u64 (iN : Int)) = w1 := hol.again u1
      rw [e1, e2]
      exact QcN.stay ⟨_, _, _, _, _, _, HX.out⟩ (hbw.drew)
    clear hx1 hc hf hpa HX HK hme hid hou hget hge hv r1 hbw u0 u1
    go_wp2
    go_region
    all_goals
      go_wp2
      go_ret
      rw [HS.out]
      exact ⟨rfl, HR.out⟩
  | false =>
    have hx1 := HX.out.below hbw
    obtain ⟨ao, cap, hkv, hcap1, hcap2, _⟩ := own_slice hx1.kl
    obtain ⟨vo, vcap, hvv, hvcap1, hvcap2, _⟩ := own_slice hx1.ol
    unfold maxLen at hcap2 hvcap2
    have c6 : w1.cell? ⟨yb, 9, none⟩ = some (.int .i64 1048576) := hx1.box.cell 9 (by simp [rqV])
    have c7 : w1.cell? ⟨yb, 10, none⟩ = some kv := hx1.box.cell 10 (by simp [rqV])
    rw [hkv] at c7
    have hile := hpa.le
    obtain ⟨n, hn⟩ : ∃ n, n = s.outs.length := ⟨_, rfl⟩
    have HNL : Hid (n = s.outs.length) := hn
    have HL' : Hid ((s.outs.take i ++ ([(ia, iN)] ++ s.outs.drop i)).length = n + 1) := by
      have h2 : (s.outs.take i ++ ([(ia, iN)] ++ s.outs.drop i)).length = n + 1 := by
        rw [List.length_append, List.length_append, List.length_take, List.length_drop]
        simp
        omega
      exact h2
    have HKs : Hid ((s.outs.take i ++ ([(ia, iN)] ++ s.outs.drop i)).map (fun x => uV (keyI x)) = (s.outs.map (fun x => uV (keyI x))).take (i * 1) ++ ([.int .u64 (k : Int)] ++ (s.outs.map (fun x => uV (keyI x))).drop (i * 1))) := by
      have h : (s.outs.take i ++ ([(ia, iN)] ++ s.outs.drop i)).map (fun x => uV (keyI x)) = (s.outs.map (fun x => uV (keyI x))).take (i * 1) ++ ([.int .u64 (k : Int)] ++ (s.outs.map (fun x => uV (keyI x))).drop (i * 1)) := by
        rw [Nat.mul_one, List.map_append, List.map_append, List.map_take, List.map_drop, HK.out]
        rfl
      exact h
    have HVs : Hid (idsV (s.outs.take i ++ ([(ia, iN)] ++ s.outs.drop i)) = (idsV s.outs).take (i * 2) ++ ([.int .i64 ia, .int .u64 (iN : Int)] ++ (idsV s.outs).drop (i * 2))) := by
      have h : idsV (s.outs.take i ++ ([(ia, iN)] ++ s.outs.drop i)) = (idsV s.outs).take (i * 2) ++ ([.int .i64 ia, .int .u64 (iN : Int)] ++ (idsV s.outs).drop (i * 2)) := by
        rw [idsV_app, idsV_app, idsV_take, idsV_drop]
        rfl
      exact h
    have HME : Hid (meetL s.outs (ia, iN) = s.outs.take i ++ ([(ia, iN)] ++ s.outs.drop i)) := by
      rw [HK.out] at hpa
      exact hpa.no
    generalize s.outs.take i ++ ([(ia, iN)] ++ s.outs.drop i) = L' at *
    have h1k : Hid (∀ u ∈ s.outs.map (fun x => uV (keyI x)), u.oneCell' = true) := by
      intro u hu
      obtain ⟨o, _, rfl⟩ := List.mem_map.1 hu
      rfl
    have h1v := hidden (idsV_one s.outs)
    obtain ⟨i0, hi0, hz0, hzs, hzb⟩ := info_parts Tryz.infoW
    obtain ⟨j0, hj0, hy0, hys, hyb⟩ := info_parts Tryz.infoID
    rw [← hn] at hcap1 hvcap1 hile hkv hvv c7 hl
    clear hn
    have hli : ¬ (1048576 : Int) ≤ (n : Int) := by omega
    have hql1 := hx1.box.lt
    have HX1 : Hid _ := hidden hx1
    have HBW : Hid _ := hidden hbw
    have HR1 : Hid _ := hidden r1
    clear hx1 hpa hid HK hbw r1 d0 d1
    go_upto_region 5 with fail
    go_cut [34] from 25 to 34 (fun t wc => t = .bool false ∧ Below w1.heap.size w1 wc)
    case first =>
      go_quiet (fail)
      go_wp2
      go_meet
      exact ⟨congrArg Value.bool (by first | exact decide_eq_false (by omega) | rfl), below_drewN0 _ _⟩
    case rest =>
      obtain ⟨rfl, hb3⟩ := hcut
      obtain ⟨w3, hw3⟩ : ∃ x, x = wc := ⟨_, rfl⟩
      subst hw3
      have hX3 := HX1.out.below hb3
      have HB3 : Hid (Below w.heap.size w w3) := HBW.out.trans (hb3.mono HBW.out.size)
      have hR3 := HR1.out.below hb3
      clear HX1 HBW HR1 hb3 c6 c7 hql1 hz1
      have cF : w3.cell? ⟨yb, 10, none⟩ = some kv := hX3.box.cell 10 (by simp [rqV])
      rw [hkv] at cF
      have hbsz := hX3.box.lt
      have hkl := hX3.kl
      have hvl := hX3.ol
      rw [hkv, ← HNL.out] at hkl
      unfold OwI at hvl
      rw [hvv, ← HNL.out] at hvl
      obtain ⟨hr1, A, hAe, hr2⟩ := Sr.partsC hkl h1k.out i hile
      have hAe0 : (if cap = i then ao else Option.map (fun x => x.add i) ao) = A := by rw [← hAe, Nat.mul_one]
      clear hAe
      obtain ⟨hs1, A', hAe', hs2⟩ := Sr.partsC hvl h1v.out i hile
      have HX3 : Hid _ := hidden hX3
      have HR3 : Hid _ := hidden hR3
      clear hX3 hR3 hkl hvl
      generalize s.outs.map (fun x => uV (keyI x)) = ks at *
      generalize idsV s.outs = vs at *
      have hPc : i ≤ cap := by omega
      have hPv : i ≤ vcap := by omega
      go_upto_region 9 with fail
      have hE0 : Below w3.heap.size w3 w3.drew := (Below.refl _ _).drew
      have hE1 : ∀ o, Below w3.heap.size w3 (w3.alloc o).drew := fun o => ((Below.refl _ _).alloc (Nat.le_refl _) o).drew
      have hEn : ∀ o, (w3.alloc o).drew.heap[w3.heap.size]? = some o := fun o => heap_alloc_new w3 o
      have hCell : ∀ o, (w3.alloc o).cell? ⟨yb, 10, none⟩ = some (.slice ao n cap) := fun o => (Below.cell (p := ⟨yb, 10, none⟩) ((Below.refl w3.heap.size w3).alloc (Nat.le_refl _) o) hbsz).trans cF
      go_cut [9] from 35 to 52 (fun kr' wc => wc.ownsRow w3.heap.size 44 1 kr' (n + 1) (ks.take (i * 1) ++ ([.int .u64 (k : Int)] ++ ks.drop (i * 1))) ∧ Below w3.heap.size w3 wc)
      case first =>
        go_region_law (first
          | (refine step_append_sr rfl (.tmp 35) (.tmp 41) 45 rfl 44 i0 _ 1 8 Tryz.underlying45 hi0 hz0 hzs hzb rfl (by omega) w3.heap.size (.slice none 0 0) 0 [] rfl (World.ownsRow_nil _ _ _ _) _ i _ rfl (hr1.below hE0) (by omega) (by omega) hE0.size ?_; intro v6 w6 ho6 hk6 hm6; rw [Nat.zero_add, List.nil_append] at ho6; have hB6 : Below w3.heap.size w3 w6 := hE0.trans (hk6.below hE0.size (fun i hi e => by simp [Value.ownBlock] at e)); obtain ⟨ao6, c6, hv6⟩ := ownc_form ho6; subst hv6; have d6 := (hB6.cell (p := ⟨yb, 10, none⟩) hbsz).trans cF; have d6' : ∀ o, (w6.alloc o).cell? ⟨yb, 10, none⟩ = _ := fun o => (Below.cell (p := ⟨yb, 10, none⟩) ((Below.refl w6.heap.size w6).alloc (Nat.le_refl _) o) (Nat.lt_of_lt_of_le hbsz hB6.size)).trans d6; have hx6 : True := trivial)
          | (refine step_append_sr rfl (.tmp 35) (.tmp 41) 45 rfl 44 i0 _ 1 8 Tryz.underlying45 hi0 hz0 hzs hzb rfl (by omega) w3.heap.size (.slice none 0 0) 0 [] rfl (World.ownsRow_nil _ _ _ _) _ i _ rfl (hr1.below (hE1 _)) (by omega) (by omega) (hE1 _).size ?_; intro v6 w6 ho6 hk6 hm6; rw [Nat.zero_add, List.nil_append] at ho6; have hB6 : Below w3.heap.size w3 w6 := (hE1 _).trans (hk6.below (hE1 _).size (fun i hi e => by simp [Value.ownBlock] at e)); obtain ⟨ao6, c6, hv6⟩ := ownc_form ho6; subst hv6; have d6 := (hB6.cell (p := ⟨yb, 10, none⟩) hbsz).trans cF; have d6' : True := trivial; have hx6 := (hk6.block w3.heap.size (by simp [World.drew]) (fun e => by simp [Value.ownBlock] at e)).trans (hEn _))
          | (refine step_append_sr rfl (.tmp 42) (.tmp 44) 45 rfl 44 i0 _ 1 8 Tryz.underlying45 hi0 hz0 hzs hzb rfl (by omega) w3.heap.size (.slice ao6 _ c6) _ _ rfl (ho6.alloc _) _ 1 _ rfl (Sr.one1 (heap_alloc_new w6 (.cells #[.int .u64 (k : Int)] 44)) rfl (by simp [Value.oneCell'])) (by omega) (by omega) (by have := hB6.size; simp; omega) ?_; intro v7 w7 ho7 hk7 hm7; obtain ⟨ao7, c7, hv7⟩ := ownc_form ho7; subst hv7; have hB7 : Below w3.heap.size w3 w7 := (hB6.alloc hB6.size _).trans (hk7.below (by have := hB6.size; simp; omega) (fun i hi e => by have := (ho6.lt i e).1; omega)); have d7 := (hB7.cell (p := ⟨yb, 10, none⟩) hbsz).trans cF)
          | (refine step_append_sr rfl (.tmp 42) (.tmp 44) 45 rfl 44 i0 _ 1 8 Tryz.underlying45 hi0 hz0 hzs hzb rfl (by omega) w3.heap.size (.slice ao6 _ c6) _ _ rfl ho6 _ 1 _ rfl (Sr.one1 hx6 rfl (by simp [Value.oneCell'])) (by omega) (by omega) (by have := hB6.size; omega) ?_; intro v7 w7 ho7 hk7 hm7; obtain ⟨ao7, c7, hv7⟩ := ownc_form ho7; subst hv7; have hB7 : Below w3.heap.size w3 w7 := hB6.trans (hk7.below hB6.size (fun i hi e => by have := (ho6.lt i e).1; omega)); have d7 := (hB7.cell (p := ⟨yb, 10, none⟩) hbsz).trans cF)
          | (refine step_append_sr rfl (.tmp 45) (.tmp 51) 45 rfl 44 i0 _ 1 8 Tryz.underlying45 hi0 hz0 hzs hzb rfl (by omega) w3.heap.size (.slice ao7 _ c7) _ _ rfl ho7 _ (n - i) _ rfl (hr2.below hB7) (by omega) (by omega) (by have := hB7.size; omega) ?_; intro v8 w8 ho8 hk8 hm8; obtain ⟨ao8, c8', hv8⟩ := ownc_form ho8; subst hv8; have hB8 : Below w3.heap.size w3 w8 := hB7.trans (hk8.below hB7.size (fun i hi e => by have := (ho7.lt i e).1; omega))))
        all_goals
          have e9 : n + 1 = i + 1 + (n - i) := by omega
          have ho9 : w8.ownsRow w3.heap.size 44 1 (.slice ao8 (i + 1 + (n - i)) c8') (n + 1) (ks.take (i * 1) ++ ([.int .u64 (k : Int)] ++ ks.drop (i * 1))) := by
            rw [e9, ← List.append_assoc]
            exact ho8
          clear ho6 hk6 hm6 hB6 d6 d6' hx6 ho7 hk7 hm7 hB7 d7 ho8 hk8 hm8 e9
          go_simp
          go_wp2
          go_meet
          exact ⟨ho9, hB8⟩
      case rest =>
        obtain ⟨ho4, hB4⟩ := hcut
        obtain ⟨w4, hw4⟩ : ∃ x, x = wc := ⟨_, rfl⟩
        subst hw4
        have hX4 := HX3.out.below hB4
        obtain ⟨ak, ck, hkr⟩ := ownc_form ho4
        subst hkr
        clear hE0 hE1 hEn hCell cF hr1 hr2
        have cF : w4.cell? ⟨yb, 11, none⟩ = some ov := hX4.box.cell 11 (by simp [rqV])
        rw [hvv] at cF
        have hs1 := hs1.below hB4
        have hs2 := hs2.below hB4
        have hbsz := hX4.box.lt
        have hR4 := HR3.out.below hB4
        have e0 := hR4.cell 0 (by simp)
        have e1 := hR4.cell 1 (by simp)
        simp only [List.getElem_cons_succ, List.getElem_cons_zero] at e0 e1
        have hwz := hR4.lt
        clear hR4 hX4
        go_upto_region 10 with fail
        have hE0 : Below w4.heap.size w4 w4.drew := (Below.refl _ _).drew
        have hE1 : ∀ o, Below w4.heap.size w4 (w4.alloc o).drew := fun o => ((Below.refl _ _).alloc (Nat.le_refl _) o).drew
        have hEn : ∀ o, (w4.alloc o).drew.heap[w4.heap.size]? = some o := fun o => heap_alloc_new w4 o
        have hCell : ∀ o, (w4.alloc o).cell? ⟨yb, 11, none⟩ = some (.slice vo n vcap) := fun o => (Below.cell (p := ⟨yb, 11, none⟩) ((Below.refl w4.heap.size w4).alloc (Nat.le_refl _) o) hbsz).trans cF
        go_cut [10] from 53 to 70 (fun kr' wc => wc.ownsRow w4.heap.size 55 2 kr' (n + 1) (vs.take (i * 2) ++ ([.int .i64 ia, .int .u64 (iN : Int)] ++ vs.drop (i * 2))) ∧ Below w4.heap.size w4 wc)
        case first =>
          go_region_law (first
            | (refine step_append_sr rfl (.tmp 53) (.tmp 59) 46 rfl 55 j0 _ 2 16 Tryz.underlying46 hj0 hy0 hys hyb rfl (by omega) w4.heap.size (.slice none 0 0) 0 [] rfl (World.ownsRow_nil _ _ _ _) _ i _ rfl (hs1.below hE0) (by omega) (by omega) hE0.size ?_; intro v6 w6 ho6 hk6 hm6; rw [Nat.zero_add, List.nil_append] at ho6; have hB6 : Below w4.heap.size w4 w6 := hE0.trans (hk6.below hE0.size (fun i hi e => by simp [Value.ownBlock] at e)); obtain ⟨ao6, c6, hv6⟩ := ownc_form ho6; subst hv6; have d6 := (hB6.cell (p := ⟨yb, 11, none⟩) hbsz).trans cF; have d6' : ∀ o, (w6.alloc o).cell? ⟨yb, 11, none⟩ = _ := fun o => (Below.cell (p := ⟨yb, 11, none⟩) ((Below.refl w6.heap.size w6).alloc (Nat.le_refl _) o) (Nat.lt_of_lt_of_le hbsz hB6.size)).trans d6; have o6 := (hB6.cell (p := ⟨w.heap.size, 0, none⟩) hwz).trans e0; have o7 := (hB6.cell (p := ⟨w.heap.size, 1, none⟩) hwz).trans e1; have hww6 : w.heap.size < w6.heap.size := Nat.lt_of_lt_of_le hwz hB6.size; have hx6 : True := trivial)
            | (refine step_append_sr rfl (.tmp 53) (.tmp 59) 46 rfl 55 j0 _ 2 16 Tryz.underlying46 hj0 hy0 hys hyb rfl (by omega) w4.heap.size (.slice none 0 0) 0 [] rfl (World.ownsRow_nil _ _ _ _) _ i _ rfl (hs1.below (hE1 _)) (by omega) (by omega) (hE1 _).size ?_; intro v6 w6 ho6 hk6 hm6; rw [Nat.zero_add, List.nil_append] at ho6; have hB6 : Below w4.heap.size w4 w6 := (hE1 _).trans (hk6.below (hE1 _).size (fun i hi e => by simp [Value.ownBlock] at e)); obtain ⟨ao6, c6, hv6⟩ := ownc_form ho6; subst hv6; have d6 := (hB6.cell (p := ⟨yb, 11, none⟩) hbsz).trans cF; have d6' : True := trivial; have o6 := (hB6.cell (p := ⟨w.heap.size, 0, none⟩) hwz).trans e0; have o7 := (hB6.cell (p := ⟨w.heap.size, 1, none⟩) hwz).trans e1; have hww6 : w.heap.size < w6.heap.size := Nat.lt_of_lt_of_le hwz hB6.size; have hx6 := (hk6.block w4.heap.size (by simp [World.drew]) (fun e => by simp [Value.ownBlock] at e)).trans (hEn _))
            | (refine step_append_sr rfl (.tmp 60) (.tmp 62) 46 rfl 55 j0 _ 2 16 Tryz.underlying46 hj0 hy0 hys hyb rfl (by omega) w4.heap.size (.slice ao6 _ c6) _ _ rfl (ho6.alloc _) _ 1 _ rfl (Sr.one1 (heap_alloc_new w6 (.cells #[.int .i64 ia, .int .u64 (iN : Int)] 55)) rfl (by simp [Value.oneCell'])) (by omega) (by omega) (by have := hB6.size; simp; omega) ?_; intro v7 w7 ho7 hk7 hm7; obtain ⟨ao7, c7, hv7⟩ := ownc_form ho7; subst hv7; have hB7 : Below w4.heap.size w4 w7 := (hB6.alloc hB6.size _).trans (hk7.below (by have := hB6.size; simp; omega) (fun i hi e => by have := (ho6.lt i e).1; omega)); have d7 := (hB7.cell (p := ⟨yb, 11, none⟩) hbsz).trans cF)
            | (refine step_append_sr rfl (.tmp 60) (.tmp 62) 46 rfl 55 j0 _ 2 16 Tryz.underlying46 hj0 hy0 hys hyb rfl (by omega) w4.heap.size (.slice ao6 _ c6) _ _ rfl ho6 _ 1 _ rfl (Sr.one1 hx6 rfl (by simp [Value.oneCell'])) (by omega) (by omega) (by have := hB6.size; omega) ?_; intro v7 w7 ho7 hk7 hm7; obtain ⟨ao7, c7, hv7⟩ := ownc_form ho7; subst hv7; have hB7 : Below w4.heap.size w4 w7 := hB6.trans (hk7.below hB6.size (fun i hi e => by have := (ho6.lt i e).1; omega)); have d7 := (hB7.cell (p := ⟨yb, 11, none⟩) hbsz).trans cF)
            | (refine step_append_sr rfl (.tmp 63) (.tmp 69) 46 rfl 55 j0 _ 2 16 Tryz.underlying46 hj0 hy0 hys hyb rfl (by omega) w4.heap.size (.slice ao7 _ c7) _ _ rfl ho7 _ (n - i) _ rfl (hs2.below hB7) (by omega) (by omega) (by have := hB7.size; omega) ?_; intro v8 w8 ho8 hk8 hm8; obtain ⟨ao8, c8', hv8⟩ := ownc_form ho8; subst hv8; have hB8 : Below w4.heap.size w4 w8 := hB7.trans (hk8.below hB7.size (fun i hi e => by have := (ho7.lt i e).1; omega))))
          all_goals
            have e9 : n + 1 = i + 1 + (n - i) := by omega
            have ho9 : w8.ownsRow w4.heap.size 55 2 (.slice ao8 (i + 1 + (n - i)) c8') (n + 1) (vs.take (i * 2) ++ ([.int .i64 ia, .int .u64 (iN : Int)] ++ vs.drop (i * 2))) := by
              rw [e9, ← List.append_assoc]
              exact ho8
            clear ho6 hk6 hm6 hB6 d6 d6' hx6 ho7 hk7 hm7 hB7 d7 ho8 hk8 hm8 e9
            go_simp
            go_wp2
            go_meet
            exact ⟨ho9, hB8⟩
        case rest =>
          obtain ⟨ho5, hB5⟩ := hcut
          obtain ⟨w5, hw5⟩ : ∃ x, x = wc := ⟨_, rfl⟩
          subst hw5
          obtain ⟨av, cv, hvr⟩ := ownc_form ho5
          subst hvr
          have hB35 : Below w3.heap.size w3 w5 := hB4.trans (hB5.mono hB4.size)
          have hB05 : Below w.heap.size w w5 := HB3.out.trans (hB35.mono HB3.out.size)
          have mono3 : ∀ {E : TypeId} {c m b : Nat} {v : Value} {l : List Value}, w5.ownsRow b E c v m l → w.heap.size ≤ b → w5.ownsRow w.heap.size E c v m l := fun h hb => by
            refine ⟨h.1, ?_⟩
            rcases h.2 with h1 | ⟨g, cap, cur, h0, h2, h3⟩
            · exact Or.inl h1
            · exact Or.inr ⟨g, cap, cur, h0, Nat.le_trans hb h2, h3⟩
          have ok5 := own_kept ho4 (kept_of_below hB5 (fun _ => False)) (fun _ _ e => e)
          obtain ⟨q0, q7, q8, f7, f8, hq5⟩ := HX.out.table hB05 (kv' := .slice ak (n + 1) ck) (ov' := .slice av (n + 1) cv) (l := L')
            (by rw [HKs.out, HL'.out]; exact mono3 ok5 HB3.out.size)
            (by unfold OwI; rw [HVs.out, HL'.out]; exact mono3 ho5 (Nat.le_trans HB3.out.size hB4.size))
            (fun j hj hj' => by have h1 := (ownc_lt ho4 j hj).2; have h2 := (ownc_lt ho5 j hj').1; omega)
          have HQ : Hid _ := hidden q0
          rw [hkv] at q7
          rw [hvv] at q8
          clear q0 ho4 ho5 hB4 hB5 hB35 hB05 mono3 ok5 hE0 hE1 hEn hCell cF hs1 hs2 e0 e1
          go_wp2
          go_ret
          rw [HME.out]
          exact ⟨rfl, HQ.out⟩
end
end Go.Proofs.YtlabdbfmfejkaaaGreatDoor
