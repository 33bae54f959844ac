/- The plain table of what was met: Put. -/
import Derived.Test.YtdafpfdmnccelaaDoorPbJP
import Derived.Deep.RegionLaw
import Derived.Deep.CutRange
import Derived.Deep.CutBlock
import Derived.BigQuiet
namespace Go.Proofs.YtdafpfdmnccelaaDoor
open Go.RowKit

section
variable {w w1 : World} {qb rb base : Nat} {sv mv kv vv : Value} {p : PSt} {L : List ((Int × Nat) × Nat)}
/-- What Put makes. -/
def PutTo (w w' : World) (qb rb base : Nat) (sv mv kv vv : Value) (p : PSt) : Prop := ∃ kv' vv' L', RQ w' qb rb base sv mv kv' vv' p L' ∧ Kept w w' (qBl qb sv mv kv vv) ∧ Moved w kv kv' ∧ Moved w vv vv'
set_option maxRecDepth 20000 in
set_option maxHeartbeats 4000000 in
theorem rput_any (x : RQ w qb rb base sv mv kv vv p L) (id : Int × Nat) (r : Nat) (hid : namesB id = true) (hme : ∀ e ∈ p.me, namesB e.1 = true) (hl : L.length < 1000000) (k : Nat) (hk : k = keyI id) :
    Calls Tryd.prog 47 #[.pointer (some ⟨qb, 6, none⟩), .int .u64 (k : Int), .agg #[.int .i64 id.1, .int .u64 (id.2 : Int), .int .i64 (r : Int)]] w fun e w' => e = .returned (.bool true) ∧ PutTo w w' qb rb base sv mv kv vv { p with me := putA p.me id r } := by
  have HK : Hid _ := hidden hk
  have hPl := fun o => rplace_any (x.below (bel_alloc w o)) k
  have HX : Hid _ := hidden x
  have hql := x.box.lt
  clear x hk
  obtain ⟨ia, iN⟩ := id
  go_enter Tryd.func47, Tryd.ntmps47
  go_wp2_with fail
  refine (hPl _).mono ?_
  rintro e w1 ⟨i, ok, rfl, hpa, b1⟩
  clear hPl
  have r1 : Row w1 w.heap.size 104 [.int .i64 ia, .int .u64 (iN : Int), .int .i64 (r : Int)] := (show Row (w.alloc (.cells #[.int .i64 ia, .int .u64 (iN : Int), .int .i64 (r : Int)] 104)) w.heap.size 104 _ from heap_alloc_new w _).below b1
  have hbw : Below w.heap.size w w1 := (bel_alloc _ _).trans (b1.mono (by simp))
  have hz1 : w.heap.size < w1.heap.size := r1.lt
  have d0 := r1.cell 0 (by simp)
  have d1 := r1.cell 1 (by simp)
  have d2 := r1.cell 2 (by simp)
  simp only [List.getElem_cons_succ, List.getElem_cons_zero] at d0 d1 d2
  clear b1
  cases ok with
  | true =>
    have hx1 := HX.out.below hbw
    obtain ⟨y, hy, hey⟩ : ∃ y, L[i]? = some y ∧ y.1 = (ia, iN) := by
      rcases hpa.hi with ⟨y, hy, _, ho⟩ | ⟨_, h⟩
      · refine ⟨y, hy, keyI_inj (hme y (HX.out.srt.1.mem_iff.1 (List.mem_of_getElem? hy))) hid ?_⟩
        have := of_decide_eq_true ho.symm
        rw [this, HK.out]
      · cases h
    obtain ⟨yi, ym⟩ := y
    simp only at hey
    subst hey
    obtain ⟨g, cap, hv, hgl, hf, ⟨u0, u1, u2, c0, c1, c2⟩, hR⟩ := hx1.rank hy r
    have c8 : w1.cell? ⟨qb, 8, none⟩ = some vv := hx1.box.cell 8 (by simp)
    have hilt := (List.getElem?_eq_some_iff.1 hy).1
    have hii : (i : Int) < (L.length : Int) := by omega
    rw [hv] at c8
    have f0 := hf (i * 3)
    have f1 := hf (i * 3 + 1)
    have f2 := hf (i * 3 + 2)
    have HR : Hid (PutTo w (((w1.setCell ⟨g, i * 3, none⟩ (.int .i64 ia)).setCell ⟨g, i * 3 + 1, none⟩ (.int .u64 (iN : Int))).setCell ⟨g, i * 3 + 2, none⟩ (.int .i64 (r : Int))).drew qb rb base sv mv kv vv { p with me := putA p.me (ia, iN) r }) := by
      obtain ⟨q1, q2⟩ := hR w1 (Below.refl _ _)
      exact ⟨_, _, _, q1.below (Below.refl _ _).drew, ((kept_of_below hbw _).trans q2 (fun _ _ e => e)).trans (kept_of_below (Below.refl _ _).drew _) (fun _ _ e => e), Moved.refl _ _, Moved.refl _ _⟩
    have hql1 := hx1.box.lt
    have hll := HX.out.few.2.2.2.2
    have hgw : g ≠ w.heap.size := by
      intro e
      have h1 : vv.ownBlock = some g := by rw [hv]; rfl
      have := HX.out.lt g (Or.inr (Or.inr (Or.inr (Or.inr h1))))
      omega
    clear hx1 hR hf hpa hy HX HK hme hid hv r1 hbw
    go_wp2
    go_region
    all_goals
      go_wp2
      go_ret
      exact ⟨rfl, HR.out⟩
  | false =>
    have hx1 := HX.out.below hbw
    obtain ⟨ao, cap, hkv, hcap1, hcap2, _⟩ := own_slice hx1.kl
    obtain ⟨vo, vcap, hvv, hvcap1, hvcap2, _⟩ := own_slice hx1.vl
    unfold maxLen at hcap2 hvcap2
    have c6 : w1.cell? ⟨qb, 6, none⟩ = some (.int .i64 1048576) := hx1.box.cell 6 (by simp)
    have c7 : w1.cell? ⟨qb, 7, none⟩ = some kv := hx1.box.cell 7 (by simp)
    rw [hkv] at c7
    have hile := hpa.le
    obtain ⟨n, hn⟩ : ∃ n, n = L.length := ⟨_, rfl⟩
    have HNL : Hid (n = L.length) := hn
    have HL' : Hid (OutsOf (putA p.me (ia, iN) r) (L.take i ++ ([((ia, iN), r)] ++ L.drop i)) ∧ (L.take i ++ ([((ia, iN), r)] ++ L.drop i)).length = n + 1) := by
      have h1 := outs_ins HX.out.srt (by rw [← HK.out]; exact hpa) r
      have h2 : (L.take i ++ ([((ia, iN), r)] ++ L.drop i)).length = n + 1 := by
        rw [List.length_append, List.length_append, List.length_take, List.length_drop]
        simp
        omega
      exact ⟨h1, h2⟩
    have HKs : Hid ((L.take i ++ ([((ia, iN), r)] ++ L.drop i)).map (fun o => uV (keyI o.1)) = (L.map (fun o => uV (keyI o.1))).take (i * 1) ++ ([.int .u64 (k : Int)] ++ (L.map (fun o => uV (keyI o.1))).drop (i * 1))) := by
      have h : (L.take i ++ ([((ia, iN), r)] ++ L.drop i)).map (fun o => uV (keyI o.1)) = (L.map (fun o => uV (keyI o.1))).take (i * 1) ++ ([.int .u64 (k : Int)] ++ (L.map (fun o => uV (keyI o.1))).drop (i * 1)) := by
        rw [Nat.mul_one, List.map_append, List.map_append, List.map_take, List.map_drop, HK.out]
        rfl
      exact h
    have HVs : Hid (osV (L.take i ++ ([((ia, iN), r)] ++ L.drop i)) = (osV L).take (i * 3) ++ ([.int .i64 ia, .int .u64 (iN : Int), .int .i64 (r : Int)] ++ (osV L).drop (i * 3))) := by
      have h : osV (L.take i ++ ([((ia, iN), r)] ++ L.drop i)) = (osV L).take (i * 3) ++ ([.int .i64 ia, .int .u64 (iN : Int), .int .i64 (r : Int)] ++ (osV L).drop (i * 3)) := by
        rw [osV_app, osV_app, osV_take, osV_drop]
        rfl
      exact h
    generalize L.take i ++ ([((ia, iN), r)] ++ L.drop i) = L' at *
    have h1k : Hid (∀ u ∈ L.map (fun o => uV (keyI o.1)), u.oneCell' = true) := by
      intro u hu
      obtain ⟨o, _, rfl⟩ := List.mem_map.1 hu
      rfl
    have h1v := hidden (osV_one L)
    obtain ⟨i0, hi0, hz0, hzs, hzb⟩ := info_parts Tryd.infoW
    obtain ⟨j0, hj0, hy0, hys, hyb⟩ := info_parts Tryd.infoOut
    rw [← hn] at hcap1 hvcap1 hile hkv hvv c7 hl
    clear hn
    have hli : ¬ (1048576 : Int) ≤ (n : Int) := by omega
    have hql1 := hx1.box.lt
    have HX1 : Hid _ := hidden hx1
    have HBW : Hid _ := hidden hbw
    have HR1 : Hid _ := hidden r1
    clear hx1 hpa hme hid HK hbw r1 d0 d1 d2
    go_upto_region 5 with fail
    go_cut [34] from 25 to 34 (fun t wc => t = .bool false ∧ Below w1.heap.size w1 wc)
    case first =>
      go_quiet (fail)
      go_wp2
      go_meet
      exact ⟨congrArg Value.bool (by first | exact decide_eq_false (by omega) | rfl), below_drewN0 _ _⟩
    case rest =>
      obtain ⟨rfl, hb3⟩ := hcut
      obtain ⟨w3, hw3⟩ : ∃ x, x = wc := ⟨_, rfl⟩
      subst hw3
      have hX3 := HX1.out.below hb3
      have HB3 : Hid (Below w.heap.size w w3) := HBW.out.trans (hb3.mono HBW.out.size)
      have hR3 := HR1.out.below hb3
      clear HX1 HBW HR1 hb3 c6 c7 hql1 hz1
      have cF : w3.cell? ⟨qb, 7, none⟩ = some kv := hX3.box.cell 7 (by simp)
      rw [hkv] at cF
      have hbsz := hX3.box.lt
      have hkl := hX3.kl
      have hvl := hX3.vl
      rw [hkv, ← HNL.out] at hkl
      rw [hvv, ← HNL.out] at hvl
      obtain ⟨hr1, A, hAe, hr2⟩ := Sr.partsC hkl h1k.out i hile
      have hAe0 : (if cap = i then ao else Option.map (fun x => x.add i) ao) = A := by rw [← hAe, Nat.mul_one]
      clear hAe
      obtain ⟨hs1, A', hAe', hs2⟩ := Sr.partsC hvl h1v.out i hile
      have HX3 : Hid _ := hidden hX3
      have HR3 : Hid _ := hidden hR3
      clear hX3 hR3 hkl hvl
      generalize L.map (fun o => uV (keyI o.1)) = ks at *
      generalize osV L = vs at *
      have hPc : i ≤ cap := by omega
      have hPv : i ≤ vcap := by omega
      go_upto_region 9 with fail
      have hE0 : Below w3.heap.size w3 w3.drew := (Below.refl _ _).drew
      have hE1 : ∀ o, Below w3.heap.size w3 (w3.alloc o).drew := fun o => ((Below.refl _ _).alloc (Nat.le_refl _) o).drew
      have hEn : ∀ o, (w3.alloc o).drew.heap[w3.heap.size]? = some o := fun o => heap_alloc_new w3 o
      have hCell : ∀ o, (w3.alloc o).cell? ⟨qb, 7, none⟩ = some (.slice ao n cap) := fun o => (Below.cell (p := ⟨qb, 7, none⟩) ((Below.refl w3.heap.size w3).alloc (Nat.le_refl _) o) hbsz).trans cF
      go_cut [9] from 35 to 52 (fun kr' wc => wc.ownsRow w3.heap.size 39 1 kr' (n + 1) (ks.take (i * 1) ++ ([.int .u64 (k : Int)] ++ ks.drop (i * 1))) ∧ Below w3.heap.size w3 wc)
      case first =>
        go_region_law (first
          | (refine step_append_sr rfl (.tmp 35) (.tmp 41) 42 rfl 39 i0 _ 1 8 Tryd.underlying42 hi0 hz0 hzs hzb rfl (by omega) w3.heap.size (.slice none 0 0) 0 [] rfl (World.ownsRow_nil _ _ _ _) _ i _ rfl (hr1.below hE0) (by omega) (by omega) hE0.size ?_; intro v6 w6 ho6 hk6 hm6; rw [Nat.zero_add, List.nil_append] at ho6; have hB6 : Below w3.heap.size w3 w6 := hE0.trans (hk6.below hE0.size (fun i hi e => by simp [Value.ownBlock] at e)); obtain ⟨ao6, c6, hv6⟩ := ownc_form ho6; subst hv6; have d6 := (hB6.cell (p := ⟨qb, 7, none⟩) hbsz).trans cF; have d6' : ∀ o, (w6.alloc o).cell? ⟨qb, 7, none⟩ = _ := fun o => (Below.cell (p := ⟨qb, 7, none⟩) ((Below.refl w6.heap.size w6).alloc (Nat.le_refl _) o) (Nat.lt_of_lt_of_le hbsz hB6.size)).trans d6; have hx6 : True := trivial)
          | (refine step_append_sr rfl (.tmp 35) (.tmp 41) 42 rfl 39 i0 _ 1 8 Tryd.underlying42 hi0 hz0 hzs hzb rfl (by omega) w3.heap.size (.slice none 0 0) 0 [] rfl (World.ownsRow_nil _ _ _ _) _ i _ rfl (hr1.below (hE1 _)) (by omega) (by omega) (hE1 _).size ?_; intro v6 w6 ho6 hk6 hm6; rw [Nat.zero_add, List.nil_append] at ho6; have hB6 : Below w3.heap.size w3 w6 := (hE1 _).trans (hk6.below (hE1 _).size (fun i hi e => by simp [Value.ownBlock] at e)); obtain ⟨ao6, c6, hv6⟩ := ownc_form ho6; subst hv6; have d6 := (hB6.cell (p := ⟨qb, 7, none⟩) hbsz).trans cF; have d6' : True := trivial; have hx6 := (hk6.block w3.heap.size (by simp [World.drew]) (fun e => by simp [Value.ownBlock] at e)).trans (hEn _))
          | (refine step_append_sr rfl (.tmp 42) (.tmp 44) 42 rfl 39 i0 _ 1 8 Tryd.underlying42 hi0 hz0 hzs hzb rfl (by omega) w3.heap.size (.slice ao6 _ c6) _ _ rfl (ho6.alloc _) _ 1 _ rfl (Sr.one1 (heap_alloc_new w6 (.cells #[.int .u64 (k : Int)] 39)) rfl (by simp [Value.oneCell'])) (by omega) (by omega) (by have := hB6.size; simp; omega) ?_; intro v7 w7 ho7 hk7 hm7; obtain ⟨ao7, c7, hv7⟩ := ownc_form ho7; subst hv7; have hB7 : Below w3.heap.size w3 w7 := (hB6.alloc hB6.size _).trans (hk7.below (by have := hB6.size; simp; omega) (fun i hi e => by have := (ho6.lt i e).1; omega)); have d7 := (hB7.cell (p := ⟨qb, 7, none⟩) hbsz).trans cF)
          | (refine step_append_sr rfl (.tmp 42) (.tmp 44) 42 rfl 39 i0 _ 1 8 Tryd.underlying42 hi0 hz0 hzs hzb rfl (by omega) w3.heap.size (.slice ao6 _ c6) _ _ rfl ho6 _ 1 _ rfl (Sr.one1 hx6 rfl (by simp [Value.oneCell'])) (by omega) (by omega) (by have := hB6.size; omega) ?_; intro v7 w7 ho7 hk7 hm7; obtain ⟨ao7, c7, hv7⟩ := ownc_form ho7; subst hv7; have hB7 : Below w3.heap.size w3 w7 := hB6.trans (hk7.below hB6.size (fun i hi e => by have := (ho6.lt i e).1; omega)); have d7 := (hB7.cell (p := ⟨qb, 7, none⟩) hbsz).trans cF)
          | (refine step_append_sr rfl (.tmp 45) (.tmp 51) 42 rfl 39 i0 _ 1 8 Tryd.underlying42 hi0 hz0 hzs hzb rfl (by omega) w3.heap.size (.slice ao7 _ c7) _ _ rfl ho7 _ (n - i) _ rfl (hr2.below hB7) (by omega) (by omega) (by have := hB7.size; omega) ?_; intro v8 w8 ho8 hk8 hm8; obtain ⟨ao8, c8', hv8⟩ := ownc_form ho8; subst hv8; have hB8 : Below w3.heap.size w3 w8 := hB7.trans (hk8.below hB7.size (fun i hi e => by have := (ho7.lt i e).1; omega))))
        all_goals
          have e9 : n + 1 = i + 1 + (n - i) := by omega
          have ho9 : w8.ownsRow w3.heap.size 39 1 (.slice ao8 (i + 1 + (n - i)) c8') (n + 1) (ks.take (i * 1) ++ ([.int .u64 (k : Int)] ++ ks.drop (i * 1))) := by
            rw [e9, ← List.append_assoc]
            exact ho8
          clear ho6 hk6 hm6 hB6 d6 d6' hx6 ho7 hk7 hm7 hB7 d7 ho8 hk8 hm8 e9
          go_simp
          go_wp2
          go_meet
          exact ⟨ho9, hB8⟩
      case rest =>
        obtain ⟨ho4, hB4⟩ := hcut
        obtain ⟨w4, hw4⟩ : ∃ x, x = wc := ⟨_, rfl⟩
        subst hw4
        have hX4 := HX3.out.below hB4
        obtain ⟨ak, ck, hkr⟩ := ownc_form ho4
        subst hkr
        clear hE0 hE1 hEn hCell cF hr1 hr2
        have cF : w4.cell? ⟨qb, 8, none⟩ = some vv := hX4.box.cell 8 (by simp)
        rw [hvv] at cF
        have hs1 := hs1.below hB4
        have hs2 := hs2.below hB4
        have hbsz := hX4.box.lt
        have hR4 := HR3.out.below hB4
        have e0 := hR4.cell 0 (by simp)
        have e1 := hR4.cell 1 (by simp)
        have e2 := hR4.cell 2 (by simp)
        simp only [List.getElem_cons_succ, List.getElem_cons_zero] at e0 e1 e2
        have hwz := hR4.lt
        clear hR4 hX4
        go_upto_region 10 with fail
        have hE0 : Below w4.heap.size w4 w4.drew := (Below.refl _ _).drew
        have hE1 : ∀ o, Below w4.heap.size w4 (w4.alloc o).drew := fun o => ((Below.refl _ _).alloc (Nat.le_refl _) o).drew
        have hEn : ∀ o, (w4.alloc o).drew.heap[w4.heap.size]? = some o := fun o => heap_alloc_new w4 o
        have hCell : ∀ o, (w4.alloc o).cell? ⟨qb, 8, none⟩ = some (.slice vo n vcap) := fun o => (Below.cell (p := ⟨qb, 8, none⟩) ((Below.refl w4.heap.size w4).alloc (Nat.le_refl _) o) hbsz).trans cF
        go_cut [10] from 53 to 70 (fun kr' wc => wc.ownsRow w4.heap.size 104 3 kr' (n + 1) (vs.take (i * 3) ++ ([.int .i64 ia, .int .u64 (iN : Int), .int .i64 (r : Int)] ++ vs.drop (i * 3))) ∧ Below w4.heap.size w4 wc)
        case first =>
          go_region_law (first
            | (refine step_append_sr rfl (.tmp 53) (.tmp 59) 96 rfl 104 j0 _ 3 24 Tryd.underlying96 hj0 hy0 hys hyb rfl (by omega) w4.heap.size (.slice none 0 0) 0 [] rfl (World.ownsRow_nil _ _ _ _) _ i _ rfl (hs1.below hE0) (by omega) (by omega) hE0.size ?_; intro v6 w6 ho6 hk6 hm6; rw [Nat.zero_add, List.nil_append] at ho6; have hB6 : Below w4.heap.size w4 w6 := hE0.trans (hk6.below hE0.size (fun i hi e => by simp [Value.ownBlock] at e)); obtain ⟨ao6, c6, hv6⟩ := ownc_form ho6; subst hv6; have d6 := (hB6.cell (p := ⟨qb, 8, none⟩) hbsz).trans cF; have d6' : ∀ o, (w6.alloc o).cell? ⟨qb, 8, none⟩ = _ := fun o => (Below.cell (p := ⟨qb, 8, none⟩) ((Below.refl w6.heap.size w6).alloc (Nat.le_refl _) o) (Nat.lt_of_lt_of_le hbsz hB6.size)).trans d6; have o6 := (hB6.cell (p := ⟨w.heap.size, 0, none⟩) hwz).trans e0; have o7 := (hB6.cell (p := ⟨w.heap.size, 1, none⟩) hwz).trans e1; have o8 := (hB6.cell (p := ⟨w.heap.size, 2, none⟩) hwz).trans e2; have hww6 : w.heap.size < w6.heap.size := Nat.lt_of_lt_of_le hwz hB6.size; have hx6 : True := trivial)
            | (refine step_append_sr rfl (.tmp 53) (.tmp 59) 96 rfl 104 j0 _ 3 24 Tryd.underlying96 hj0 hy0 hys hyb rfl (by omega) w4.heap.size (.slice none 0 0) 0 [] rfl (World.ownsRow_nil _ _ _ _) _ i _ rfl (hs1.below (hE1 _)) (by omega) (by omega) (hE1 _).size ?_; intro v6 w6 ho6 hk6 hm6; rw [Nat.zero_add, List.nil_append] at ho6; have hB6 : Below w4.heap.size w4 w6 := (hE1 _).trans (hk6.below (hE1 _).size (fun i hi e => by simp [Value.ownBlock] at e)); obtain ⟨ao6, c6, hv6⟩ := ownc_form ho6; subst hv6; have d6 := (hB6.cell (p := ⟨qb, 8, none⟩) hbsz).trans cF; have d6' : True := trivial; have o6 := (hB6.cell (p := ⟨w.heap.size, 0, none⟩) hwz).trans e0; have o7 := (hB6.cell (p := ⟨w.heap.size, 1, none⟩) hwz).trans e1; have o8 := (hB6.cell (p := ⟨w.heap.size, 2, none⟩) hwz).trans e2; have hww6 : w.heap.size < w6.heap.size := Nat.lt_of_lt_of_le hwz hB6.size; have hx6 := (hk6.block w4.heap.size (by simp [World.drew]) (fun e => by simp [Value.ownBlock] at e)).trans (hEn _))
            | (refine step_append_sr rfl (.tmp 60) (.tmp 62) 96 rfl 104 j0 _ 3 24 Tryd.underlying96 hj0 hy0 hys hyb rfl (by omega) w4.heap.size (.slice ao6 _ c6) _ _ rfl (ho6.alloc _) _ 1 _ rfl (Sr.one1 (heap_alloc_new w6 (.cells #[.int .i64 ia, .int .u64 (iN : Int), .int .i64 (r : Int)] 104)) rfl (by simp [Value.oneCell'])) (by omega) (by omega) (by have := hB6.size; simp; omega) ?_; intro v7 w7 ho7 hk7 hm7; obtain ⟨ao7, c7, hv7⟩ := ownc_form ho7; subst hv7; have hB7 : Below w4.heap.size w4 w7 := (hB6.alloc hB6.size _).trans (hk7.below (by have := hB6.size; simp; omega) (fun i hi e => by have := (ho6.lt i e).1; omega)); have d7 := (hB7.cell (p := ⟨qb, 8, none⟩) hbsz).trans cF)
            | (refine step_append_sr rfl (.tmp 60) (.tmp 62) 96 rfl 104 j0 _ 3 24 Tryd.underlying96 hj0 hy0 hys hyb rfl (by omega) w4.heap.size (.slice ao6 _ c6) _ _ rfl ho6 _ 1 _ rfl (Sr.one1 hx6 rfl (by simp [Value.oneCell'])) (by omega) (by omega) (by have := hB6.size; omega) ?_; intro v7 w7 ho7 hk7 hm7; obtain ⟨ao7, c7, hv7⟩ := ownc_form ho7; subst hv7; have hB7 : Below w4.heap.size w4 w7 := hB6.trans (hk7.below hB6.size (fun i hi e => by have := (ho6.lt i e).1; omega)); have d7 := (hB7.cell (p := ⟨qb, 8, none⟩) hbsz).trans cF)
            | (refine step_append_sr rfl (.tmp 63) (.tmp 69) 96 rfl 104 j0 _ 3 24 Tryd.underlying96 hj0 hy0 hys hyb rfl (by omega) w4.heap.size (.slice ao7 _ c7) _ _ rfl ho7 _ (n - i) _ rfl (hs2.below hB7) (by omega) (by omega) (by have := hB7.size; omega) ?_; intro v8 w8 ho8 hk8 hm8; obtain ⟨ao8, c8', hv8⟩ := ownc_form ho8; subst hv8; have hB8 : Below w4.heap.size w4 w8 := hB7.trans (hk8.below hB7.size (fun i hi e => by have := (ho7.lt i e).1; omega))))
          all_goals
            have e9 : n + 1 = i + 1 + (n - i) := by omega
            have ho9 : w8.ownsRow w4.heap.size 104 3 (.slice ao8 (i + 1 + (n - i)) c8') (n + 1) (vs.take (i * 3) ++ ([.int .i64 ia, .int .u64 (iN : Int), .int .i64 (r : Int)] ++ vs.drop (i * 3))) := by
              rw [e9, ← List.append_assoc]
              exact ho8
            clear ho6 hk6 hm6 hB6 d6 d6' hx6 ho7 hk7 hm7 hB7 d7 ho8 hk8 hm8 e9
            go_simp
            go_wp2
            go_meet
            exact ⟨ho9, hB8⟩
        case rest =>
          obtain ⟨ho5, hB5⟩ := hcut
          obtain ⟨w5, hw5⟩ : ∃ x, x = wc := ⟨_, rfl⟩
          subst hw5
          obtain ⟨av, cv, hvr⟩ := ownc_form ho5
          subst hvr
          have hB35 : Below w3.heap.size w3 w5 := hB4.trans (hB5.mono hB4.size)
          have hB05 : Below w.heap.size w w5 := HB3.out.trans (hB35.mono HB3.out.size)
          have mono3 : ∀ {E : TypeId} {c m b : Nat} {v : Value} {l : List Value}, w5.ownsRow b E c v m l → w.heap.size ≤ b → w5.ownsRow w.heap.size E c v m l := fun h hb => by
            refine ⟨h.1, ?_⟩
            rcases h.2 with h1 | ⟨g, cap, cur, h0, h2, h3⟩
            · exact Or.inl h1
            · exact Or.inr ⟨g, cap, cur, h0, Nat.le_trans hb h2, h3⟩
          have ok5 := own_kept ho4 (kept_of_below hB5 (fun _ => False)) (fun _ _ e => e)
          obtain ⟨q0, q7, q8, f7, f8, hq5⟩ := HX.out.table hB05 (kv' := .slice ak (n + 1) ck) (vv' := .slice av (n + 1) cv) (L' := L') (me' := putA p.me (ia, iN) r)
            (by rw [HKs.out, HL'.out.2]; exact mono3 ok5 HB3.out.size)
            (by rw [HVs.out, HL'.out.2]; exact mono3 ho5 (Nat.le_trans HB3.out.size hB4.size))
            (fun j hj hj' => by have h1 := (ownc_lt ho4 j hj).2; have h2 := (ownc_lt ho5 j hj').1; omega) HL'.out.1 (by rw [HL'.out.2]; omega)
          have HQ : Hid _ := hidden q0
          rw [hkv] at q7
          rw [hvv] at q8
          clear q0 ho4 ho5 hB4 hB5 hB35 hB05 mono3 ok5 hE0 hE1 hEn hCell cF hs1 hs2 e0 e1 e2
          go_wp2
          go_ret
          exact ⟨rfl, _, _, _, HQ.out⟩
end
end Go.Proofs.YtdafpfdmnccelaaDoor
