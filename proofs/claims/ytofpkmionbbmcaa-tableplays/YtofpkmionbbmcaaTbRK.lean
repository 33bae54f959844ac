/- The plain table mooringref4.IntTable: Put. -/
import Derived.Test.YtofpkmionbbmcaaTbRI
namespace Go.Proofs.Ytofpkmionbbmcaa
open Go.RowKit

set_option maxRecDepth 20000 in
set_option maxHeartbeats 1000000 in
theorem putRI_has (b most : Nat) (es : List (Nat × Int)) (F : Nat → Prop) (k : Nat) (v : Int) (w : World) (h : TBRI w b most es F) (hb : hasE ltN es k = true) :
    Calls Try.prog 32 #[.pointer (some ⟨b, 0, none⟩), .int .u64 (k : Int), .int .i64 v] w fun e w' => e = .returned (.bool true) ∧ TBRI w' b most (es.set (pE ltN es k) (k, v)) F ∧ Kept w w' F := by
  have HF : Hid _ := hidden (placeRI_any b most es F k w h)
  rw [hb] at HF
  obtain ⟨hp, _⟩ := hasE_at hb
  obtain ⟨kr, vr, hx⟩ := h.tx
  obtain ⟨ao, cap, rfl, hnc, hcm, _⟩ := own_slice hx.vo
  obtain ⟨g, rfl, hgw, hc, hf⟩ := rowVUI hx.vo (pE ltN es k) hp
  have c2 := hx.c2
  have HE : Hid (TX 47 42 3 1 w b most kr (.slice (some ⟨g, 0, none⟩) es.length cap) es.length es.length ((es.set (pE ltN es k) (k, v)).map (fun e => kfU e.1)) (es.flatMap (fun e => vfUI e.2)) F) := by
    rw [setEUI es k v hb]; exact hx
  have HV : Hid ((es.set (pE ltN es k) (k, v)).flatMap (fun e => vfUI e.2) = splice (es.flatMap (fun e => vfUI e.2)) (pE ltN es k * 1) [.int .i64 v]) := set_flat (fun e : Nat × Int => vfUI e.2) 1 (fun _ => rfl) es _ hp (k, v)
  have HS : Hid (Srt ltN (keysE (es.set (pE ltN es k) (k, v)))) := by
    have := h.srt
    rw [← keys_set v hb] at this
    exact this
  have hle := h.le
  have hsm := h.small
  have hpi : (pE ltN es k : Int) < (es.length : Int) := by omega
  have hl1 : (es.set (pE ltN es k) (k, v)).length = es.length := by simp
  have HL : Hid _ := hidden hl1
  have HP : Hid _ := hidden hp
  generalize es.set (pE ltN es k) (k, v) = es' at *
  generalize es[pE ltN es k] = en at *
  generalize pE ltN es k = P at *
  clear hx h hl1 hgw hp
  unfold maxLen at hcm
  go_enter Try.func32, Try.ntmps32
  go_wp2_with (go_at_call 47; refine HF.out.mono ?_; rintro e w1 ⟨rfl, q, rfl⟩; have c2' : (w.drewN q).cell? ⟨b, 2, none⟩ = _ := c2; have hc' : (w.drewN q).cell? ⟨g, P, none⟩ = _ := hc; have hf' : (w.drewN q).frozen? ⟨g, P, none⟩ = _ := hf)
  go_ret
  have hx1 := HE.out.below (below_drewN w q)
  have hl := HL.out
  have hp := HP.out
  obtain ⟨ho2, hk2⟩ := own_setCells (o := P * 1) (cs := [.int .i64 v]) hx1.vo (by simp; omega)
  rw [← HV.out] at ho2
  have hes : (w.drewN q).setCells g (P * 1) [.int .i64 v] = (w.drewN q).setCell ⟨g, P, none⟩ (.int .i64 v) := by rw [Nat.mul_one]; rfl
  rw [hes] at ho2 hk2
  obtain ⟨hx2, hk3⟩ := hx1.turnV ho2 hk2
  exact ⟨rfl, ⟨⟨_, _, by rw [hl]; exact hx2⟩, HS.out, by omega, hsm⟩, (kept_of_below (below_drewN w q) F).trans hk3 (fun _ _ e => e)⟩

set_option maxRecDepth 20000 in
set_option maxHeartbeats 1000000 in
theorem putRI_full (b most : Nat) (es : List (Nat × Int)) (F : Nat → Prop) (k : Nat) (v : Int) (w : World) (h : TBRI w b most es F) (hb : hasE ltN es k = false) (hl : most ≤ es.length) :
    Calls Try.prog 32 #[.pointer (some ⟨b, 0, none⟩), .int .u64 (k : Int), .int .i64 v] w fun e w' => e = .returned (.bool false) ∧ ∃ q, w' = w.drewN q := by
  have HF : Hid _ := hidden (placeRI_any b most es F k w h)
  rw [hb] at HF
  obtain ⟨kr, vr, hx⟩ := h.tx
  obtain ⟨ao, cap, rfl, hnc, hcm, _⟩ := own_slice hx.ko
  have c1 := hx.c1
  have c0 := hx.c0
  have hli : (most : Int) ≤ (es.length : Int) := by omega
  clear hx h
  generalize pE ltN es k = P at *
  go_enter Try.func32, Try.ntmps32
  go_wp2_with (go_at_call 47; refine HF.out.mono ?_; rintro e w1 ⟨rfl, q, rfl⟩)
  go_quiet (fail)
  go_wp2
  go_ret
  exact ⟨rfl, q + nq, by first | rfl | simp⟩

/-- The two parts of a row that is its owner's, nil or not, as a walk cuts them. -/
theorem Sr.parts {w : World} {T : TypeId} {n cap base : Nat} {ao : Option Addr} {xs : List Value} (h : w.ownsRow base T 1 (.slice ao n cap) n xs) (h1 : ∀ u ∈ xs, u.oneCell' = true) (P : Nat) (hP : P ≤ n) :
    Sr w (.slice ao P cap) 1 P (xs.take (P * 1)) ∧ ∃ A, (if cap = P then ao else Option.map (fun x => x.add P) ao) = A ∧ Sr w (.slice A (n - P) (cap - P)) 1 (n - P) (xs.drop (P * 1)) := by
  rcases h.2 with ⟨hv, h0⟩ | ⟨g, cap', cur, hv, _, hg, hn, hcm, hs, ht⟩
  · cases hv
    have hx : xs = [] := List.eq_nil_of_length_eq_zero (by rw [h.1])
    subst hx
    have hP0 : P = 0 := by omega
    subst hP0
    exact ⟨⟨by simp, Or.inl ⟨rfl, rfl⟩, by simp⟩, none, by simp, ⟨by simp, Or.inl ⟨rfl, rfl⟩, by simp⟩⟩
  · cases hv
    have q1 := Sr.part h h1 0 P cap 0 (Or.inl (by omega)) (by omega)
    rw [Nat.zero_mul, List.drop_zero] at q1
    refine ⟨q1, ?_⟩
    have e2 : (xs.drop (P * 1)).take ((n - P) * 1) = xs.drop (P * 1) := List.take_of_length_le (by rw [List.length_drop, h.1]; omega)
    by_cases hc : cap = P
    · have q2 := Sr.part h h1 P (n - P) (cap - P) 0 (Or.inr (by omega)) (by omega)
      rw [e2] at q2
      exact ⟨_, by rw [if_pos hc], q2⟩
    · have q2 := Sr.part h h1 P (n - P) (cap - P) (P * 1) (Or.inl rfl) (by omega)
      rw [e2] at q2
      refine ⟨some ⟨g, P * 1, none⟩, ?_, q2⟩
      rw [if_neg hc]
      simp [Addr.add_at]

set_option maxRecDepth 20000 in
set_option maxHeartbeats 4000000 in
theorem putRI_new (b most : Nat) (es : List (Nat × Int)) (F : Nat → Prop) (k : Nat) (v : Int) (w : World) (h : TBRI w b most es F) (hb : hasE ltN es k = false) (hl : es.length < most) :
    Calls Try.prog 32 #[.pointer (some ⟨b, 0, none⟩), .int .u64 (k : Int), .int .i64 v] w fun e w' => ∃ F', e = .returned (.bool true) ∧ TBRI w' b most (insE es (pE ltN es k) k v) F' ∧ Kept w w' F ∧ GrownT w F F' := by
  have HF : Hid _ := hidden (placeRI_any b most es F k w h)
  rw [hb] at HF
  have hp := pE_le (lt := ltN) es k
  have HK : Hid _ := hidden (insEkUI es (pE ltN es k) k v)
  have HV : Hid _ := hidden (insEvUI es (pE ltN es k) k v)
  have HS : Hid (Srt ltN (keysE (insE es (pE ltN es k) k v))) := by
    rw [keys_ins]
    exact srt_ins koN k _ h.srt hb
  have hl1 : (insE es (pE ltN es k) k v).length = es.length + 1 := by simp [insE]; omega
  have HL : Hid _ := hidden hl1
  obtain ⟨kr, vr, hx⟩ := h.tx
  have HX : Hid _ := hidden hx
  have hsm := h.small
  generalize insE es (pE ltN es k) k v = es' at *
  generalize pE ltN es k = P at *
  obtain ⟨ao, cap, rfl, hnc, hcm, hao⟩ := own_slice hx.ko
  obtain ⟨vo, vcap, rfl, hvc, hvm, hvo⟩ := own_slice hx.vo
  have h1k := hidden (k1UI es)
  have h1v := hidden (v1UI es)
  obtain ⟨i0, hi0, hz0, hzs, hzb⟩ := info_parts Try.infoU
  obtain ⟨j0, hj0, hy0, hys, hyb⟩ := info_parts Try.infoI
  have c1 := hx.c1
  have c0 := hx.c0
  have hli : ¬ (most : Int) ≤ (es.length : Int) := by omega
  clear hx h hl1
  generalize es.map (fun e => kfU e.1) = ks at *
  generalize es.flatMap (fun e => vfUI e.2) = vs at *
  generalize es.length = n at *
  unfold maxLen at hcm hvm
  have hPc : P ≤ cap := by omega
  have hPv : P ≤ vcap := by omega
  go_enter Try.func32, Try.ntmps32
  go_wp2_with (go_at_call 47; refine HF.out.mono ?_; rintro e w1 ⟨rfl, q, rfl⟩; clear HF)
  go_quiet (fail)
  have hbd : Below w.heap.size w ((w.drewN q).drewN nq) := (below_drewN w q).trans (below_drewN (w.drewN q) nq)
  have hXd := HX.out.below hbd
  have hdw : Hid _ := hidden hbd
  generalize (w.drewN q).drewN nq = w3 at *
  clear hbd HX c1 c0 hli
  have c1 := hXd.c1
  have hbsz := hXd.lt b hXd.fb
  obtain ⟨hr1, A, hAe, hr2⟩ := Sr.parts hXd.ko h1k.out P hp
  obtain ⟨hs1, A', hAe', hs2⟩ := Sr.parts hXd.vo h1v.out P hp
  go_upto_region 9 with fail
  rw [show decide (most ≤ n) = false from decide_eq_false (by omega)]
  have hE0 : Below w3.heap.size w3 w3.drew := (Below.refl _ _).drew
  have hE1 : ∀ o, Below w3.heap.size w3 (w3.alloc o).drew := fun o => ((Below.refl _ _).alloc (Nat.le_refl _) o).drew
  have hEn : ∀ o, (w3.alloc o).drew.heap[w3.heap.size]? = some o := fun o => heap_alloc_new w3 o
  have hCell : ∀ o, (w3.alloc o).cell? ⟨b, 1, none⟩ = some (.slice ao n cap) := fun o => (Below.cell (p := ⟨b, 1, none⟩) ((Below.refl w3.heap.size w3).alloc (Nat.le_refl _) o) hbsz).trans c1
  go_cut [9] from 35 to 52 (fun kr' wc => wc.ownsRow w3.heap.size 42 1 kr' (n + 1) (ks.take (P * 1) ++ ([.int .u64 (k : Int)] ++ ks.drop (P * 1))) ∧ Below w3.heap.size w3 wc)
  case first =>
    go_region_law (first
      | (refine step_append_sr rfl (.tmp 35) (.tmp 41) 44 rfl 42 i0 _ 1 8 Try.underlying44 hi0 hz0 hzs hzb rfl (by omega) w3.heap.size (.slice none 0 0) 0 [] rfl (World.ownsRow_nil _ _ _ _) _ P _ rfl (hr1.below hE0) (by omega) (by omega) hE0.size ?_; intro v6 w6 ho6 hk6 hm6; rw [Nat.zero_add, List.nil_append] at ho6; have hB6 : Below w3.heap.size w3 w6 := hE0.trans (hk6.below hE0.size (fun i hi e => by simp [Value.ownBlock] at e)); obtain ⟨ao6, c6, hv6, _, _, _⟩ := own_slice ho6; subst hv6; have d6 := (hB6.cell (p := ⟨b, 1, none⟩) hbsz).trans c1; have d6' : ∀ o, (w6.alloc o).cell? ⟨b, 1, none⟩ = _ := fun o => (Below.cell (p := ⟨b, 1, none⟩) ((Below.refl w6.heap.size w6).alloc (Nat.le_refl _) o) (Nat.lt_of_lt_of_le hbsz hB6.size)).trans d6; have hx6 : True := trivial)
      | (refine step_append_sr rfl (.tmp 35) (.tmp 41) 44 rfl 42 i0 _ 1 8 Try.underlying44 hi0 hz0 hzs hzb rfl (by omega) w3.heap.size (.slice none 0 0) 0 [] rfl (World.ownsRow_nil _ _ _ _) _ P _ rfl (hr1.below (hE1 _)) (by omega) (by omega) (hE1 _).size ?_; intro v6 w6 ho6 hk6 hm6; rw [Nat.zero_add, List.nil_append] at ho6; have hB6 : Below w3.heap.size w3 w6 := (hE1 _).trans (hk6.below (hE1 _).size (fun i hi e => by simp [Value.ownBlock] at e)); obtain ⟨ao6, c6, hv6, _, _, _⟩ := own_slice ho6; subst hv6; have d6 := (hB6.cell (p := ⟨b, 1, none⟩) hbsz).trans c1; have d6' : True := trivial; have hx6 := (hk6.block w3.heap.size (by simp [World.drew]) (fun e => by simp [Value.ownBlock] at e)).trans (hEn _))
      | (refine step_append_sr rfl (.tmp 42) (.tmp 44) 44 rfl 42 i0 _ 1 8 Try.underlying44 hi0 hz0 hzs hzb rfl (by omega) w3.heap.size (.slice ao6 _ c6) _ _ rfl (ho6.alloc _) _ 1 _ rfl (Sr.one1 (heap_alloc_new w6 (.cells #[.int .u64 (k : Int)] 42)) rfl (by simp [Value.oneCell'])) (by omega) (by omega) (by have := hB6.size; simp; omega) ?_; intro v7 w7 ho7 hk7 hm7; obtain ⟨ao7, c7, hv7, _, _, _⟩ := own_slice ho7; subst hv7; have hB7 : Below w3.heap.size w3 w7 := (hB6.alloc hB6.size _).trans (hk7.below (by have := hB6.size; simp; omega) (fun i hi e => by have := (ho6.lt i e).1; omega)); have d7 := (hB7.cell (p := ⟨b, 1, none⟩) hbsz).trans c1)
      | (refine step_append_sr rfl (.tmp 42) (.tmp 44) 44 rfl 42 i0 _ 1 8 Try.underlying44 hi0 hz0 hzs hzb rfl (by omega) w3.heap.size (.slice ao6 _ c6) _ _ rfl ho6 _ 1 _ rfl (Sr.one1 hx6 rfl (by simp [Value.oneCell'])) (by omega) (by omega) (by have := hB6.size; omega) ?_; intro v7 w7 ho7 hk7 hm7; obtain ⟨ao7, c7, hv7, _, _, _⟩ := own_slice ho7; subst hv7; have hB7 : Below w3.heap.size w3 w7 := hB6.trans (hk7.below hB6.size (fun i hi e => by have := (ho6.lt i e).1; omega)); have d7 := (hB7.cell (p := ⟨b, 1, none⟩) hbsz).trans c1)
      | (refine step_append_sr rfl (.tmp 45) (.tmp 51) 44 rfl 42 i0 _ 1 8 Try.underlying44 hi0 hz0 hzs hzb rfl (by omega) w3.heap.size (.slice ao7 _ c7) _ _ rfl ho7 _ (n - P) _ rfl (hr2.below hB7) (by omega) (by omega) (by have := hB7.size; omega) ?_; intro v8 w8 ho8 hk8 hm8; obtain ⟨ao8, c8, hv8, _, _, _⟩ := own_slice ho8; subst hv8; have hB8 : Below w3.heap.size w3 w8 := hB7.trans (hk8.below hB7.size (fun i hi e => by have := (ho7.lt i e).1; omega))))
    all_goals
      have e9 : n + 1 = P + 1 + (n - P) := by omega
      have ho9 : w8.ownsRow w3.heap.size 42 1 (.slice ao8 (P + 1 + (n - P)) c8) (n + 1) (ks.take (P * 1) ++ ([.int .u64 (k : Int)] ++ ks.drop (P * 1))) := by
        rw [e9, ← List.append_assoc]
        exact ho8
      clear ho6 hk6 hm6 hB6 d6 d6' hx6 ho7 hk7 hm7 hB7 d7 ho8 hk8 hm8 e9
      go_simp
      go_wp2
      go_meet
      exact ⟨ho9, hB8⟩
  case rest =>
    obtain ⟨ho4, hB4⟩ := hcut
    obtain ⟨w4, hw4⟩ : ∃ x, x = wc := ⟨_, rfl⟩
    subst hw4
    have hX4 := hXd.below hB4
    obtain ⟨ak, ck, hkr, _, _, _⟩ := own_slice ho4
    subst hkr
    clear hE0 hE1 hEn hCell c1 hr1 hr2
    have c1 := hX4.c2
    have hs1 := hs1.below hB4
    have hs2 := hs2.below hB4
    have hbsz := hX4.lt b hX4.fb
    go_upto_region 10 with fail
    have hE0 : Below w4.heap.size w4 w4.drew := (Below.refl _ _).drew
    have hE1 : ∀ o, Below w4.heap.size w4 (w4.alloc o).drew := fun o => ((Below.refl _ _).alloc (Nat.le_refl _) o).drew
    have hEn : ∀ o, (w4.alloc o).drew.heap[w4.heap.size]? = some o := fun o => heap_alloc_new w4 o
    have hCell : ∀ o, (w4.alloc o).cell? ⟨b, 2, none⟩ = some (.slice vo n vcap) := fun o => (Below.cell (p := ⟨b, 2, none⟩) ((Below.refl w4.heap.size w4).alloc (Nat.le_refl _) o) hbsz).trans c1
    go_cut [10] from 53 to 70 (fun kr' wc => wc.ownsRow w4.heap.size 3 1 kr' (n + 1) (vs.take (P * 1) ++ ([.int .i64 v] ++ vs.drop (P * 1))) ∧ Below w4.heap.size w4 wc)
    case first =>
      go_region_law (first
        | (refine step_append_sr rfl (.tmp 53) (.tmp 59) 45 rfl 3 j0 _ 1 8 Try.underlying45 hj0 hy0 hys hyb rfl (by omega) w4.heap.size (.slice none 0 0) 0 [] rfl (World.ownsRow_nil _ _ _ _) _ P _ rfl (hs1.below hE0) (by omega) (by omega) hE0.size ?_; intro v6 w6 ho6 hk6 hm6; rw [Nat.zero_add, List.nil_append] at ho6; have hB6 : Below w4.heap.size w4 w6 := hE0.trans (hk6.below hE0.size (fun i hi e => by simp [Value.ownBlock] at e)); obtain ⟨ao6, c6, hv6, _, _, _⟩ := own_slice ho6; subst hv6; have d6 := (hB6.cell (p := ⟨b, 2, none⟩) hbsz).trans c1; have d6' : ∀ o, (w6.alloc o).cell? ⟨b, 2, none⟩ = _ := fun o => (Below.cell (p := ⟨b, 2, none⟩) ((Below.refl w6.heap.size w6).alloc (Nat.le_refl _) o) (Nat.lt_of_lt_of_le hbsz hB6.size)).trans d6; have hx6 : True := trivial)
        | (refine step_append_sr rfl (.tmp 53) (.tmp 59) 45 rfl 3 j0 _ 1 8 Try.underlying45 hj0 hy0 hys hyb rfl (by omega) w4.heap.size (.slice none 0 0) 0 [] rfl (World.ownsRow_nil _ _ _ _) _ P _ rfl (hs1.below (hE1 _)) (by omega) (by omega) (hE1 _).size ?_; intro v6 w6 ho6 hk6 hm6; rw [Nat.zero_add, List.nil_append] at ho6; have hB6 : Below w4.heap.size w4 w6 := (hE1 _).trans (hk6.below (hE1 _).size (fun i hi e => by simp [Value.ownBlock] at e)); obtain ⟨ao6, c6, hv6, _, _, _⟩ := own_slice ho6; subst hv6; have d6 := (hB6.cell (p := ⟨b, 2, none⟩) hbsz).trans c1; have d6' : True := trivial; have hx6 := (hk6.block w4.heap.size (by simp [World.drew]) (fun e => by simp [Value.ownBlock] at e)).trans (hEn _))
        | (refine step_append_sr rfl (.tmp 60) (.tmp 62) 45 rfl 3 j0 _ 1 8 Try.underlying45 hj0 hy0 hys hyb rfl (by omega) w4.heap.size (.slice ao6 _ c6) _ _ rfl (ho6.alloc _) _ 1 _ rfl (Sr.one1 (heap_alloc_new w6 (.cells #[.int .i64 v] 3)) rfl (by simp [Value.oneCell'])) (by omega) (by omega) (by have := hB6.size; simp; omega) ?_; intro v7 w7 ho7 hk7 hm7; obtain ⟨ao7, c7, hv7, _, _, _⟩ := own_slice ho7; subst hv7; have hB7 : Below w4.heap.size w4 w7 := (hB6.alloc hB6.size _).trans (hk7.below (by have := hB6.size; simp; omega) (fun i hi e => by have := (ho6.lt i e).1; omega)); have d7 := (hB7.cell (p := ⟨b, 2, none⟩) hbsz).trans c1)
        | (refine step_append_sr rfl (.tmp 60) (.tmp 62) 45 rfl 3 j0 _ 1 8 Try.underlying45 hj0 hy0 hys hyb rfl (by omega) w4.heap.size (.slice ao6 _ c6) _ _ rfl ho6 _ 1 _ rfl (Sr.one1 hx6 rfl (by simp [Value.oneCell'])) (by omega) (by omega) (by have := hB6.size; omega) ?_; intro v7 w7 ho7 hk7 hm7; obtain ⟨ao7, c7, hv7, _, _, _⟩ := own_slice ho7; subst hv7; have hB7 : Below w4.heap.size w4 w7 := hB6.trans (hk7.below hB6.size (fun i hi e => by have := (ho6.lt i e).1; omega)); have d7 := (hB7.cell (p := ⟨b, 2, none⟩) hbsz).trans c1)
        | (refine step_append_sr rfl (.tmp 63) (.tmp 69) 45 rfl 3 j0 _ 1 8 Try.underlying45 hj0 hy0 hys hyb rfl (by omega) w4.heap.size (.slice ao7 _ c7) _ _ rfl ho7 _ (n - P) _ rfl (hs2.below hB7) (by omega) (by omega) (by have := hB7.size; omega) ?_; intro v8 w8 ho8 hk8 hm8; obtain ⟨ao8, c8, hv8, _, _, _⟩ := own_slice ho8; subst hv8; have hB8 : Below w4.heap.size w4 w8 := hB7.trans (hk8.below hB7.size (fun i hi e => by have := (ho7.lt i e).1; omega))))
      all_goals
        have e9 : n + 1 = P + 1 + (n - P) := by omega
        have ho9 : w8.ownsRow w4.heap.size 3 1 (.slice ao8 (P + 1 + (n - P)) c8) (n + 1) (vs.take (P * 1) ++ ([.int .i64 v] ++ vs.drop (P * 1))) := by
          rw [e9, ← List.append_assoc]
          exact ho8
        clear ho6 hk6 hm6 hB6 d6 d6' hx6 ho7 hk7 hm7 hB7 d7 ho8 hk8 hm8 e9
        go_simp
        go_wp2
        go_meet
        exact ⟨ho9, hB8⟩
    case rest =>
      obtain ⟨ho5, hB5⟩ := hcut
      obtain ⟨w5, hw5⟩ : ∃ x, x = wc := ⟨_, rfl⟩
      subst hw5
      obtain ⟨av, cv, hvr, _, _, _⟩ := own_slice ho5
      subst hvr
      clear hE0 hE1 hEn hCell c1
      have hB45 : Below w3.heap.size w3 w5 := hB4.trans (hB5.mono hB4.size)
      have hok5 : w5.ownsRow 0 42 1 (.slice ak (n + 1) ck) (n + 1) (ks.take (P * 1) ++ ([.int .u64 (k : Int)] ++ ks.drop (P * 1))) := own_mono (own_kept ho4 (kept_of_below hB5 (fun _ => False)) (fun _ _ e => e)) (Nat.zero_le _)
      obtain ⟨q1, q2⟩ := hXd.setKV hB45 hok5 (own_mono ho5 (Nat.zero_le _)) (fun i hi => (ho4.lt i hi).1) (fun i hi => Nat.le_trans hB4.size (ho5.lt i hi).1) (fun i hi hj => by have h1 := (ho4.lt i hi).2; have h2 := (ho5.lt i hj).1; omega)
      have hbx := (hB45.block b (hXd.lt b hXd.fb)).trans hXd.box
      have e1 := cell_of_row w5 b 1 _ _ _ hbx
      have f1 := frozen_of_row w5 b 1 _ _ hbx
      have e2 := cell_of_row w5 b 2 _ _ _ hbx
      have f2 := frozen_of_row w5 b 2 _ _ hbx
      simp at e1 e2
      have Q1 : Hid _ := hidden q1
      have Q2 : Hid _ := hidden q2
      clear q1 q2 hok5 ho4 ho5 hB4 hB5 hB45 hs1 hs2 hX4 hXd hbx
      go_wp2
      go_ret
      have q1 := hdw.out
      have s1 := q1.size
      refine ⟨_, rfl, ⟨⟨_, _, by rw [HK.out, HV.out, HL.out]; exact Q1.out⟩, HS.out, by have := HL.out; omega, hsm⟩, (kept_of_below q1 F).trans Q2.out (fun _ _ e => e), ?_⟩
      intro i hi
      rcases hi with hi | hi
      · exact Or.inl hi
      · exact Or.inr (by omega)

theorem putRI_any (b most : Nat) (es : List (Nat × Int)) (F : Nat → Prop) (k : Nat) (v : Int) (w : World) (h : TBRI w b most es F) :
    Calls Try.prog 32 #[.pointer (some ⟨b, 0, none⟩), .int .u64 (k : Int), .int .i64 v] w fun e w' => ∃ F', e = .returned (.bool (putB ltN most es k)) ∧ TBRI w' b most (putE ltN most es k v) F' ∧ Kept w w' F ∧ GrownT w F F' := by
  unfold putB putE
  cases hb : hasE ltN es k
  · rw [if_neg (by simp), Bool.false_or]
    by_cases hl : es.length < most
    · rw [if_pos hl, decide_eq_true hl]
      exact putRI_new b most es F k v w h hb hl
    · rw [if_neg hl, decide_eq_false hl]
      refine (putRI_full b most es F k v w h hb (by omega)).mono ?_
      rintro e w' ⟨rfl, q, rfl⟩
      exact ⟨F, rfl, h.below (below_drewN w q), kept_of_below (below_drewN w q) F, GrownT.refl _ _⟩
  · rw [if_pos rfl, Bool.true_or]
    refine (putRI_has b most es F k v w h hb).mono ?_
    rintro e w' ⟨rfl, h', hk⟩
    exact ⟨F, rfl, h', hk, GrownT.refl _ _⟩

end Go.Proofs.Ytofpkmionbbmcaa
