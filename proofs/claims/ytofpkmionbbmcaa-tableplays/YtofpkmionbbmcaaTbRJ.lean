/- The plain table mooringref4.IntTable: Drop and Put. -/
import Derived.Test.YtofpkmionbbmcaaTbRI
namespace Go.Proofs.Ytofpkmionbbmcaa
open Go.RowKit

set_option maxRecDepth 20000 in
set_option maxHeartbeats 1000000 in
theorem dropRI_no (b most : Nat) (es : List (Nat × Int)) (F : Nat → Prop) (k : Nat) (w : World) (h : TBRI w b most es F) (hb : hasE ltN es k = false) :
    Calls Try.prog 24 #[.pointer (some ⟨b, 0, none⟩), .int .u64 (k : Int)] w fun e w' => e = .returned (.bool false) ∧ ∃ q, w' = w.drewN q := by
  have HF : Hid _ := hidden (placeRI_any b most es F k w h)
  rw [hb] at HF
  clear h
  go_enter Try.func24, Try.ntmps24
  go_wp2_with (go_at_call 47; refine HF.out.mono ?_; rintro e w1 ⟨rfl, q, rfl⟩)
  go_ret
  exact ⟨rfl, q, rfl⟩

set_option maxRecDepth 20000 in
set_option maxHeartbeats 4000000 in
theorem dropRI_has (b most : Nat) (es : List (Nat × Int)) (F : Nat → Prop) (k : Nat) (w : World) (h : TBRI w b most es F) (hb : hasE ltN es k = true) :
    Calls Try.prog 24 #[.pointer (some ⟨b, 0, none⟩), .int .u64 (k : Int)] w fun e w' => ∃ F', e = .returned (.bool true) ∧ TBRI w' b most (es.eraseIdx (pE ltN es k)) F' ∧ Kept w w' F ∧ GrownT w F F' := by
  have HF : Hid _ := hidden (placeRI_any b most es F k w h)
  rw [hb] at HF
  have hp : pE ltN es k < es.length := (hasE_at hb).1
  have HK : Hid _ := hidden (ersEUI es (pE ltN es k))
  have HV : Hid _ := hidden (ersVUI es (pE ltN es k))
  have HS : Hid (Srt ltN (keysE (es.eraseIdx (pE ltN es k)))) := by
    rw [keys_erase]
    exact h.srt.sublist (List.eraseIdx_sublist _ _)
  have hl1 : (es.eraseIdx (pE ltN es k)).length = es.length - 1 := by rw [List.length_eraseIdx, if_pos hp]
  have HL : Hid _ := hidden hl1
  obtain ⟨kr, vr, hx⟩ := h.tx
  have HX : Hid _ := hidden hx
  have hsm := h.small
  have hle := h.le
  obtain ⟨ao, cap, rfl, hnc, hcm, _⟩ := own_slice hx.ko
  obtain ⟨vo, vcap, rfl, hvc, hvm, _⟩ := own_slice hx.vo
  obtain ⟨gk, rfl, hc⟩ := rowKUI hx.ko (by intro e; have := keysE_len es; rw [e] at this; simp at this; omega)
  obtain ⟨gv, rfl, hgw, hcv, hf⟩ := rowVUI hx.vo (pE ltN es k) hp
  have h1k := hidden (k1UI es)
  have h1v := hidden (v1UI es)
  obtain ⟨i0, hi0, hz0, hzs, hzb⟩ := info_parts Try.infoU
  obtain ⟨j0, hj0, hy0, hys, hyb⟩ := info_parts Try.infoI
  clear hx h hl1 hc hcv hf hgw
  generalize es.eraseIdx (pE ltN es k) = es' at *
  generalize pE ltN es k = P at *
  generalize es.map (fun e => kfU e.1) = ks at *
  generalize es.flatMap (fun e => vfUI e.2) = vs at *
  generalize es.length = n at *
  unfold maxLen at hcm hvm
  obtain ⟨J, hJ⟩ : ∃ J, J = P + 1 := ⟨_, rfl⟩
  have hJ2 : ((P : Int) + 1) = (J : Int) := by omega
  have hJN : J ≤ n := by omega
  have hJc : J ≤ cap := by omega
  have hJv : J ≤ vcap := by omega
  have hPc : P ≤ cap := by omega
  have hPv : P ≤ vcap := by omega
  have hJw : IntKind.i64.wrap (J : Int) = (J : Int) := by rw [IntKind.wrap_i64]; omega
  have hJ3 : (J : Int) ≤ (n : Int) := by omega
  obtain ⟨A, hAe, hAo⟩ : ∃ o : Nat, (if cap = J then some (⟨gk, 0, none⟩ : Addr) else some ⟨gk, J, none⟩) = some ⟨gk, o, none⟩ ∧ (o = J * 1 ∨ n - J = 0) := by
    by_cases hc : cap = J
    · exact ⟨0, by simp [hc], Or.inr (by omega)⟩
    · exact ⟨J, by simp [hc], Or.inl (by omega)⟩
  obtain ⟨A', hAe', hAo'⟩ : ∃ o : Nat, (if vcap = J then some (⟨gv, 0, none⟩ : Addr) else some ⟨gv, J, none⟩) = some ⟨gv, o, none⟩ ∧ (o = J * 1 ∨ n - J = 0) := by
    by_cases hc : vcap = J
    · exact ⟨0, by simp [hc], Or.inr (by omega)⟩
    · exact ⟨J, by simp [hc], Or.inl (by omega)⟩
  have HJ : Hid (J = P + 1) := hJ
  have HAo : Hid (A = J * 1 ∨ n - J = 0) := hAo
  have HAo' : Hid (A' = J * 1 ∨ n - J = 0) := hAo'
  clear hJ hAo hAo'
  go_enter Try.func24, Try.ntmps24
  go_wp2_with fail
  refine HF.out.mono ?_
  rintro e w1 ⟨rfl, q, rfl⟩
  have hbd := below_drewN w q
  have hXd := HX.out.below hbd
  have hdw : Hid (Below w.heap.size w (w.drewN q)) := hbd
  generalize w.drewN q = w3 at *
  clear hbd HF HX
  have c1 := hXd.c1
  have hbsz := hXd.lt b hXd.fb
  have hr1 := Sr.part hXd.ko h1k.out 0 P cap 0 (Or.inl (by omega)) (by omega)
  have hr2 := Sr.part hXd.ko h1k.out J (n - J) (cap - J) A HAo.out (by omega)
  have hE : ∀ o, Below w3.heap.size w3 (w3.alloc o).drew := fun o => ((Below.refl _ _).alloc (Nat.le_refl _) o).drew
  have hEn : ∀ o, (w3.alloc o).drew.heap[w3.heap.size]? = some o := fun o => heap_alloc_new w3 o
  have hCell : ∀ o, (w3.alloc o).cell? ⟨b, 1, none⟩ = some (.slice (some ⟨gk, 0, none⟩) n cap) := fun o => (Below.cell (p := ⟨b, 1, none⟩) ((Below.refl w3.heap.size w3).alloc (Nat.le_refl _) o) hbsz).trans c1
  go_upto_region 3 with fail
  go_cut [] from 14 to 32 (fun wc => ∃ kr' F', TX 47 42 3 1 wc b most kr' (.slice (some ⟨gv, 0, none⟩) n vcap) (n - 1) n (ks.take (P * 1) ++ ks.drop ((P + 1) * 1)) vs F' ∧ Kept w3 wc F ∧ GrownT w3 F F')
  case first =>
    go_region_law (first
      | (refine step_append_sr rfl (.tmp 15) (.tmp 21) 44 rfl 42 i0 _ 1 8 Try.underlying44 hi0 hz0 hzs hzb rfl (by omega) w3.heap.size (.slice (some ⟨w3.heap.size, 0, none⟩) 0 0) 0 [] rfl (own_empty (hEn _) (Nat.le_refl _)) _ P _ rfl (hr1.below (hE _)) (by omega) (by omega) (by simp [World.drew]) ?_; intro v6 w6 ho6 hk6 hm6; rw [Nat.zero_add, List.nil_append] at ho6; have hB6 : Below w3.heap.size w3 w6 := (hE _).trans (hk6.below (by simp [World.drew]) (fun i hi e => by simp [Value.ownBlock] at e; omega)); obtain ⟨ao6, c6, hv6, _, _, _⟩ := own_slice ho6; subst hv6; have d6 := (hB6.cell (p := ⟨b, 1, none⟩) hbsz).trans c1)
      | (refine step_append_sr rfl (.tmp 22) (.tmp 29) 44 rfl 42 i0 _ 1 8 Try.underlying44 hi0 hz0 hzs hzb rfl (by omega) w3.heap.size (.slice ao6 _ c6) _ _ rfl ho6 _ (n - J) _ rfl (hr2.below hB6) (by omega) (by omega) (by have := hB6.size; omega) ?_; intro v7 w7 ho7 hk7 hm7; obtain ⟨ao7, c7, hv7, _, _, _⟩ := own_slice ho7; subst hv7; have hB7 : Below w3.heap.size w3 w7 := hB6.trans (hk7.below hB6.size (fun i hi e => by have := (ho6.lt i e).1; omega)); have d7 := (hB7.cell (p := ⟨b, 1, none⟩) hbsz).trans c1; have f7 : w7.frozen? ⟨b, 1, none⟩ = false := (hB7.frozen (p := ⟨b, 1, none⟩) hbsz).trans (hXd.f 1)))
    all_goals
      have e9 : n - 1 = P + (n - J) := by have := HJ.out; omega
      have ho7' : w7.ownsRow 0 42 1 (.slice ao7 (P + (n - J)) c7) (n - 1) (ks.take (P * 1) ++ ks.drop ((P + 1) * 1)) := by
        have e2 : (ks.drop (J * 1)).take ((n - J) * 1) = ks.drop ((P + 1) * 1) := by
          rw [HJ.out]
          exact List.take_of_length_le (by rw [List.length_drop, hXd.ko.1]; omega)
        rw [e2, Nat.zero_mul, List.drop_zero] at ho7
        rw [e9]
        exact own_mono ho7 (Nat.zero_le _)
      obtain ⟨q1, q2⟩ := hXd.setK ho7' (kept_of_below hB7 _) (fun i hi => Or.inr (ho7.lt i hi).1)
      clear ho7 hk7 hm7 ho6 hk6 hm6 hB6 d6 d7 f7 ho7' e9
      go_wp2
      go_meet
      exact ⟨_, _, q1, q2, GrownT.of⟩
  case rest =>
    obtain ⟨kr', F1, hX8, hk8, hg8⟩ := hcut
    obtain ⟨w8, hw8⟩ : ∃ x, x = wc := ⟨_, rfl⟩
    subst hw8
    clear c1 hbsz hr1 hr2 hE hEn hCell
    have c2 := hX8.c2
    have hbsz := hX8.lt b hX8.fb
    have hr1 := Sr.part hX8.vo h1v.out 0 P vcap 0 (Or.inl (by omega)) (by omega)
    have hr2 := Sr.part hX8.vo h1v.out J (n - J) (vcap - J) A' HAo'.out (by omega)
    have hE : ∀ o, Below w8.heap.size w8 (w8.alloc o).drew := fun o => ((Below.refl _ _).alloc (Nat.le_refl _) o).drew
    have hEn : ∀ o, (w8.alloc o).drew.heap[w8.heap.size]? = some o := fun o => heap_alloc_new w8 o
    have hCell : ∀ o, (w8.alloc o).cell? ⟨b, 2, none⟩ = some (.slice (some ⟨gv, 0, none⟩) n vcap) := fun o => (Below.cell (p := ⟨b, 2, none⟩) ((Below.refl w8.heap.size w8).alloc (Nat.le_refl _) o) hbsz).trans c2
    go_upto_region 4 with fail
    go_cut [] from 33 to 51 (fun wc => ∃ vr' F', TX 47 42 3 1 wc b most kr' vr' (n - 1) (n - 1) (ks.take (P * 1) ++ ks.drop ((P + 1) * 1)) (vs.take (P * 1) ++ vs.drop ((P + 1) * 1)) F' ∧ Kept w8 wc F1 ∧ GrownT w8 F1 F')
    case first =>
      go_region_law (first
        | (refine step_append_sr rfl (.tmp 34) (.tmp 40) 45 rfl 3 j0 _ 1 8 Try.underlying45 hj0 hy0 hys hyb rfl (by omega) w8.heap.size (.slice (some ⟨w8.heap.size, 0, none⟩) 0 0) 0 [] rfl (own_empty (hEn _) (Nat.le_refl _)) _ P _ rfl (hr1.below (hE _)) (by omega) (by omega) (by simp [World.drew]) ?_; intro v6 w6 ho6 hk6 hm6; rw [Nat.zero_add, List.nil_append] at ho6; have hB6 : Below w8.heap.size w8 w6 := (hE _).trans (hk6.below (by simp [World.drew]) (fun i hi e => by simp [Value.ownBlock] at e; omega)); obtain ⟨ao6, c6, hv6, _, _, _⟩ := own_slice ho6; subst hv6; have d6 := (hB6.cell (p := ⟨b, 2, none⟩) hbsz).trans c2)
        | (refine step_append_sr rfl (.tmp 41) (.tmp 48) 45 rfl 3 j0 _ 1 8 Try.underlying45 hj0 hy0 hys hyb rfl (by omega) w8.heap.size (.slice ao6 _ c6) _ _ rfl ho6 _ (n - J) _ rfl (hr2.below hB6) (by omega) (by omega) (by have := hB6.size; omega) ?_; intro v7 w7 ho7 hk7 hm7; obtain ⟨ao7, c7, hv7, _, _, _⟩ := own_slice ho7; subst hv7; have hB7 : Below w8.heap.size w8 w7 := hB6.trans (hk7.below hB6.size (fun i hi e => by have := (ho6.lt i e).1; omega)); have d7 := (hB7.cell (p := ⟨b, 2, none⟩) hbsz).trans c2; have f7 : w7.frozen? ⟨b, 2, none⟩ = false := (hB7.frozen (p := ⟨b, 2, none⟩) hbsz).trans (hX8.f 2)))
      all_goals
        have e9 : n - 1 = P + (n - J) := by have := HJ.out; omega
        have ho7' : w7.ownsRow 0 3 1 (.slice ao7 (P + (n - J)) c7) (n - 1) (vs.take (P * 1) ++ vs.drop ((P + 1) * 1)) := by
          have e2 : (vs.drop (J * 1)).take ((n - J) * 1) = vs.drop ((P + 1) * 1) := by
            rw [HJ.out]
            exact List.take_of_length_le (by rw [List.length_drop, hX8.vo.1]; omega)
          rw [e2, Nat.zero_mul, List.drop_zero] at ho7
          rw [e9]
          exact own_mono ho7 (Nat.zero_le _)
        obtain ⟨q1, q2⟩ := hX8.setV ho7' (kept_of_below hB7 _) (fun i hi => Or.inr (ho7.lt i hi).1)
        clear ho7 hk7 hm7 ho6 hk6 hm6 hB6 d6 d7 f7 ho7' e9
        go_wp2
        go_meet
        exact ⟨_, _, q1, q2, GrownT.of⟩
    case rest =>
      obtain ⟨vr', F2, hX9, hk9, hg9⟩ := hcut
      obtain ⟨w9, hw9⟩ : ∃ x, x = wc := ⟨_, rfl⟩
      subst hw9
      clear c2 hbsz hr1 hr2 hE hEn hCell
      go_wp2
      go_ret
      have q1 := hdw.out
      have s1 := q1.size
      have s3 := hk8.size
      refine ⟨_, rfl, ⟨⟨_, _, by rw [HK.out, HV.out, HL.out]; exact hX9⟩, HS.out, by have := HL.out; omega, hsm⟩, ?_, ?_⟩
      · have a1 := (kept_of_below q1 F).trans hk8 (fun _ _ e => e)
        refine a1.trans hk9 (fun i hi e => ?_)
        rcases hg8 i e with e | e
        · exact e
        · omega
      · intro i hi
        rcases hg9 i hi with hi | hi
        · rcases hg8 i hi with hi | hi
          · exact Or.inl hi
          · exact Or.inr (by omega)
        · exact Or.inr (by omega)

theorem dropRI_any (b most : Nat) (es : List (Nat × Int)) (F : Nat → Prop) (k : Nat) (w : World) (h : TBRI w b most es F) :
    Calls Try.prog 24 #[.pointer (some ⟨b, 0, none⟩), .int .u64 (k : Int)] w fun e w' => ∃ F', e = .returned (.bool (hasE ltN es k)) ∧ TBRI w' b most (dropE ltN es k) F' ∧ Kept w w' F ∧ GrownT w F F' := by
  unfold dropE
  cases hb : hasE ltN es k
  · rw [if_neg (by simp)]
    refine (dropRI_no b most es F k w h hb).mono ?_
    rintro e w' ⟨rfl, q, rfl⟩
    exact ⟨F, rfl, h.below (below_drewN w q), kept_of_below (below_drewN w q) F, GrownT.refl _ _⟩
  · rw [if_pos rfl]
    exact dropRI_has b most es F k w h hb

end Go.Proofs.Ytofpkmionbbmcaa
