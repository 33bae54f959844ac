/- The plain table mooringref4.IntTable: its methods. -/
import Derived.Test.YtofpkmionbbmcaaTbTUI
import Derived.Deep.Cut
import Derived.Deep.CutRange
import Derived.Deep.CutBlock
import Derived.Deep.QuietTactic
import Derived.BigQuiet
import Derived.Deep.RegionHeldLaw
namespace Go.Proofs.Ytofpkmionbbmcaa
open Go.RowKit

@[reducible] def TBRI (w : World) (b most : Nat) (es : List (Nat × Int)) (F : Nat → Prop) : Prop := TB ltN kfU vfUI 1 47 42 3 w b most es F

/-- Where k stands, found one by one. -/
theorem pos_next (k : Nat) (ks : List Nat) (j : Nat) (hj : j < ks.length) (h : ltN ks[j] k = true) (hs : Srt ltN ks) : j + 1 ≤ posK ltN k ks := by
  rcases Nat.lt_or_ge j (posK ltN k ks) with h1 | h1
  · exact h1
  · rw [posK_above koN k ks hs j hj h1] at h
    cases h
theorem pos_here (k : Nat) (ks : List Nat) (j : Nat) (hj : j < ks.length) (hb : j ≤ posK ltN k ks) (h : ltN ks[j] k = false) : posK ltN k ks = j := by
  rcases Nat.lt_or_ge j (posK ltN k ks) with h1 | h1
  · rw [posK_below k ks j hj h1] at h
    cases h
  · omega

set_option maxRecDepth 20000 in
set_option maxHeartbeats 1000000 in
theorem placeRI_any (b most : Nat) (es : List (Nat × Int)) (F : Nat → Prop) (k : Nat) (w : World) (h : TBRI w b most es F) :
    Calls Try.prog 47 #[.pointer (some ⟨b, 0, none⟩), .int .u64 (k : Int)] w fun e w' => e = .returned (.tuple #[.int .i64 (pE ltN es k : Int), .bool (hasE ltN es k)]) ∧ ∃ q, w' = w.drewN q := by
  obtain ⟨kr, vr, hx⟩ := h.tx
  have c1 := hx.c1
  have hr : es.length ≤ 4096 := by have := h.le; have := h.small; omega
  obtain ⟨ao, cap, rfl, hnc, hcm, _⟩ := own_slice hx.ko
  have HK : Hid _ := hidden (rowKUI hx.ko)
  have HS : Hid _ := hidden h.srt
  have HL : Hid _ := hidden (keysE_len es)
  have HPL : Hid _ := hidden (posK_le (lt := ltN) k (keysE es))
  unfold pE hasE
  have HH : Hid (hasK ltN k (keysE es) = decide ((keysE es)[posK ltN k (keysE es)]? = some k)) := rfl
  obtain ⟨hb, hhb⟩ : ∃ hb, hb = hasK ltN k (keysE es) := ⟨_, rfl⟩
  rw [← hhb] at HH ⊢
  clear hx h hhb
  generalize keysE es = ks at *
  generalize es.length = n at *
  unfold maxLen at hcm
  go_enter Try.func47, Try.ntmps47
  go_wp2
  go_loopw [6] (fun i wr => ∃ j : Nat, i = .int .i64 (j : Int) ∧ Hid (j ≤ posK ltN k ks) ∧ j ≤ n ∧ w = wr) (fun i _ => n - (intOf i).toNat)
  case atStart => exact ⟨0, rfl, Nat.zero_le _, Nat.zero_le _, rfl⟩
  case round =>
    obtain ⟨j, rfl, hjp, hjn, rfl⟩ := hrel
    by_cases hlt : j < n
    · have hj0 : (j : Int) < (n : Int) := by omega
      have hl := HL.out
      obtain ⟨g, hao, hc⟩ := HK.out (by intro e; rw [e] at hl; simp at hl; omega)
      subst hao
      have hjk : j < ks.length := by omega
      have cj := hc j hjk
      have hn1 := pos_next k ks j hjk
      have hh1 := pos_here k ks j hjk hjp.out
      have hat : ks[j]? = some ks[j] := List.getElem?_eq_getElem hjk
      have HAT : Hid _ := hidden hat
      unfold kfU at cj
      generalize ks[j] = y at *
      clear hat
      by_cases hyk : y < k
      · have hge : ¬ ((k : Int) ≤ (y : Int)) := by omega
        have HP : Hid (j + 1 ≤ posK ltN k ks) := hn1 (by simp [ltN, hyk]) HS.out
        clear hn1 hh1 hc hjp
        go_wp2
        go_roundw
        case rel => exact ⟨j + 1, by go_num, HP, by omega, by trivial⟩
        case measure => simp [intOf]; omega
      · have hge : (k : Int) ≤ (y : Int) := by omega
        have hp := hh1 (by simp [ltN]; omega)
        have hq : hb = decide (y = k) := by
          rw [HH.out, hp, HAT.out]
          simp
        have HP : Hid _ := hidden hp
        clear hn1 hh1 hc hjp hp
        by_cases hy : y = k
        · have hq2 : hb = true := by rw [hq]; simp [hy]
          have HQ : Hid _ := hidden hq2
          subst hy
          clear hq hq2
          go_wp2
          go_quiet (fail)
          go_wp2
          go_ret2
          rw [HP.out, HQ.out]
          exact ⟨by simp, _, rfl⟩
        · have hq2 : hb = false := by rw [hq]; simp [hy]
          have HQ : Hid _ := hidden hq2
          have hne : ¬ ((y : Int) = (k : Int)) := by omega
          clear hq hq2
          go_wp2
          go_quiet (fail)
          go_wp2
          go_ret2
          rw [HP.out, HQ.out]
          exact ⟨by simp [hne], _, rfl⟩
    · have hj0 : ¬ ((j : Int) < (n : Int)) := by omega
      have hl := HL.out
      have hp : posK ltN k ks = n := by have := HPL.out; have := hjp.out; omega
      have hq2 : hb = false := by
        rw [HH.out, hp, List.getElem?_eq_none (by omega)]
        simp
      have HQ : Hid _ := hidden hq2
      have HP : Hid _ := hidden hp
      clear hp hq2 hl
      go_wp2
      go_ret2
      rw [HP.out, HQ.out]
      exact ⟨rfl, 0, rfl⟩

set_option maxRecDepth 20000 in
theorem getRI_any (b most : Nat) (es : List (Nat × Int)) (F : Nat → Prop) (k : Nat) (w : World) (h : TBRI w b most es F) :
    Calls Try.prog 22 #[.pointer (some ⟨b, 0, none⟩), .int .u64 (k : Int)] w fun e w' => e = .returned (ovVUI (getE ltN es k)) ∧ ∃ q, w' = w.drewN q := by
  have HF : Hid _ := hidden (placeRI_any b most es F k w h)
  unfold getE
  cases hb : hasE ltN es k
  · rw [hb] at HF
    rw [if_neg (by simp)]
    unfold ovVUI
    simp only
    clear h
    go_enter Try.func22, Try.ntmps22
    go_wp2_with (go_at_call 47; refine HF.out.mono ?_; rintro e w1 ⟨rfl, q, rfl⟩)
    go_ret2
    exact ⟨rfl, q, rfl⟩
  · rw [hb] at HF
    rw [if_pos rfl]
    obtain ⟨hp, _⟩ := hasE_at hb
    rw [List.getElem?_eq_getElem hp]
    unfold ovVUI
    simp only [Option.map_some]
    obtain ⟨kr, vr, hx⟩ := h.tx
    have c2 := hx.c2
    obtain ⟨ao, cap, rfl, hnc, hcm, _⟩ := own_slice hx.vo
    obtain ⟨g, rfl, hgw, hc, hf⟩ := rowVUI hx.vo (pE ltN es k) hp
    have hpi : (pE ltN es k : Int) < (es.length : Int) := by omega
    generalize es[pE ltN es k] = en at *
    generalize pE ltN es k = P at *
    clear hx h hf
    unfold maxLen at hcm
    go_enter Try.func22, Try.ntmps22
    go_wp2_with (go_at_call 47; refine HF.out.mono ?_; rintro e w1 ⟨rfl, q, rfl⟩; have c2' : (w.drewN q).cell? ⟨b, 2, none⟩ = _ := c2; have hc' : (w.drewN q).cell? ⟨g, P, none⟩ = _ := hc)
    go_ret2
    exact ⟨rfl, q, rfl⟩

set_option maxRecDepth 20000 in
theorem firstRI_any (b most : Nat) (es : List (Nat × Int)) (F : Nat → Prop) (w : World) (h : TBRI w b most es F) :
    Calls Try.prog 30 #[.pointer (some ⟨b, 0, none⟩)] w fun e w' => e = .returned (okVUI (firstE es)) ∧ w = w' := by
  obtain ⟨kr, vr, hx⟩ := h.tx
  have c1 := hx.c1
  obtain ⟨ao, cap, rfl, hnc, hcm, _⟩ := own_slice hx.ko
  have hl := keysE_len es
  unfold firstE
  by_cases h0 : 0 < (keysE es).length
  · obtain ⟨g, rfl, hc⟩ := rowKUI hx.ko (by intro e; rw [e] at h0; simp at h0)
    have hc0 := hc 0 h0
    rw [List.getElem?_eq_getElem h0]
    unfold okVUI
    simp only
    unfold kfU at hc0
    generalize (keysE es)[0] = y at *
    have hn : 0 < es.length := by omega
    have hne : ¬ ((es.length : Int) = 0) := by omega
    clear hc hx h hl h0
    generalize es.length = n at *
    go_enter Try.func30, Try.ntmps30
    go_wp2
    go_ret2
    exact ⟨rfl, rfl⟩
  · rw [List.getElem?_eq_none (by omega)]
    unfold okVUI
    simp only
    have hn : es.length = 0 := by omega
    clear hx h hl h0
    rw [hn] at c1 hnc
    go_enter Try.func30, Try.ntmps30
    go_wp2
    go_ret2
    exact ⟨rfl, rfl⟩

/-- The first key above k is met one by one. -/
theorem next_here (es : List (Nat × Int)) (hs : Srt ltN (keysE es)) (k j : Nat) (hj : j < (keysE es).length) (hb : ∀ i (hi : i < (keysE es).length), i < j → (keysE es)[i] ≤ k) (h : k < (keysE es)[j]) : nextE ltN es k = some (keysE es)[j] := by
  have hle := posK_le (lt := ltN) k (keysE es)
  have hmono : ∀ a b (ha : a < (keysE es).length) (hb : b < (keysE es).length), a < b → (keysE es)[a] < (keysE es)[b] := fun a b ha hb hab => by
    have := List.pairwise_iff_getElem.1 hs a b ha hb hab
    simpa [ltN] using this
  have hpj : posK ltN k (keysE es) ≤ j := by
    rcases Nat.lt_or_ge j (posK ltN k (keysE es)) with h1 | h1
    · have := posK_below (lt := ltN) k (keysE es) j hj h1
      simp [ltN] at this
      omega
    · exact h1
  unfold nextE pE
  cases hh : hasE ltN es k
  · have : posK ltN k (keysE es) = j := by
      rcases Nat.lt_or_ge (posK ltN k (keysE es)) j with h1 | h1
      · have h2 := posK_above koN k (keysE es) hs _ (by omega) (Nat.le_refl _)
        have h3 := hb _ (by omega) h1
        simp [ltN] at h2
        have h4 : (keysE es)[posK ltN k (keysE es)] = k := by omega
        rw [(hasE_iff koN es k hs).2 (by rw [← h4]; exact List.getElem_mem _)] at hh
        cases hh
      · omega
    rw [this, if_neg (by simp), Nat.add_zero, List.getElem?_eq_getElem hj]
  · obtain ⟨hp, he⟩ := hasK_at hh
    have hne : posK ltN k (keysE es) ≠ j := fun e => by subst e; omega
    have : posK ltN k (keysE es) + 1 = j := by
      rcases Nat.lt_or_ge (posK ltN k (keysE es) + 1) j with h1 | h1
      · have h2 := hmono (posK ltN k (keysE es)) (posK ltN k (keysE es) + 1) hp (by omega) (by omega)
        have h3 := hb (posK ltN k (keysE es) + 1) (by omega) h1
        omega
      · omega
    rw [if_pos rfl, this, List.getElem?_eq_getElem hj]
theorem next_none (es : List (Nat × Int)) (k : Nat) (hb : ∀ i (hi : i < (keysE es).length), (keysE es)[i] ≤ k) (hs : Srt ltN (keysE es)) : nextE ltN es k = none := by
  have hmono : ∀ a b (ha : a < (keysE es).length) (hb : b < (keysE es).length), a < b → (keysE es)[a] < (keysE es)[b] := fun a b ha hb hab => by
    have := List.pairwise_iff_getElem.1 hs a b ha hb hab
    simpa [ltN] using this
  unfold nextE pE
  cases hh : hasE ltN es k
  · rw [if_neg (by simp), Nat.add_zero]
    apply List.getElem?_eq_none
    rcases Nat.lt_or_ge (posK ltN k (keysE es)) (keysE es).length with h1 | h1
    · have h2 := posK_above koN k (keysE es) hs _ h1 (Nat.le_refl _)
      have h3 := hb _ h1
      simp [ltN] at h2
      have h4 : (keysE es)[posK ltN k (keysE es)] = k := by omega
      rw [(hasE_iff koN es k hs).2 (by rw [← h4]; exact List.getElem_mem _)] at hh
      cases hh
    · exact h1
  · obtain ⟨hp, he⟩ := hasK_at hh
    rw [if_pos rfl]
    apply List.getElem?_eq_none
    rcases Nat.lt_or_ge (posK ltN k (keysE es) + 1) (keysE es).length with h1 | h1
    · have h2 := hmono (posK ltN k (keysE es)) (posK ltN k (keysE es) + 1) hp h1 (by omega)
      have h3 := hb _ h1
      omega
    · exact h1

set_option maxRecDepth 20000 in
set_option maxHeartbeats 1000000 in
theorem nextRI_any (b most : Nat) (es : List (Nat × Int)) (F : Nat → Prop) (k : Nat) (w : World) (h : TBRI w b most es F) :
    Calls Try.prog 26 #[.pointer (some ⟨b, 0, none⟩), .int .u64 (k : Int)] w fun e w' => e = .returned (okVUI (nextE ltN es k)) ∧ w = w' := by
  obtain ⟨kr, vr, hx⟩ := h.tx
  have c1 := hx.c1
  have hr : es.length ≤ 4096 := by have := h.le; have := h.small; omega
  obtain ⟨ao, cap, rfl, hnc, hcm, _⟩ := own_slice hx.ko
  have HK : Hid _ := hidden (rowKUI hx.ko)
  have HL : Hid _ := hidden (keysE_len es)
  have HN1 : Hid _ := hidden (next_here es h.srt k)
  have HN2 : Hid _ := hidden (fun hb => next_none es k hb h.srt)
  obtain ⟨nx, hnx⟩ : ∃ nx, nx = nextE ltN es k := ⟨_, rfl⟩
  rw [← hnx] at HN1 HN2 ⊢
  clear hx h hnx
  generalize keysE es = ks at *
  generalize es.length = n at *
  unfold maxLen at hcm
  go_enter Try.func26, Try.ntmps26
  go_wp2
  go_loopw [4, 6] (fun z i wr => ∃ j : Nat, z = .int .u64 0 ∧ i = .int .i64 (j : Int) ∧ Hid (∀ i (hi : i < ks.length), i < j → ks[i] ≤ k) ∧ j ≤ n ∧ w = wr) (fun _ i _ => n - (intOf i).toNat)
  case atStart => exact ⟨0, rfl, rfl, fun i _ h => absurd h (Nat.not_lt_zero _), Nat.zero_le _, rfl⟩
  case round =>
    obtain ⟨j, rfl, rfl, hjp, hjn, rfl⟩ := hrel
    by_cases hlt : j < n
    · have hj0 : (j : Int) < (n : Int) := by omega
      have hl := HL.out
      obtain ⟨g, hao, hc⟩ := HK.out (by intro e; rw [e] at hl; simp at hl; omega)
      subst hao
      have hjk : j < ks.length := by omega
      have cj := hc j hjk
      have hn1 := HN1.out j hjk hjp.out
      have hnb : ks[j] ≤ k → Hid (∀ i (hi : i < ks.length), i < j + 1 → ks[i] ≤ k) := fun hle i hi hij => by
        by_cases e : i = j
        · subst e; exact hle
        · exact hjp.out i hi (by omega)
      unfold kfU at cj
      generalize ks[j] = y at *
      by_cases hyk : k < y
      · have hge : (k : Int) < (y : Int) := by omega
        have HP : Hid _ := hidden (hn1 hyk)
        clear hn1 hnb hc hjp
        go_wp2
        go_ret2
        exact ⟨by rw [HP.out]; rfl, rfl⟩
      · have hge : ¬ ((k : Int) < (y : Int)) := by omega
        have HP := hnb (by omega)
        clear hn1 hnb hc hjp
        go_wp2
        go_roundw
        case rel => exact ⟨j + 1, rfl, by go_num, HP, by omega, by trivial⟩
        case measure => simp [intOf]; omega
    · have hj0 : ¬ ((j : Int) < (n : Int)) := by omega
      have hl := HL.out
      have HP : Hid _ := hidden (HN2.out (fun i hi => hjp.out i hi (by omega)))
      clear hl
      go_wp2
      go_ret2
      exact ⟨by rw [HP.out]; rfl, rfl⟩

set_option maxRecDepth 20000 in
theorem afterRI_any (b most : Nat) (es : List (Nat × Int)) (F : Nat → Prop) (k : Nat) (w : World) (h : TBRI w b most es F) :
    Calls Try.prog 28 #[.pointer (some ⟨b, 0, none⟩), .int .u64 (k : Int)] w fun e w' => e = .returned (okVUI (afterE ltN es k)) ∧ w = w' := by
  have HN : Hid _ := hidden (nextRI_any b most es F k w h)
  have HA : Hid _ := hidden (firstRI_any b most es F w h)
  clear h
  unfold afterE
  cases hq : nextE ltN es k with
  | some x =>
    rw [hq] at HN
    unfold okVUI at HN ⊢
    simp only at HN ⊢
    clear HA
    go_enter Try.func28, Try.ntmps28
    go_wp2_with (go_at_call 26; refine HN.out.mono ?_; rintro e w1 ⟨rfl, rfl⟩)
    go_ret2
    exact ⟨rfl, rfl⟩
  | none =>
    rw [hq] at HN
    unfold okVUI at HN HA ⊢
    simp only at HN HA ⊢
    cases hf : firstE es <;> simp only [hf] at HA <;> simp only <;>
    · go_enter Try.func28, Try.ntmps28
      go_wp2_with (first
        | (go_at_call 26; refine HN.out.mono ?_; rintro e w1 ⟨rfl, rfl⟩)
        | (go_at_call 30; refine HA.out.mono ?_; rintro e w1 ⟨rfl, rfl⟩))
      go_ret2
      exact ⟨rfl, rfl⟩

end Go.Proofs.Ytofpkmionbbmcaa
