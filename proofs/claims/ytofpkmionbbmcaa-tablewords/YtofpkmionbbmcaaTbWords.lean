/- TableWords, walked. -/
import Derived.Test.YtofpkmionbbmcaaTbRound
import Derived.Test.YtofpkmionbbmcaaTbTSI
import Derived.Deep.RegionHeldLaw
namespace Go.Proofs.Ytofpkmionbbmcaa
open Go.RowKit

section
variable {α β : Type} [DecidableEq α] {lt : α → α → Bool}
theorem getE_mem (ko : KO lt) (es : List (α × β)) (hs : Srt lt (keysE es)) (x : α) (v : β) : getE lt es x = some v ↔ (x, v) ∈ es := by
  constructor
  · intro h
    cases hh : hasE lt es x
    · rw [getE_not hh] at h; cases h
    · obtain ⟨hp, he⟩ := hasE_at hh
      unfold getE at h
      rw [if_pos hh, List.getElem?_eq_getElem hp] at h
      simp only [Option.map_some, Option.some.injEq] at h
      have : es[pE lt es x] = (x, v) := Prod.ext he h
      rw [← this]
      exact List.getElem_mem _
  · intro h
    obtain ⟨j, hj, he⟩ := List.mem_iff_getElem.1 h
    have hj' : j < (keysE es).length := by rw [keysE_len]; exact hj
    have hk : (keysE es)[j] = x := by simp [keysE, he]
    have hp : pE lt es x = j := by
      have := posK_at ko (keysE es) hs j hj'
      rw [hk] at this
      exact this
    have hh : hasE lt es x = true := (hasE_iff ko es x hs).2 (by rw [← hk]; exact List.getElem_mem _)
    unfold getE
    rw [if_pos hh, hp, List.getElem?_eq_getElem hj, he]
    rfl
/-- What was put last is met. -/
theorem getE_put (ko : KO lt) (most : Nat) (es : List (α × β)) (hs : Srt lt (keysE es)) (k : α) (v : β) (hb : putB lt most es k = true) (x : α) : getE lt (putE lt most es k v) x = if x = k then some v else getE lt es x := by
  have hs' := srt_put ko most es k v hs
  have hm : ∀ u, (x, u) ∈ putE lt most es k v ↔ (x = k ∧ u = v) ∨ (x ≠ k ∧ (x, u) ∈ es) := by
    intro u
    unfold putE
    split
    · rename_i hh
      obtain ⟨hp, he⟩ := hasE_at hh
      constructor
      · intro h
        obtain ⟨j, hj, e⟩ := List.mem_iff_getElem.1 h
        rw [List.getElem_set] at e
        split at e
        · simp only [Prod.mk.injEq] at e
          exact Or.inl ⟨e.1.symm, e.2.symm⟩
        · rename_i hne
          have hj' : j < es.length := by simpa using hj
          refine Or.inr ⟨fun exk => hne ?_, by rw [← e]; exact List.getElem_mem _⟩
          have h1 := posK_at ko (keysE es) hs j (by rw [keysE_len]; exact hj')
          have h2 : (keysE es)[j]'(by rw [keysE_len]; exact hj') = k := by simp [keysE, e, exk]
          rw [h2] at h1
          exact h1
      · rintro (⟨rfl, rfl⟩ | ⟨hne, h⟩)
        · exact List.mem_iff_getElem.2 ⟨pE lt es x, by simpa using hp, by simp⟩
        · obtain ⟨j, hj, e⟩ := List.mem_iff_getElem.1 h
          refine List.mem_iff_getElem.2 ⟨j, by simpa using hj, ?_⟩
          rw [List.getElem_set, if_neg]
          · exact e
          · intro ej
            subst ej
            rw [e] at he
            exact hne he
    · rename_i hh
      have hf : hasE lt es k = false := by simpa using hh
      have hl : es.length < most := by
        unfold putB at hb
        rw [hf] at hb
        simpa using hb
      rw [if_pos hl]
      have hmem : (x, u) ∈ insE es (pE lt es k) k v ↔ (x, u) = (k, v) ∨ (x, u) ∈ es := by
        unfold insE
        have e : (x, u) ∈ es ↔ (x, u) ∈ es.take (pE lt es k) ∨ (x, u) ∈ es.drop (pE lt es k) := by rw [← List.mem_append, List.take_append_drop]
        simp only [List.mem_append, List.mem_singleton, e]
        constructor
        · rintro (h | h | h)
          · exact Or.inr (Or.inl h)
          · exact Or.inl h
          · exact Or.inr (Or.inr h)
        · rintro (h | h | h)
          · exact Or.inr (Or.inl h)
          · exact Or.inl h
          · exact Or.inr (Or.inr h)
      rw [hmem]
      constructor
      · rintro (h | h)
        · simp only [Prod.mk.injEq] at h
          exact Or.inl h
        · refine Or.inr ⟨fun e => ?_, h⟩
          have : k ∈ keysE es := by rw [← e]; exact List.mem_map.2 ⟨_, h, rfl⟩
          rw [(hasE_iff ko es k hs).2 this] at hf
          cases hf
      · rintro (⟨rfl, rfl⟩ | ⟨_, h⟩)
        · exact Or.inl rfl
        · exact Or.inr h
  apply Option.ext
  intro u
  rw [getE_mem ko _ hs', hm]
  by_cases hx : x = k
  · rw [if_pos hx]
    simp [hx, eq_comm]
  · rw [if_neg hx, getE_mem ko es hs]
    simp [hx]

/-- The last value of a key. -/
def lastV (l : List (α × β)) (x : α) : Option β := l.foldl (fun o e => if x = e.1 then some e.2 else o) none
theorem lastV_snoc (l : List (α × β)) (k : α) (v : β) (x : α) : lastV (l ++ [(k, v)]) x = if x = k then some v else lastV l x := by simp [lastV]
end

/-- Two cells. -/
def C2 (W : World) (b o : Nat) (x : Value) (b' o' : Nat) (x' : Value) : Prop := W.cell? ⟨b, o, none⟩ = some x ∧ W.cell? ⟨b', o', none⟩ = some x'

set_option maxRecDepth 20000 in
set_option maxHeartbeats 2000000 in
theorem tableWords_any (ks : List ByteArray) (xs : List Int) (v u : Value) (w : World) (hv : WS w v 1 cStr ks) (hu : WS w u 1 cInt xs) :
    Calls Try.prog 5 #[v, u] w fun e w' => e = .returned (.bool true) ∧ Below w.heap.size w w' := by
  obtain ⟨ao, cap, rfl, hnc, hao⟩ := hv.slice
  obtain ⟨uo, ucap, rfl, hunc, huo⟩ := hu.slice
  obtain ⟨n, HN, hn1, hn2, hn3⟩ : ∃ n : Nat, Hid ((if (300 : Int) < (if xs.length < ks.length then (xs.length : Int) else (ks.length : Int)) then 300 else (if xs.length < ks.length then (xs.length : Int) else (ks.length : Int))) = (n : Int)) ∧ n ≤ ks.length ∧ n ≤ xs.length ∧ n ≤ 300 :=
    ⟨min (min ks.length xs.length) 300, (by split <;> split at * <;> omega : (if (300 : Int) < (if xs.length < ks.length then (xs.length : Int) else (ks.length : Int)) then 300 else (if xs.length < ks.length then (xs.length : Int) else (ks.length : Int))) = ((min (min ks.length xs.length) 300 : Nat) : Int)), by omega, by omega, by omega⟩
  obtain ⟨pr, hpr⟩ : ∃ pr, pr = ks.zip xs := ⟨_, rfl⟩
  have HPl : Hid (n ≤ pr.length) := (by rw [hpr, List.length_zip]; omega : n ≤ pr.length)
  have HPa : Hid (∀ i (h1 : i < ks.length) (h2 : i < xs.length), pr[i]? = some (ks[i], xs[i])) := fun i h1 h2 => by rw [hpr, List.getElem?_zip_eq_some]; exact ⟨List.getElem?_eq_getElem h1, List.getElem?_eq_getElem h2⟩
  have HPs : Hid (∀ j (h : j < n), pr.take (j + 1) = pr.take j ++ [(ks[j], xs[j])]) := fun j h => by
    have := HPa.out j (by omega) (by omega)
    rw [List.take_add_one, this]
    rfl
  clear hpr
  go_enter Try.func5, Try.ntmps5
  go_wp2_with fail
  refine (onewSI w.heap.size 4096 (by omega) (by omega) w w (Below.refl _ _) (Nat.le_refl _)).mono ?_
  rintro e w1 ⟨rfl, h1, _⟩
  generalize hB : w.heap.size = B at *
  go_wp2_with fail
  refine (tknown_any w1).mono ?_
  rintro e w2 ⟨rfl, hb2⟩
  have h2 := h1.below hb2
  clear h1 hb2
  go_upto_block 0 with fail
  simp only [HN.out]
  generalize (if xs.length < ks.length then (xs.length : Int) else (ks.length : Int)) = zz
  have HK : Hid (∀ j (hj : j < ks.length), ∃ b off, ao = some ⟨b, off, none⟩ ∧ ∀ W, Below B w W → W.cell? ⟨b, off + j, none⟩ = some (.string ks[j])) := fun j hj => by
    obtain ⟨b, off, h1, h2, h3⟩ := hv.c1 (g := Value.string) (fun _ => rfl) j hj
    exact ⟨b, off, h1, fun W h => (h.cell (p := ⟨b, off + j, none⟩) (by rw [← hB]; exact h2)).trans h3⟩
  have HX : Hid (∀ j (hj : j < xs.length), ∃ b off, uo = some ⟨b, off, none⟩ ∧ ∀ W, Below B w W → W.cell? ⟨b, off + j, none⟩ = some (.int .i64 xs[j])) := fun j hj => by
    obtain ⟨b, off, h1, h2, h3⟩ := hu.c1 (g := Value.int .i64) (fun _ => rfl) j hj
    exact ⟨b, off, h1, fun W h => (h.cell (p := ⟨b, off + j, none⟩) (by rw [← hB]; exact h2)).trans h3⟩
  clear hv hu
  go_cut [8] from 36 to 51 (fun _ wc => ∃ es : List (ByteArray × Int), Hid (∀ x, getE ltS es x = lastV (pr.take n) x) ∧ TOSI B w wc B 4096 es)
  case first =>
    go_wp2
    go_loopw [8] (fun i wr => ∃ (j : Nat) (es : List (ByteArray × Int)), j ≤ n ∧ i = .int .i64 (j : Int) ∧ es.length ≤ j ∧ Hid (∀ x, getE ltS es x = lastV (pr.take j) x) ∧ TOSI B w wr B 4096 es) (fun i _ => n - (intOf i).toNat)
    case atStart => exact ⟨0, [], Nat.zero_le _, rfl, Nat.le_refl _, fun x => by simp [getE, hasE, hasK, keysE, lastV], h2⟩
    case round =>
      obtain ⟨j, es, hj, rfl, hjl, hge, ht⟩ := hrel
      clear h2
      by_cases hlt : j < n
      · have hj0 : (j : Int) < (n : Int) := by omega
        obtain ⟨b, off, hao1, hc1⟩ := HK.out j (by omega)
        obtain ⟨b', off', huo1, hc2⟩ := HX.out j (by omega)
        subst hao1
        subst huo1
        have hps := HPs.out j hlt
        generalize ks[j] = k at *
        generalize xs[j] = x at *
        have hpb : putB ltS 4096 es k = true := by
          unfold putB
          simp
          exact Or.inr (by omega)
        have hge' : Hid (∀ y, getE ltS (putE ltS 4096 es k x) y = lastV (pr.take (j + 1)) y) := fun y => by
          rw [getE_put koS 4096 es ht.srt k x hpb, hps, lastV_snoc, hge.out]
        have hle' : Hid ((putE ltS 4096 es k x).length ≤ j + 1) := (by rw [len_put]; split; · omega
                                                                       · split <;> omega : (putE ltS 4096 es k x).length ≤ j + 1)
        have HD : Hid (∀ W, Below B w W → C2 W b (off + j) (.string k) b' (off' + j) (.int .i64 x)) := fun W h => ⟨hc1 W h, hc2 W h⟩
        have K1 : ∀ W, C2 W b (off + j) (.string k) b' (off' + j) (.int .i64 x) → W.cell? ⟨b, off + j, none⟩ = some (.string k) := fun W h => h.1
        have K2 : ∀ W, C2 W b (off + j) (.string k) b' (off' + j) (.int .i64 x) → W.cell? ⟨b', off' + j, none⟩ = some (.int .i64 x) := fun W h => h.2
        have htd := ht.below ((Below.refl wr.heap.size wr).drew)
        have q0 := HD.out wr.drew htd.bel
        clear hc1 hc2 hps ht
        go_wp2_with fail
        go_region_held (fun W => C2 W b (off + j) (.string k) b' (off' + j) (.int .i64 x)) (assumption) (first
          | (go_at_call 13; refine (oputSI B w _ B 4096 es k x htd).mono ?_; rintro e w3 ⟨rfl, ht3⟩; rw [hpb]; have q3 := HD.out w3 ht3.bel))
        all_goals
          clear htd q0 q3 K1 K2
          go_wp2
          go_roundw
          case rel => exact ⟨j + 1, _, by omega, by go_num, hle'.out, hge', ht3⟩
          case measure => simp [intOf]; omega
      · have hj0 : ¬ ((j : Int) < (n : Int)) := by omega
        have e : j = n := by omega
        subst e
        go_wp2
        go_meet
        exact ⟨es, hge, ht⟩
  case rest =>
    obtain ⟨es, hge, ht⟩ := hcut
    obtain ⟨wy, hwy⟩ : ∃ x, x = wc := ⟨_, rfl⟩
    subst hwy
    clear h2
    go_upto_block 2 with fail
    go_cut [9, 10, 11, 12, 13] from 52 to 96 (fun _ _ _ _ _ wc => TOSI B w wc B 4096 es)
    case first =>
      go_wp2
      go_loopw [9, 10, 11, 12, 13] (fun i _ _ _ _ wr => ∃ j : Nat, j ≤ n ∧ i = .int .i64 (j : Int) ∧ TOSI B w wr B 4096 es) (fun i _ _ _ _ _ => n - (intOf i).toNat)
      case atStart => exact ⟨0, Nat.zero_le _, rfl, ht⟩
      case round =>
        clear ht
        obtain ⟨j, hj, rfl, ht⟩ := hrel
        by_cases hlt : j < n
        · have hj0 : (j : Int) < (n : Int) := by omega
          obtain ⟨b, off, hao1, hc1⟩ := HK.out j (by omega)
          obtain ⟨b', off', huo1, hc2⟩ := HX.out j (by omega)
          subst hao1
          subst huo1
          have hst : lastV (pr.take (j + 1)) ks[j] = some xs[j] := by rw [HPs.out j hlt, lastV_snoc, if_pos rfl]
          have HST : Hid _ := hidden hst
          have HC1 : Hid _ := hidden hc1
          have c2 := hc2 wr ht.bel
          generalize xs[j] = x at *
          generalize hkj : ks[j] = kj at *
          clear hst hc1 hc2 hkj
          go_upto_block 4 with fail
          go_cut [10, 11] from 63 to 80 (fun wt _ wc => ∃ x : Int, wt = .int .i64 x ∧ Hid (lastV (pr.take n) kj = some x) ∧ TOSI B w wc B 4096 es)
          case first =>
            clear c2
            go_wp2
            go_loopw [10, 11] (fun wt i wr => ∃ (m : Nat) (x : Int), m ≤ n ∧ i = .int .i64 (m : Int) ∧ wt = .int .i64 x ∧ Hid (lastV (pr.take m) kj = some x) ∧ TOSI B w wr B 4096 es) (fun _ i _ => n - (intOf i).toNat)
            case atStart => exact ⟨j + 1, x, by omega, by go_num, rfl, HST, ht⟩
            case round =>
              clear ht HST
              obtain ⟨m, y, hm, rfl, rfl, hlv, ht⟩ := hrel
              by_cases hmn : m < n
              · have hm0 : (m : Int) < (n : Int) := by omega
                obtain ⟨b1, off1, hao1, hcm⟩ := HK.out m (by omega)
                obtain ⟨b2, off2, huo1, hxm⟩ := HX.out m (by omega)
                cases hao1
                cases huo1
                have cm := hcm wr ht.bel
                have cj := HC1.out wr ht.bel
                have HXM : Hid _ := hidden hxm
                have hsn : lastV (pr.take (m + 1)) kj = if kj = ks[m] then some xs[m] else lastV (pr.take m) kj := by rw [HPs.out m hmn, lastV_snoc]
                generalize xs[m] = xm at *
                generalize hkm : ks[m] = km at *
                clear hkm hcm hxm
                by_cases hkk : kj = km
                · subst hkk
                  rw [if_pos rfl] at hsn
                  have HSN : Hid _ := hidden hsn
                  clear hsn
                  go_wp2
                  go_quiet (fail)
                  have ht2 := ht.drewN nq
                  have cx := HXM.out _ ht2.bel
                  clear ht cm cj
                  generalize wr.drewN nq = w3 at *
                  go_wp2
                  go_roundw
                  case rel => exact ⟨m + 1, xm, by omega, by go_num, rfl, HSN, ht2⟩
                  case measure => simp [intOf]; omega
                · rw [if_neg hkk, hlv.out] at hsn
                  have HSN : Hid _ := hidden hsn
                  have hne : (km.toList == kj.toList) = false := by rw [eqS]; exact decide_eq_false (fun e => hkk e.symm)
                  clear hsn hkk
                  go_wp2
                  go_quiet (fail)
                  have ht2 := ht.drewN nq
                  clear ht cm cj
                  generalize wr.drewN nq = w3 at *
                  go_wp2
                  go_roundw
                  case rel => exact ⟨m + 1, y, by omega, by go_num, rfl, HSN, ht2⟩
                  case measure => simp [intOf]; omega
              · have hm0 : ¬ ((m : Int) < (n : Int)) := by omega
                have e : m = n := by omega
                subst e
                go_wp2
                go_meet
                exact ⟨y, rfl, hlv, ht⟩
          case rest =>
            obtain ⟨y, rfl, hlv, ht3⟩ := hcut
            obtain ⟨wz, hwz⟩ : ∃ x, x = wc := ⟨_, rfl⟩
            subst hwz
            clear ht c2
            have cj := HC1.out wz ht3.bel
            have HG : Hid (ovVSI (getE ltS es kj) = .tuple #[.int .i64 y, .bool true]) := (by rw [hge.out, hlv.out]; rfl : ovVSI (getE ltS es kj) = .tuple #[.int .i64 y, .bool true])
            go_wp2_with fail
            refine (ogetSI B w wz B 4096 es kj ht3).mono ?_
            rintro e w4 ⟨rfl, q, rfl⟩
            rw [HG.out]
            have ht4 := ht3.drewN q
            clear ht3 cj
            generalize wz.drewN q = w4 at *
            go_wp2
            refine ⟨⟨j + 1, by omega, by go_num, ht4⟩, ?_⟩
            simp [intOf]; omega
        · have hj0 : ¬ ((j : Int) < (n : Int)) := by omega
          go_wp2
          go_meet
          exact ht
    case rest =>
      obtain ⟨wz, hwz⟩ : ∃ x, x = wc := ⟨_, rfl⟩
      subst hwz
      clear ht
      have ht := hcut
      clear hcut
      have hsr := ht.srt
      have hle := ht.le
      go_wp2_with fail
      refine (okeysSI B w wz B 4096 es ht).mono ?_
      rintro e w5 ⟨rfl, hg5, ht5, _⟩
      have hgl : wz.heap.size < w5.heap.size := (Array.getElem?_eq_some_iff.1 hg5).1
      clear ht
      generalize wz.heap.size = g at *
      have HG : Hid (∀ W : World, W.heap = w5.heap → ∀ i (hi : i < es.length), W.cell? ⟨g, i, none⟩ = some (.string es[i].1)) := fun W hW i hi => by
        rw [cell_of_row W g i _ _ _ (by rw [hW]; exact hg5)]
        simp [hi, kfS]
      have HS : Hid (∀ i (h1 : i < es.length) (h2 : i + 1 < es.length), Op.bytesLess es[i].1.toList es[i + 1].1.toList = true) := fun i h1 h2 => by
        have hl := keysE_len es
        have := List.pairwise_iff_getElem.1 hsr i (i + 1) (by omega) (by omega) (by omega)
        simpa [keysE, ltS] using this
      clear hg5 hsr
      go_upto_block 6 with fail
      go_wp2
      go_loopw [15] (fun i wr => ∃ m : Nat, i = .int .i64 (m : Int) ∧ 1 ≤ m ∧ m ≤ es.length + 1 ∧ Hid (wr.heap = w5.heap) ∧ TOSI B w wr B 4096 es) (fun i _ => es.length + 1 - (intOf i).toNat)
      case atStart => exact ⟨1, rfl, by omega, by omega, (rfl : w5.heap = w5.heap), ht5⟩
      case round =>
        clear ht5
        obtain ⟨m, rfl, hm1, hm2, hwh, ht5⟩ := hrel
        by_cases hlt : m < es.length
        · have hj0 : (m : Int) < (es.length : Int) := by omega
          obtain ⟨j, hj⟩ : ∃ j, m = j + 1 := ⟨m - 1, by omega⟩
          have hjl : j < es.length := by omega
          have d0 := HG.out wr hwh.out j hjl
          have d1 := HG.out wr hwh.out m hlt
          have hb := HS.out j hjl (by omega)
          simp only [← hj] at hb
          generalize es[j].1 = a0 at *
          generalize es[m].1 = a1 at *
          have hsub : IntKind.i64.wrap ((m : Int) - 1) = (j : Int) := by rw [IntKind.wrap_i64]; omega
          have hj2 : (j : Int) < (es.length : Int) := by omega
          have HJ : Hid (m = j + 1) := hj
          clear hj
          go_wp2
          go_quiet (fail)
          go_wp2
          go_roundw
          case rel => exact ⟨m + 1, by go_num, by omega, by omega, hwh, ht5.drewN nq⟩
          case measure => simp [intOf]; omega
        · have hj0 : ¬ ((m : Int) < (es.length : Int)) := by omega
          have ht6 := ht5
          clear ht5
          go_wp2_with (go_at_call 18; refine (olenSI B w _ B 4096 es ht6).mono ?_; rintro e _ ⟨rfl, rfl⟩)
          go_ret
          exact ⟨by simp, by rw [hB]; exact ht6.bel⟩

end Go.Proofs.Ytofpkmionbbmcaa
