/- TableRound, walked. -/
import Derived.Test.YtofpkmionbbmcaaTbFull
namespace Go.Proofs.Ytofpkmionbbmcaa
open Go.RowKit

section
variable {α β : Type} [DecidableEq α] {lt : α → α → Bool}
omit [DecidableEq α] in
theorem posK_at (ko : KO lt) (ks : List α) (hs : Srt lt ks) (j : Nat) (hj : j < ks.length) : posK lt ks[j] ks = j :=
  posK_eq ks[j] ks j (Nat.le_of_lt hj) (fun s hsl hst => List.pairwise_iff_getElem.1 hs s j hsl hj hst) (fun _ => ko.irr _)
/-- Behind a key comes the one above it, behind the last the first. -/
theorem after_at (ko : KO lt) (es : List (α × β)) (hs : Srt lt (keysE es)) (j : Nat) (hj : j < (keysE es).length) (q : Nat) (hq : q < (keysE es).length) (hjq : (j + 1 < (keysE es).length → q = j + 1) ∧ (¬ j + 1 < (keysE es).length → q = 0)) : afterE lt es (keysE es)[j] = some (keysE es)[q] := by
  have hp : pE lt es (keysE es)[j] = j := posK_at ko _ hs j hj
  have hh : hasE lt es (keysE es)[j] = true := (hasE_iff ko es _ hs).2 (List.getElem_mem _)
  unfold afterE nextE
  rw [hp, if_pos hh]
  by_cases h : j + 1 < (keysE es).length
  · have := hjq.1 h
    subst this
    rw [List.getElem?_eq_getElem h]
  · have := hjq.2 h
    subst this
    rw [List.getElem?_eq_none (by omega)]
    simp only [firstE]
    rw [List.getElem?_eq_getElem hq]
theorem after_some (es : List (α × β)) (x : α) (h : 0 < (keysE es).length) : ∃ q, ∃ hq : q < (keysE es).length, afterE lt es x = some (keysE es)[q] := by
  unfold afterE
  cases hn : nextE lt es x with
  | some n =>
    obtain ⟨hq, he⟩ := List.getElem?_eq_some_iff.1 hn
    exact ⟨_, hq, by rw [he]⟩
  | none => exact ⟨0, h, by simp [firstE, h]⟩
theorem after_none (x : α) : afterE lt ([] : List (α × β)) x = none := by
  simp [afterE, nextE, firstE, keysE]
end

set_option maxRecDepth 20000 in
set_option maxHeartbeats 2000000 in
theorem tableRound_any (ks : List Nat) (frm : Nat) (v : Value) (w : World) (hv : WS w v 1 cU64 ks) :
    Calls Try.prog 6 #[v, .int .u64 (frm : Int)] w fun e w' => e = .returned (.bool true) ∧ Below w.heap.size w w' := by
  obtain ⟨ao, cap, rfl, hnc, hao⟩ := hv.slice
  obtain ⟨N0, hN0, hN1, hN2⟩ : ∃ N0 : Nat, Hid ((if (200 : Int) < (ks.length : Int) then 200 else (ks.length : Int)) = (N0 : Int)) ∧ N0 ≤ ks.length ∧ N0 ≤ 200 := ⟨min ks.length 200, (by split <;> omega : (if (200 : Int) < (ks.length : Int) then 200 else (ks.length : Int)) = ((min ks.length 200 : Nat) : Int)), by omega, by omega⟩
  have hv1 := hv.take N0 hN1
  have HN : Hid ((ks.take N0).length = N0) := (by rw [List.length_take]; omega : (ks.take N0).length = N0)
  have hNc : N0 ≤ cap := by omega
  have HV : Hid _ := hidden hv1
  clear hv hv1
  generalize ks.take N0 = kt at *
  go_enter Try.func6, Try.ntmps6
  go_wp2_with fail
  refine (onewUI w.heap.size 4096 (by omega) (by omega) w w (Below.refl _ _) (Nat.le_refl _)).mono ?_
  rintro e w1 ⟨rfl, h1, _⟩
  generalize hB : w.heap.size = B at *
  go_wp2_with fail
  refine (tknown_any w1).mono ?_
  rintro e w2 ⟨rfl, hb2⟩
  have h2 := h1.below hb2
  clear h1 hb2
  go_upto_block 0 with fail
  simp only [hN0.out, Int.toNat_natCast]
  go_cut [7] from 34 to 46 (fun _ wc => ∃ es : List (Nat × Int), (N0 = 0 ↔ es = []) ∧ TOUI B w wc B 4096 es)
  case first =>
    go_wp2
    go_loopw [7] (fun i wr => ∃ (j : Nat) (es : List (Nat × Int)), j ≤ N0 ∧ i = .int .i64 (j : Int) ∧ (j = 0 ↔ es = []) ∧ es.length ≤ j ∧ TOUI B w wr B 4096 es) (fun i _ => N0 - (intOf i).toNat)
    case atStart => exact ⟨0, [], Nat.zero_le _, rfl, by simp, by simp, h2⟩
    case round =>
      obtain ⟨j, es, hj, rfl, hje, hjl, ht⟩ := hrel
      clear h2
      by_cases hlt : j < N0
      · have hj0 : (j : Int) < (N0 : Int) := by omega
        have hn := HN.out
        obtain ⟨b, off, hao', hbl, c0⟩ := HV.out.c1 (g := fun n : Nat => .int .u64 (n : Int)) (fun _ => rfl) j (by omega)
        subst hao'
        have c1 := (ht.bel.cell (p := ⟨b, off + j, none⟩) (by rw [← hB]; exact hbl)).trans c0
        have hne : putE ltN 4096 es kt[j] (j : Int) ≠ [] ∧ (putE ltN 4096 es kt[j] (j : Int)).length ≤ j + 1 := by
          have hl := len_put (lt := ltN) 4096 es kt[j] (j : Int)
          cases hh : hasE ltN es kt[j]
          · rw [hh, if_neg (by simp), if_pos (by omega)] at hl
            exact ⟨fun e => by rw [e] at hl; simp at hl, by omega⟩
          · rw [hh, if_pos rfl] at hl
            obtain ⟨hp, _⟩ := hasE_at hh
            exact ⟨fun e => by rw [e] at hl; simp at hl; omega, by omega⟩
        have HE : Hid _ := hidden hne
        generalize kt[j] = k at *
        clear c0 hn hne
        go_wp2_with fail
        refine (oputUI B w wr B 4096 es k (j : Int) ht).mono ?_
        rintro e w3 ⟨rfl, h3⟩
        clear ht c1
        go_wp2
        go_roundw
        case rel => exact ⟨j + 1, _, by omega, by go_num, ⟨fun e => by omega, fun e => absurd e HE.out.1⟩, HE.out.2, h3⟩
        case measure => simp [intOf]; omega
      · have hj0 : ¬ ((j : Int) < (N0 : Int)) := by omega
        have e : j = N0 := by omega
        subst e
        go_wp2
        go_meet
        exact ⟨es, hje, ht⟩
  case rest =>
    obtain ⟨es, hne, ht⟩ := hcut
    obtain ⟨wy, hwy⟩ : ∃ x, x = wc := ⟨_, rfl⟩
    subst hwy
    clear h2
    have HS : Hid _ := hidden ht.srt
    by_cases h0 : N0 = 0
    · have he := hne.1 h0
      subst he
      subst h0
      go_wp2_with fail
      refine (oafterUI B w wy B 4096 [] frm ht).mono ?_
      rintro e w3 ⟨rfl, q, rfl⟩
      rw [after_none, show okVUI none = .tuple #[.int .u64 0, .bool false] from rfl]
      have hb := (ht.drewN q).bel
      generalize wy.drewN q = w3 at *
      clear ht
      go_wp2
      go_ret
      exact ⟨by simp, by rw [hB]; exact hb⟩
    · have hne' : es ≠ [] := fun e => h0 (hne.2 e)
      have hlen : 0 < (keysE es).length := by rw [keysE_len]; exact List.length_pos_iff.2 hne'
      obtain ⟨p, hp, hpe⟩ := after_some (lt := ltN) es frm hlen
      have HL : Hid ((keysE es).length = es.length) := keysE_len es
      go_wp2_with fail
      refine (oafterUI B w wy B 4096 es frm ht).mono ?_
      rintro e w3 ⟨rfl, q, rfl⟩
      rw [hpe, show okVUI (some (keysE es)[p]) = .tuple #[.int .u64 ((keysE es)[p] : Int), .bool true] from rfl]
      have ht3 := ht.drewN q
      generalize wy.drewN q = w3 at *
      clear ht hne hne' hpe h0
      have hsr := HS.out
      obtain ⟨kk, hkk⟩ : ∃ kk : Nat → Nat, ∀ i (h : i < (keysE es).length), kk i = (keysE es)[i] := ⟨fun i => (keysE es).getD i 0, fun i h => by simp [List.getD, h]⟩
      have HM : Hid (∀ a b, a < b → b < es.length → kk a < kk b) := fun a b hab hb => by
        have hl := HL.out
        have := List.pairwise_iff_getElem.1 hsr a b (by omega) (by omega) hab
        rw [hkk a (by omega), hkk b (by omega)]
        simpa [ltN] using this
      have HAf : Hid (∀ j q, j < es.length → q < es.length → (j + 1 < es.length → q = j + 1) → (¬ j + 1 < es.length → q = 0) → okVUI (afterE ltN es (kk j)) = .tuple #[.int .u64 (kk q : Int), .bool true]) := fun j q hj hq h1 h2 => by
        have hl := HL.out
        rw [hkk j (by omega), hkk q (by omega), after_at koN es hsr j (by omega) q (by omega) ⟨fun h => h1 (by omega), fun h => h2 (by omega)⟩]
        rfl
      rw [← hkk p hp]
      have hp' : p < es.length := by have := HL.out; omega
      clear hkk hsr HS hp hlen
      go_upto_block 2 with fail
      go_wp2
      go_loopw [8, 11, 12, 13, 14] (fun k n f _ _ wr => ∃ (m j c : Nat), m < es.length ∧ j < es.length ∧ k = .int .u64 (kk j : Int) ∧ n = .int .i64 ((m : Int) + 1) ∧ f = .int .i64 (c : Int) ∧ (p + m < es.length → j = p + m ∧ c = 0) ∧ (¬ p + m < es.length → j + es.length = p + m ∧ c = 1) ∧ TOUI B w wr B 4096 es) (fun _ n _ _ _ _ => es.length + 1 - (intOf n).toNat)
      case atStart => exact ⟨0, p, 0, by omega, hp', rfl, rfl, rfl, fun _ => ⟨rfl, rfl⟩, fun h => by omega, ht3⟩
      case round =>
        obtain ⟨m, j, c, hm, hj, rfl, rfl, rfl, hA, hC, ht⟩ := hrel
        clear ht3
        have hle := ht.le
        have hmi : (m : Int) + 1 ≤ (es.length : Int) := by omega
        by_cases hw : j + 1 < es.length
        · have hq := HAf.out j (j + 1) hj hw (fun _ => rfl) (fun h => absurd hw h)
          have hlt := HM.out j (j + 1) (by omega) hw
          have hlt0 : ¬ ((kk (j + 1) : Int) ≤ (kk j : Int)) := by omega
          by_cases hq0 : j + 1 = p
          · have hc : c = 1 := (hC (fun h => by have := hA h; omega)).2
            have hmN : m + 1 = es.length := by have := hC (fun h => by have := hA h; omega); omega
            have hmi2 : (m : Int) + 1 = (es.length : Int) := by omega
            subst hc
            have heq : kk (j + 1) = kk p := by rw [hq0]
            rw [heq] at hq hlt0
            have HQ : Hid _ := hidden hq
            clear hA hC hq hlt heq hw hmN
            go_wp2_with (first
              | (go_at_call 33; refine (olenUI B w _ B 4096 es ht).mono ?_; rintro e _ ⟨rfl, rfl⟩)
              | (go_at_call 27; refine (oafterUI B w wr B 4096 es (kk j) ht).mono ?_; rintro e w4 ⟨rfl, q4, rfl⟩; rw [HQ.out]; have ht4 := ht.drewN q4; clear ht; generalize wr.drewN q4 = w4 at *)
              | (go_at_call 33; refine (olenUI B w w4 B 4096 es ht4).mono ?_; rintro e _ ⟨rfl, rfl⟩))
            go_ret
            exact ⟨by simp, by rw [hB]; exact ht4.bel⟩
          · have hne : kk (j + 1) ≠ kk p := by
              rcases Nat.lt_or_ge (j + 1) p with h | h
              · have := HM.out (j + 1) p h hp'; omega
              · have := HM.out p (j + 1) (by omega) hw; omega
            have hne0 : ¬ ((kk (j + 1) : Int) = (kk p : Int)) := by omega
            have HQ : Hid _ := hidden hq
            have HAC : Hid (m + 1 < es.length ∧ (p + (m + 1) < es.length → j + 1 = p + (m + 1) ∧ c = 0) ∧ (¬ p + (m + 1) < es.length → j + 1 + es.length = p + (m + 1) ∧ c = 1)) := (by
              by_cases h : p + m < es.length
              · have := hA h
                refine ⟨by omega, fun _ => by omega, fun _ => by omega⟩
              · have := hC h
                refine ⟨by omega, fun _ => by omega, fun _ => by omega⟩ : m + 1 < es.length ∧ (p + (m + 1) < es.length → j + 1 = p + (m + 1) ∧ c = 0) ∧ (¬ p + (m + 1) < es.length → j + 1 + es.length = p + (m + 1) ∧ c = 1))
            clear hA hC hq hlt hne
            go_wp2_with (first
              | (go_at_call 33; refine (olenUI B w _ B 4096 es ht).mono ?_; rintro e _ ⟨rfl, rfl⟩)
              | (go_at_call 27; refine (oafterUI B w wr B 4096 es (kk j) ht).mono ?_; rintro e w4 ⟨rfl, q4, rfl⟩; rw [HQ.out]; have ht4 := ht.drewN q4; clear ht; generalize wr.drewN q4 = w4 at *))
            go_roundw
            case rel => exact ⟨m + 1, j + 1, c, HAC.out.1, hw, rfl, by go_num, rfl, HAC.out.2.1, HAC.out.2.2, ht4⟩
            case measure => simp [intOf]; omega
        · have hq := HAf.out j 0 hj (by omega) (fun h => absurd h hw) (fun _ => rfl)
          have hj1 : j + 1 = es.length := by omega
          have hle0 : (kk 0 : Int) ≤ (kk j : Int) := by
            by_cases h : j = 0
            · subst h; omega
            · have := HM.out 0 j (by omega) hj; omega
          have hpm : p + m < es.length := by
            rcases Nat.lt_or_ge (p + m) es.length with h | h
            · exact h
            · have := hC (by omega); omega
          have hc : c = 0 := (hA hpm).2
          subst hc
          have hjp := (hA hpm).1
          by_cases hp0 : p = 0
          · subst hp0
            have hmi2 : (m : Int) + 1 = (es.length : Int) := by omega
            have HQ : Hid _ := hidden hq
            clear hA hC hq hj1 hjp hpm
            go_wp2_with (first
              | (go_at_call 33; refine (olenUI B w _ B 4096 es ht).mono ?_; rintro e _ ⟨rfl, rfl⟩)
              | (go_at_call 27; refine (oafterUI B w wr B 4096 es (kk j) ht).mono ?_; rintro e w4 ⟨rfl, q4, rfl⟩; rw [HQ.out]; have ht4 := ht.drewN q4; clear ht; generalize wr.drewN q4 = w4 at *)
              | (go_at_call 33; refine (olenUI B w w4 B 4096 es ht4).mono ?_; rintro e _ ⟨rfl, rfl⟩))
            go_ret
            exact ⟨by simp, by rw [hB]; exact ht4.bel⟩
          · have hne0 : ¬ ((kk 0 : Int) = (kk p : Int)) := by have := HM.out 0 p (by omega) hp'; omega
            have HQ : Hid _ := hidden hq
            have HAC : Hid (m + 1 < es.length ∧ p + (m + 1) = es.length) := (by omega : m + 1 < es.length ∧ p + (m + 1) = es.length)
            clear hA hC hq hj1 hjp hpm
            go_wp2_with (first
              | (go_at_call 33; refine (olenUI B w _ B 4096 es ht).mono ?_; rintro e _ ⟨rfl, rfl⟩)
              | (go_at_call 27; refine (oafterUI B w wr B 4096 es (kk j) ht).mono ?_; rintro e w4 ⟨rfl, q4, rfl⟩; rw [HQ.out]; have ht4 := ht.drewN q4; clear ht; generalize wr.drewN q4 = w4 at *))
            go_roundw
            case rel => exact ⟨m + 1, 0, 1, HAC.out.1, by omega, rfl, by go_num, by go_num, fun h => by have := HAC.out.2; omega, fun _ => ⟨by have := HAC.out.2; omega, rfl⟩, ht4⟩
            case measure => simp [intOf]; omega

end Go.Proofs.Ytofpkmionbbmcaa
