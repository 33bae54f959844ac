/- MailTexts. -/
import Derived.Test.YteaoafdedjenaaaMlE
import Derived.Test.YteaoafdedjenaaaMlD
import Derived.Test.YteaoafdedjenaaaPick
import Derived.Deep.CutRange
import Derived.Deep.CutBlock
import Derived.Deep.QuietTactic
import Derived.BigQuiet
namespace Go.Proofs.Yteaoafdedjenaaa
open Go.RowKit Go.Conc

/-- A box of most at g: of the texts L the first t were taken, k were put. -/
structure TS (w wr : World) (g most : Nat) (L : List ByteArray) (k t : Nat) : Prop where
  b : BX wr 52 (g + 1) g most (((L.take k).drop t).map Value.string)
  bel : Below g w wr
theorem TS.set {w wr w' : World} {g most : Nat} {L : List ByteArray} {k t k' t' : Nat} (h : TS w wr g most L k t) (hk : Kept wr w' (fun i => i = g)) (hb : BX w' 52 (g + 1) g most (((L.take k').drop t').map Value.string)) : TS w w' g most L k' t' :=
  ⟨hb, h.bel.trans (hk.below (Nat.le_of_lt h.b.lt.2) (fun i hi => by show ¬ (i = g); omega))⟩
theorem TS.keep {w wr w' : World} {g most : Nat} {L : List ByteArray} {k t : Nat} (h : TS w wr g most L k t) (hk : Kept wr w' (fun i => g + 1 < i)) : TS w w' g most L k t :=
  ⟨h.b.kept hk (by show ¬ (g + 1 < g + 1); omega) (by show ¬ (g + 1 < g); omega), h.bel.trans (hk.below (Nat.le_of_lt h.b.lt.2) (fun i hi => by show ¬ (g + 1 < i); omega))⟩

theorem q_take {α : Type} (L : List α) (k t : Nat) (hk : k ≤ L.length) (ht : t < k) : (L.take k).drop t = L[t] :: (L.take k).drop (t + 1) := by
  rw [List.drop_eq_getElem_cons (by rw [List.length_take]; omega), List.getElem_take]
theorem q_put {α : Type} (L : List α) (k t : Nat) (hk : k < L.length) (ht : t ≤ k) : (L.take (k + 1)).drop t = (L.take k).drop t ++ [L[k]] := by
  rw [List.take_succ_eq_append_getElem hk, List.drop_append_of_le_length (by rw [List.length_take]; omega)]
theorem q_len {α : Type} (L : List α) (k t : Nat) (hk : k ≤ L.length) : ((L.take k).drop t).length = k - t := by
  rw [List.length_drop, List.length_take, Nat.min_eq_left hk]

set_option maxRecDepth 20000 in
set_option maxHeartbeats 2000000 in
theorem mailTexts_any (n : Int) (L : List ByteArray) (bs : List Bool) (v vb : Value) (w : World) (hv : Vs w v (L.map Value.string)) (hvb : Vs w vb (bs.map Value.bool)) (hr : L.length ≤ 140737488355328) :
    Calls Try.prog 5 #[.int .i64 n, v, vb] w fun e w' => e = .returned (.bool true) ∧ Below w.heap.size w w' := by
  obtain ⟨ao, cap, hve, hcap, _⟩ := id hv
  obtain ⟨bo, bcap, hvbe, hbcap, _⟩ := id hvb
  rw [List.length_map] at hve hvbe
  subst hve hvbe
  have hP := pickN_lt n 16 (by omega)
  obtain ⟨M, hM⟩ : ∃ M, M = 1 + pickN n 16 := ⟨_, rfl⟩
  have hMi : (1 : Int) + (pickN n 16 : Int) = (M : Int) := by omega
  have hM1 : 1 ≤ M := by omega
  have hM2 : M ≤ 16 := by omega
  clear hM hP
  go_enter Try.func5, Try.ntmps5
  go_upto_block 0 with (first
    | (go_at_call 14; refine (pick_any n 16 (by omega) (by omega) _).mono ?_; rintro e _ ⟨rfl, rfl⟩)
    | (go_at_call 8; refine (newS_ok M hM1 hM2 _).mono ?_; rintro e w1 ⟨rfl, h1, hb1, hs1⟩; generalize hG : w.heap.size = g at *)
    | (go_at_call 9; refine (mknown_any _).mono ?_; rintro e w3 ⟨rfl, hb3⟩; have ht3 : TS w w3 g M L 0 0 := ⟨by simpa using h1.kept (kept_of_below hb3 (fun _ => False)) id id, hb1.trans (hb3.mono (by omega))⟩; clear h1 hb1 hb3))
  go_cut [9, 10, 11, 12, 13, 14, 15] from 36 to 114 (fun a b _ _ _ _ _ wc => ∃ K t : Nat, a = .int .i64 (K : Int) ∧ b = .int .i64 (t : Int) ∧ t ≤ K ∧ K ≤ L.length ∧ TS w wc g M L K t)
  case first =>
    go_wp2
    go_loopw [9, 10, 11] (fun a b i wr => ∃ k t : Nat, a = .int .i64 (k : Int) ∧ b = .int .i64 (t : Int) ∧ i = .int .i64 (k : Int) ∧ t ≤ k ∧ k - t ≤ M ∧ k ≤ L.length ∧ TS w wr g M L k t) (fun _ _ i _ => L.length - (intOf i).toNat)
    case atStart => exact ⟨0, 0, rfl, rfl, rfl, Nat.le_refl _, Nat.zero_le _, Nat.zero_le _, ht3⟩
    case round =>
      obtain ⟨k, t, rfl, rfl, rfl, htk, hkM, hkL, ht⟩ := hrel
      clear ht3
      by_cases hlt : k < L.length ∧ k < 500
      · obtain ⟨hlt, h500⟩ := hlt
        have hk0 : (k : Int) < (L.length : Int) := by omega
        have hk5 : (k : Int) < 500 := by omega
        have hLb := hv.below (by rw [hG]; exact ht.bel)
        go_upto_if 50 with fail
        go_cut [10, 12, 13] from 36 to 114 (fun b _ _ wc => ∃ t' : Nat, b = .int .i64 (t' : Int) ∧ t' ≤ k ∧ k - t' < M ∧ TS w wc g M L k t')
        case first =>
          by_cases hfull : k - t = M
          · have hfi : (k : Int) - (t : Int) = (M : Int) := by omega
            have htk' : t < k := by omega
            obtain ⟨b, off, hao, hblr, hc⟩ := hLb.cell t (by simp; omega)
            have hbl : b < g := by
              obtain ⟨b', off', hao', hbl', _⟩ := hv.cell t (by simp; omega)
              rw [hao] at hao'
              cases hao'
              omega
            subst hao
            simp only [List.getElem_map] at hc
            have hq := ht.b
            rw [q_take L k t hkL htk', List.map_cons] at hq
            have ht0 : (t : Int) < (L.length : Int) := by omega
            generalize L[t]'(by omega) = x at *
            go_wp2_with (go_at_call 12; refine (takeS_some (g + 1) g M x _ _ hq).mono ?_; rintro e w4 ⟨rfl, ha4, hk4, hs4⟩; have hc4 : w4.cell? ⟨b, off + t, none⟩ = some (.string x) := (World.cell?_of_block (a := ⟨b, off + t, none⟩) (hk4.block b hblr (by show ¬ (b = g); omega))).trans hc)
            go_meet
            exact ⟨t + 1, by go_num, by omega, by omega, ht.set hk4 ha4⟩
          · have hfi : ¬ ((k : Int) - (t : Int) = (M : Int)) := by omega
            go_wp2
            go_meet
            exact ⟨t, rfl, htk, by omega, ht⟩
        case rest =>
          obtain ⟨t', rfl, htk', hkt', ht'⟩ := hcut
          obtain ⟨wy, hwy⟩ : ∃ x, x = wc := ⟨_, rfl⟩
          subst hwy
          clear ht hLb htk hkM
          have hLb := hv.below (by rw [hG]; exact ht'.bel)
          obtain ⟨b, off, hao, hblr, hc⟩ := hLb.cell k (by simpa using hlt)
          have hbl : b < g := by
            obtain ⟨b', off', hao', hbl', _⟩ := hv.cell k (by simpa using hlt)
            rw [hao] at hao'
            cases hao'
            omega
          subst hao
          simp only [List.getElem_map] at hc
          have HQ : Hid ((L.take (k + 1)).drop t' = (L.take k).drop t' ++ [L[k]]) := q_put L k t' hlt htk'
          have hql : ((L.take k).drop t').length < M := by rw [q_len L k t' (by omega)]; omega
          generalize L[k] = x at *
          by_cases hbk : k < bs.length
          · have hbk0 : (k : Int) < (bs.length : Int) := by omega
            obtain ⟨b2, off2, hbo, hblr2, hc2⟩ := (hvb.below (by rw [hG]; exact ht'.bel)).cell k (by simpa using hbk)
            have hbl2 : b2 < g := by
              obtain ⟨b', off', hao', hbl', _⟩ := hvb.cell k (by simpa using hbk)
              rw [hbo] at hao'
              cases hao'
              omega
            subst hbo
            simp only [List.getElem_map] at hc2
            generalize bs[k] = lk at *
            cases lk
            · go_wp2_with (go_at_call 10; refine (putS_room (g + 1) g M _ x _ ht'.b (by simpa using hql)).mono ?_; rintro e w4 ⟨rfl, ha4, hk4, hs4⟩; have ht4 : TS w w4 g M L (k + 1) t' := ht'.set hk4 (by rw [HQ.out]; simpa using ha4); have hc4 : w4.cell? ⟨b2, off2 + k, none⟩ = some (.bool false) := (World.cell?_of_block (a := ⟨b2, off2 + k, none⟩) (hk4.block b2 hblr2 (by show ¬ (b2 = g); omega))).trans hc2)
              go_roundw
              case rel => exact ⟨k + 1, t', by go_num, rfl, by go_num, by omega, by omega, by omega, ht4⟩
              case measure => simp [intOf]; omega
            · have hQl : ((L.take (k + 1)).drop t').length = k + 1 - t' := q_len L (k + 1) t' (by omega)
              obtain ⟨N, hN⟩ : ∃ N, N = k + 1 - t' := ⟨_, rfl⟩
              have hNi : (k : Int) + 1 - (t' : Int) = (N : Int) := by omega
              have HQN : Hid (((L.take (k + 1)).drop t').length = N) := by have e : ((L.take (k + 1)).drop t').length = N := by { rw [hQl, hN] }; exact e
              have HNN : Hid (N = k + 1 - t') := hN
              clear hQl hN
              go_wp2_with (first
                | (go_at_call 10; refine (putS_room (g + 1) g M _ x _ ht'.b (by simpa using hql)).mono ?_; rintro e w4 ⟨rfl, ha4, hk4, hs4⟩; clear hs4; have ht4 : TS w w4 g M L (k + 1) t' := ht'.set hk4 (by rw [HQ.out]; simpa using ha4); have hc4 : w4.cell? ⟨b2, off2 + k, none⟩ = some (.bool true) := (World.cell?_of_block (a := ⟨b2, off2 + k, none⟩) (hk4.block b2 hblr2 (by show ¬ (b2 = g); omega))).trans hc2)
                | (go_at_call 11; refine (allS_any (g + 1) g M _ w4 ht4.b (by rw [HQN.out]; have := HNN.out; omega) hM2).mono ?_; rintro e w5 ⟨rfl, hr5, h5, hk5, hs5⟩; clear hs5; rw [HQN.out]; have ht5 := ht4.set hk5 h5; have hg5 : g + 1 < w4.heap.size := ht4.b.lt.1; generalize w4.heap.size = g5 at *))
              have HE : Hid (∀ j, j < N → ∃ x : ByteArray, (((L.take (k + 1)).drop t').map Value.string)[j]? = some (.string x) ∧ (L.map Value.string)[t' + j]? = some (.string x)) := by
                have e : ∀ j, j < N → ∃ x : ByteArray, (((L.take (k + 1)).drop t').map Value.string)[j]? = some (.string x) ∧ (L.map Value.string)[t' + j]? = some (.string x) := by
                  intro j hj
                  have h1 := HNN.out
                  refine ⟨L[t' + j]'(by omega), ?_, ?_⟩
                  · rw [List.getElem?_map, List.getElem?_drop, List.getElem?_take_of_lt (by omega), List.getElem?_eq_getElem (by omega)]
                    rfl
                  · rw [List.getElem?_map, List.getElem?_eq_getElem (by omega)]
                    rfl
                exact e
              have HQm : Hid ((((L.take (k + 1)).drop t').map Value.string).length = N) := by have e : (((L.take (k + 1)).drop t').map Value.string).length = N := by { rw [List.length_map]; exact HQN.out }; exact e
              clear ht4
              go_loopw [15] (fun i wr => ∃ (j : Nat) (A : List Value), j ≤ N ∧ i = .int .i64 (j : Int) ∧ A.length = j ∧ Row wr g5 9 (A ++ (((L.take (k + 1)).drop t').map Value.string).drop j) ∧ TS w wr g M L (k + 1) t') (fun i _ => N - (intOf i).toNat)
              case atStart => exact ⟨0, [], Nat.zero_le _, rfl, rfl, by simpa using hr5, ht5⟩
              case round =>
                obtain ⟨j, A, hj, rfl, hA, hrow, htr⟩ := hrel
                clear hr5 ht5
                have HAj : Hid (A.length = j) := hA
                clear hA
                by_cases hjN : j < N
                · obtain ⟨y, hy1, hy2⟩ := HE.out j hjN
                  have hcl : wr.cell? ⟨b, off + (t' + j), none⟩ = some (.string y) := by
                    obtain ⟨b', off', hao', hbl', hcx⟩ := (hv.below (by rw [hG]; exact htr.bel)).cell (t' + j) (List.getElem?_eq_some_iff.1 hy2).1
                    cases hao'
                    exact hcx.trans (congrArg some (List.getElem?_eq_some_iff.1 hy2).2)
                  have hjQ := (List.getElem?_eq_some_iff.1 hy1).1
                  have hDj : (((L.take (k + 1)).drop t').map Value.string).drop j = .string y :: (((L.take (k + 1)).drop t').map Value.string).drop (j + 1) := by
                    rw [List.drop_eq_getElem_cons hjQ, (List.getElem?_eq_some_iff.1 hy1).2]
                  rw [hDj] at hrow
                  have hcr : wr.cell? ⟨g5, j, none⟩ = some (.string y) := by
                    have := hrow.cell j (by rw [List.length_append, HAj.out, List.length_cons]; omega)
                    rw [this]
                    have e := HAj.out
                    subst e
                    simp
                  have hfr := hrow.frozen j
                  have hj0 : (j : Int) < (N : Int) := by omega
                  have hjl : ((t' : Int) + (j : Int)) < (L.length : Int) := by have := HNN.out; omega
                  have hjw : IntKind.i64.wrap ((t' : Int) + (j : Int)) = (t' : Int) + (j : Int) := by rw [IntKind.wrap_i64]; omega
                  clear hy1 hy2 hjQ hDj
                  go_wp2
                  go_quiet (fail)
                  have hrow6 : Row (wr.drewN nq) g5 9 (A ++ .string y :: (((L.take (k + 1)).drop t').map Value.string).drop (j + 1)) := hrow
                  have htr6 : TS w (wr.drewN nq) g M L (k + 1) t' := htr.keep (kept_of_below (below_drewN0 wr nq) _)
                  have hcr6 : (wr.drewN nq).cell? ⟨g5, j, none⟩ = some (.string y) := hcr
                  have hfr6 : (wr.drewN nq).frozen? ⟨g5, j, none⟩ = false := hfr
                  clear hrow htr hcr hfr hcl
                  generalize wr.drewN nq = w6 at *
                  go_wp2
                  go_roundw
                  case rel =>
                    refine ⟨j + 1, A ++ [.string ⟨#[109, 97, 114, 107]⟩], by omega, by go_num, by rw [List.length_append, HAj.out]; rfl, ?_, htr6.keep ((Kept.setCell w6 ⟨g5, j, none⟩ _).mono (fun i _ e => by have e' : i = g5 := e; omega))⟩
                    have := hrow6.set j (.string ⟨#[109, 97, 114, 107]⟩)
                    rw [← HAj.out, set_next] at this
                    rw [HAj.out] at this
                    exact this
                  case measure => simp [intOf]; omega
                · go_wp2
                  go_roundw
                  case rel => exact ⟨k + 1, t', by go_num, rfl, by go_num, by omega, by omega, by omega, htr⟩
                  case measure => simp [intOf]; omega
          · have hbk0 : ¬ (k : Int) < (bs.length : Int) := by omega
            go_wp2_with (go_at_call 10; refine (putS_room (g + 1) g M _ x _ ht'.b (by simpa using hql)).mono ?_; rintro e w4 ⟨rfl, ha4, hk4, hs4⟩; have ht4 : TS w w4 g M L (k + 1) t' := ht'.set hk4 (by rw [HQ.out]; simpa using ha4))
            go_roundw
            case rel => exact ⟨k + 1, t', by go_num, rfl, by go_num, by omega, by omega, by omega, ht4⟩
            case measure => simp [intOf]; omega
      · have hex : ¬ ((k : Int) < (L.length : Int)) ∨ ¬ ((k : Int) < 500) := by omega
        by_cases hk1 : (k : Int) < (L.length : Int)
        · have hk2 : ¬ ((k : Int) < 500) := by omega
          go_wp2
          go_meet
          exact ⟨k, t, rfl, rfl, htk, hkL, ht⟩
        · go_wp2
          go_meet
          exact ⟨k, t, rfl, rfl, htk, hkL, ht⟩
  case rest =>
    obtain ⟨K, t, rfl, rfl, htK, hKL, ht⟩ := hcut
    obtain ⟨wy, hwy⟩ : ∃ x, x = wc := ⟨_, rfl⟩
    subst hwy
    clear ht3
    go_wp2
    go_loopw [10] (fun b wr => ∃ t : Nat, b = .int .i64 (t : Int) ∧ t ≤ K ∧ TS w wr g M L K t) (fun b _ => K - (intOf b).toNat)
    case atStart => exact ⟨t, rfl, htK, ht⟩
    case round =>
      obtain ⟨t, rfl, htK, ht⟩ := hrel
      by_cases hlt : t < K
      · have hk0 : (t : Int) < (K : Int) := by omega
        obtain ⟨b, off, hao, hblr, hc⟩ := (hv.below (by rw [hG]; exact ht.bel)).cell t (by simp; omega)
        have hbl : b < g := by
          obtain ⟨b', off', hao', hbl', _⟩ := hv.cell t (by simp; omega)
          rw [hao] at hao'
          cases hao'
          omega
        subst hao
        simp only [List.getElem_map] at hc
        have hq := ht.b
        rw [q_take L K t hKL hlt, List.map_cons] at hq
        have ht0 : (t : Int) < (L.length : Int) := by omega
        generalize L[t]'(by omega) = x at *
        go_wp2_with (go_at_call 12; refine (takeS_some (g + 1) g M x _ _ hq).mono ?_; rintro e w4 ⟨rfl, ha4, hk4, hs4⟩; have hc4 : w4.cell? ⟨b, off + t, none⟩ = some (.string x) := (World.cell?_of_block (a := ⟨b, off + t, none⟩) (hk4.block b hblr (by show ¬ (b = g); omega))).trans hc)
        go_roundw
        case rel => exact ⟨t + 1, by go_num, by omega, ht.set hk4 ha4⟩
        case measure => simp [intOf]; omega
      · have hk0 : ¬ ((t : Int) < (K : Int)) := by omega
        have hq : BX wr 52 (g + 1) g M [] := by
          have h := ht.b
          have e : (L.take K).drop t = [] := List.eq_nil_of_length_eq_zero (by rw [q_len L K t hKL]; omega)
          rw [e] at h
          exact h
        go_wp2_with (go_at_call 21; refine (lenS_any (g + 1) g M [] _ hq).mono ?_; rintro e _ ⟨rfl, rfl⟩)
        go_ret
        exact ⟨by simp, by rw [hG]; exact ht.bel⟩

end Go.Proofs.Yteaoafdedjenaaa
