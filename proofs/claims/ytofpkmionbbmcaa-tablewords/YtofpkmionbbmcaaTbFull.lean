/- TableFull, walked. -/
import Derived.Test.YtofpkmionbbmcaaTbStep
import Derived.Deep.CutRange
import Derived.Deep.CutBlock
namespace Go.Proofs.Ytofpkmionbbmcaa
open Go.RowKit

section
variable {α β : Type} [DecidableEq α] {lt : α → α → Bool}
theorem getE_has {es : List (α × β)} {k : α} (h : hasE lt es k = true) : ∃ v, getE lt es k = some v := by
  obtain ⟨hp, _⟩ := hasE_at h
  exact ⟨es[pE lt es k].2, by unfold getE; rw [if_pos h, List.getElem?_eq_getElem hp]; rfl⟩
theorem getE_not {es : List (α × β)} {k : α} (h : hasE lt es k = false) : getE lt es k = none := by
  unfold getE
  rw [h]
  rfl
end

/-- The even numbers below 2 i, and no others. -/
def Ev (i : Nat) (es : List (Nat × Int)) : Prop := es.length = i ∧ ∀ x, x ∈ keysE es ↔ ∃ j, j < i ∧ x = 2 * j

theorem Ev.put {i M : Nat} {es : List (Nat × Int)} (h : Ev i es) (hs : Srt ltN (keysE es)) (hi : i < M) (v : Int) : putB ltN M es (2 * i) = true ∧ Ev (i + 1) (putE ltN M es (2 * i) v) := by
  have hn : hasE ltN es (2 * i) = false := by
    rw [Bool.eq_false_iff]
    intro hh
    obtain ⟨j, hj, e⟩ := (h.2 _).1 ((hasE_iff koN es _ hs).1 hh)
    omega
  have hp : putB ltN M es (2 * i) = true := by
    unfold putB
    rw [hn, h.1]
    simpa using hi
  refine ⟨hp, ?_, fun x => ?_⟩
  · rw [len_put, hn, h.1]
    simp [hi]
  · rw [mem_put, h.2]
    constructor
    · rintro (⟨j, hj, rfl⟩ | ⟨rfl, _⟩)
      · exact ⟨j, by omega, rfl⟩
      · exact ⟨i, by omega, rfl⟩
    · rintro ⟨j, hj, rfl⟩
      by_cases hji : j = i
      · subst hji; exact Or.inr ⟨rfl, hp⟩
      · exact Or.inl ⟨j, by omega, rfl⟩
/-- A full table takes no new key. -/
theorem Ev.again {M : Nat} {es : List (Nat × Int)} (h : Ev M es) (k : Nat) (v : Int) : putB ltN M es k = hasE ltN es k ∧ Ev M (putE ltN M es k v) := by
  have hp : putB ltN M es k = hasE ltN es k := by
    unfold putB
    rw [h.1]
    simp
  refine ⟨hp, ?_, fun x => ?_⟩
  · rw [len_put, h.1]
    simp
  · rw [mem_put, hp]
    constructor
    · rintro (h1 | ⟨rfl, h1⟩)
      · exact (h.2 x).1 h1
      · obtain ⟨hq, he⟩ := hasK_at h1
        have : x ∈ keysE es := by rw [← he]; exact List.getElem_mem _
        exact (h.2 x).1 this
    · exact fun h1 => Or.inl ((h.2 x).2 h1)
/-- What is dropped makes room. -/
theorem Ev.last {M : Nat} {es : List (Nat × Int)} (h : Ev M es) (hs : Srt ltN (keysE es)) (d : Nat) (hd : d < M) : hasE ltN es (2 * d) = true ∧ putB ltN M (dropE ltN es (2 * d)) 1 = true ∧ putB ltN M (putE ltN M (dropE ltN es (2 * d)) 1 9) (2 * d) = false ∧ (putE ltN M (putE ltN M (dropE ltN es (2 * d)) 1 9) (2 * d) 1).length = M := by
  have h1 : hasE ltN es (2 * d) = true := (hasE_iff koN es _ hs).2 ((h.2 _).2 ⟨d, hd, rfl⟩)
  have hs1 := srt_drop (lt := ltN) es (2 * d) hs
  have hl1 : (dropE ltN es (2 * d)).length = M - 1 := by rw [len_drop, h1, h.1]; rfl
  have h2 : putB ltN M (dropE ltN es (2 * d)) 1 = true := by
    unfold putB
    rw [hl1]
    simp; omega
  have n1 : hasE ltN (dropE ltN es (2 * d)) 1 = false := by
    rw [Bool.eq_false_iff]
    intro hh
    have hm := (hasE_iff koN _ _ hs1).1 hh
    obtain ⟨j, _, e⟩ := (h.2 _).1 ((mem_drop koN es _ _ hs).1 hm).1
    omega
  have hs2 := srt_put koN M (dropE ltN es (2 * d)) 1 (9 : Int) hs1
  have hl2 : (putE ltN M (dropE ltN es (2 * d)) 1 9).length = M := by
    have hlt : M - 1 < M := by omega
    rw [len_put, n1, hl1]
    simp only [Bool.false_eq_true, if_false, if_pos hlt]
    omega
  have n2 : hasE ltN (putE ltN M (dropE ltN es (2 * d)) 1 9) (2 * d) = false := by
    rw [Bool.eq_false_iff]
    intro hh
    have hm := (hasE_iff koN _ _ hs2).1 hh
    rcases (mem_put _ _ _ _ _).1 hm with hm | ⟨e, _⟩
    · exact ((mem_drop koN es _ _ hs).1 hm).2 rfl
    · omega
  refine ⟨h1, h2, ?_, ?_⟩
  · unfold putB
    rw [n2, hl2]
    simp
  · rw [len_put, n2, hl2]
    simp

set_option maxRecDepth 20000 in
set_option maxHeartbeats 2000000 in
theorem tableFull_any (most drop : Int) (ks : List Nat) (v : Value) (w : World) (hv : WS w v 1 cU64 ks) :
    Calls Try.prog 7 #[.int .i64 most, v, .int .i64 drop] w fun e w' => e = .returned (.bool true) ∧ Below w.heap.size w w' := by
  obtain ⟨ao, cap, rfl, hnc, hao⟩ := hv.slice
  have hpl := pickN_lt most 40 (by omega)
  go_enter Try.func7, Try.ntmps7
  go_wp2_with (go_at_call 20; refine (pick_any most 40 (by omega) (by omega) _).mono ?_; rintro e _ ⟨rfl, rfl⟩)
  obtain ⟨M, hM, hM1, hM2⟩ : ∃ M : Nat, (1 + (pickN most 40 : Int)) = (M : Int) ∧ 1 ≤ M ∧ M ≤ 40 := ⟨1 + pickN most 40, by omega, by omega, by omega⟩
  rw [hM]
  clear hM hpl
  refine (onewUI w.heap.size M hM1 (by omega) w w (Below.refl _ _) (Nat.le_refl _)).mono ?_
  rintro e w1 ⟨rfl, h1, _⟩
  generalize hB : w.heap.size = B at *
  go_wp2_with fail
  refine (tknown_any w1).mono ?_
  rintro e w2 ⟨rfl, hb2⟩
  have h2 := h1.below hb2
  clear h1 hb2
  go_upto_block 0 with fail
  go_cut [9] from 32 to 43 (fun _ wc => ∃ es, Ev M es ∧ TOUI B w wc B M es)
  case first =>
    go_wp2
    go_loopw [9] (fun i wr => ∃ (j : Nat) (es : List (Nat × Int)), j ≤ M ∧ i = .int .i64 (j : Int) ∧ Ev j es ∧ TOUI B w wr B M es) (fun i _ => M - (intOf i).toNat)
    case atStart => exact ⟨0, [], Nat.zero_le _, rfl, ⟨rfl, fun x => by simp [keysE]⟩, h2⟩
    case round =>
      obtain ⟨j, es, hj, rfl, hev, ht⟩ := hrel
      clear h2
      by_cases hlt : j < M
      · have hj0 : (j : Int) < (M : Int) := by omega
        obtain ⟨hp, hev'⟩ := hev.put ht.srt hlt (j : Int)
        go_wp2_with fail
        rw [show (2 * (j : Int)) = ((2 * j : Nat) : Int) by omega]
        refine (oputUI B w wr B M es (2 * j) (j : Int) ht).mono ?_
        rintro e w3 ⟨rfl, h3⟩
        rw [hp]
        clear ht hp
        go_wp2
        go_roundw
        case rel => exact ⟨j + 1, _, by omega, by go_num, hev', h3⟩
        case measure => simp [intOf]; omega
      · have hj0 : ¬ ((j : Int) < (M : Int)) := by omega
        have e : j = M := by omega
        subst e
        go_wp2
        go_meet
        exact ⟨es, hev, ht⟩
  case rest =>
    obtain ⟨es, hev, ht⟩ := hcut
    obtain ⟨wy, hwy⟩ : ∃ x, x = wc := ⟨_, rfl⟩
    subst hwy
    clear h2
    go_upto_block 2 with fail
    go_cut [10, 11, 12] from 44 to 76 (fun _ _ _ wc => ∃ es, Ev M es ∧ TOUI B w wc B M es)
    case first =>
      go_wp2
      go_loopw [10, 11, 12] (fun i _ _ wr => ∃ (j : Nat) (es : List (Nat × Int)), j ≤ ks.length ∧ i = .int .i64 (j : Int) ∧ Ev M es ∧ TOUI B w wr B M es) (fun i _ _ _ => ks.length - (intOf i).toNat)
      case atStart => exact ⟨0, es, Nat.zero_le _, rfl, hev, ht⟩
      case round =>
        clear hev ht
        obtain ⟨j, es, hj, rfl, hev, ht⟩ := hrel
        by_cases hlt : j < ks.length ∧ j < 50
        · obtain ⟨hlt, h50⟩ := hlt
          have hj0 : (j : Int) < (ks.length : Int) := by omega
          have hj2 : (j : Int) < 50 := by omega
          obtain ⟨b, off, hao', hbl, c0⟩ := hv.c1 (g := fun n : Nat => .int .u64 (n : Int)) (fun _ => rfl) j hlt
          subst hao'
          have HC : Hid (∀ W, Below B w W → W.cell? ⟨b, off + j, none⟩ = some (.int .u64 (ks[j] : Int))) := fun W h => (h.cell (p := ⟨b, off + j, none⟩) (by rw [← hB]; exact hbl)).trans c0
          generalize ks[j] = k at *
          have c1 := HC.out wr ht.bel
          obtain ⟨hp, hev'⟩ := hev.again k 7
          have hl' := hev'.1
          go_wp2_with fail
          refine (ogetUI B w wr B M es k ht).mono ?_
          rintro e w3 ⟨rfl, q, rfl⟩
          have ht3 := ht.drewN q
          clear ht c0
          generalize wr.drewN q = w3 at *
          have c3 := HC.out w3 ht3.bel
          cases hh : hasE ltN es k
          · rw [hh] at hp
            rw [show ovVUI (getE ltN es k) = .tuple #[.int .i64 0, .bool false] by rw [getE_not hh]; rfl]
            go_wp2_with (first
              | (go_at_call 31; refine (oputUI B w w3 B M es k 7 ht3).mono ?_; rintro e w4 ⟨rfl, ht4⟩; rw [hp])
              | (go_at_call 33; refine (olenUI B w w4 B M _ ht4).mono ?_; rintro e _ ⟨rfl, rfl⟩; rw [hl']))
            go_roundw
            case rel => exact ⟨j + 1, _, by omega, by go_num, hev', ht4⟩
            case measure => simp [intOf]; omega
          · rw [hh] at hp
            obtain ⟨vv, hvv⟩ := getE_has hh
            rw [show ovVUI (getE ltN es k) = .tuple #[.int .i64 vv, .bool true] by rw [hvv]; rfl]
            go_wp2_with (first
              | (go_at_call 31; refine (oputUI B w w3 B M es k 7 ht3).mono ?_; rintro e w4 ⟨rfl, ht4⟩; rw [hp])
              | (go_at_call 33; refine (olenUI B w w4 B M _ ht4).mono ?_; rintro e _ ⟨rfl, rfl⟩; rw [hl']))
            go_roundw
            case rel => exact ⟨j + 1, _, by omega, by go_num, hev', ht4⟩
            case measure => simp [intOf]; omega
        · by_cases hj1 : (j : Int) < (ks.length : Int)
          · have hj2 : ¬ ((j : Int) < 50) := by omega
            go_wp2
            go_meet
            exact ⟨es, hev, ht⟩
          · go_wp2
            go_meet
            exact ⟨es, hev, ht⟩
    case rest =>
      clear hev ht
      obtain ⟨es, hev, ht⟩ := hcut
      obtain ⟨wz, hwz⟩ : ∃ x, x = wc := ⟨_, rfl⟩
      subst hwz
      have hd := pickN_lt drop M (by omega)
      obtain ⟨p1, p2, p3, p4⟩ := hev.last ht.srt (pickN drop M) hd
      have t1 : True := trivial
      go_wp2_with fail
      refine (pick_any drop M (by omega) (by omega) _).mono ?_
      rintro e _ ⟨rfl, rfl⟩
      generalize pickN drop M = dd at *
      have HD : Hid ((2 * (dd : Int)) = ((2 * dd : Nat) : Int)) := (by omega : (2 * (dd : Int)) = ((2 * dd : Nat) : Int))
      go_wp2_with (first
        | (go_at_call 23; rw [HD.out]; refine (odropUI B w wz B M es (2 * dd) ht).mono ?_; rintro e w4 ⟨rfl, ht4⟩; rw [p1])
        | (go_at_call 31; clear t1; refine (oputUI B w w4 B M _ 1 9 ht4).mono ?_; rintro e w5 ⟨rfl, ht5⟩; rw [p2])
        | (go_at_call 31; rw [HD.out]; refine (oputUI B w w5 B M _ (2 * dd) 1 ht5).mono ?_; rintro e w6 ⟨rfl, ht6⟩; rw [p3])
        | (go_at_call 33; refine (olenUI B w w6 B M _ ht6).mono ?_; rintro e _ ⟨rfl, rfl⟩; rw [p4]))
      go_ret
      exact ⟨by simp, by rw [hB]; exact ht6.bel⟩

end Go.Proofs.Ytofpkmionbbmcaa
