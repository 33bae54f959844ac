/- TableTwo, walked. -/
import Derived.Test.YtofpkmionbbmcaaTbStep
import Derived.Deep.CutRange
import Derived.Deep.CutBlock
import Derived.Deep.RegionHeldLaw
namespace Go.Proofs.Ytofpkmionbbmcaa
open Go.RowKit

/-- Two tables beside one another, both new since w. -/
def T2 (w wr : World) (a b : Nat) (ea eb : List (Nat × Int)) : Prop :=
  ∃ Fa Fb, TBUI wr a 100 ea Fa ∧ TBUI wr b 100 eb Fb ∧ (∀ k, Fa k → ¬ Fb k) ∧ (∀ k, Fa k → w.heap.size ≤ k) ∧ (∀ k, Fb k → w.heap.size ≤ k) ∧ Below w.heap.size w wr
theorem T2.below {w wr w' : World} {a b : Nat} {ea eb : List (Nat × Int)} (h : T2 w wr a b ea eb) (hb : Below wr.heap.size wr w') : T2 w w' a b ea eb := by
  obtain ⟨Fa, Fb, h1, h2, h3, h4, h5, h6⟩ := h
  exact ⟨Fa, Fb, h1.below hb, h2.below hb, h3, h4, h5, h6.trans (hb.mono h6.size)⟩
theorem T2.left {w wr w' : World} {a b : Nat} {eb ea' : List (Nat × Int)} {Fa Fb Fa' : Nat → Prop} (h2 : TBUI wr b 100 eb Fb) (h3 : ∀ k, Fa k → ¬ Fb k) (h4 : ∀ k, Fa k → w.heap.size ≤ k) (h5 : ∀ k, Fb k → w.heap.size ≤ k) (h6 : Below w.heap.size w wr) (h' : TBUI w' a 100 ea' Fa') (hk : Kept wr w' Fa) (hg : GrownT wr Fa Fa') : T2 w w' a b ea' eb := by
  refine ⟨Fa', Fb, h', h2.keep hk (fun k hb ha => h3 k ha hb), fun k ha hb => ?_, fun k ha => ?_, h5, h6.trans (hk.below h6.size (fun i hi e => by have := h4 i e; omega))⟩
  · rcases hg k ha with h | h
    · exact h3 k h hb
    · have := h2.lt' k hb; omega
  · rcases hg k ha with h | h
    · exact h4 k h
    · have := h6.size; omega
theorem T2.right {w wr w' : World} {a b : Nat} {ea eb' : List (Nat × Int)} {Fa Fb Fb' : Nat → Prop} (h2 : TBUI wr a 100 ea Fa) (h3 : ∀ k, Fa k → ¬ Fb k) (h4 : ∀ k, Fa k → w.heap.size ≤ k) (h5 : ∀ k, Fb k → w.heap.size ≤ k) (h6 : Below w.heap.size w wr) (h' : TBUI w' b 100 eb' Fb') (hk : Kept wr w' Fb) (hg : GrownT wr Fb Fb') : T2 w w' a b ea eb' := by
  refine ⟨Fa, Fb', h2.keep hk (fun k ha hb => h3 k ha hb), h', fun k ha hb => ?_, h4, fun k ha => ?_, h6.trans (hk.below h6.size (fun i hi e => by have := h5 i e; omega))⟩
  · rcases hg k hb with h | h
    · exact h3 k ha h
    · have := h2.lt' k ha; omega
  · rcases hg k ha with h | h
    · exact h5 k h
    · have := h6.size; omega
theorem t2puta {w wr : World} {a b : Nat} {ea eb : List (Nat × Int)} (k : Nat) (v : Int) (h : T2 w wr a b ea eb) :
    Calls Try.prog 31 #[.pointer (some ⟨a, 0, none⟩), .int .u64 (k : Int), .int .i64 v] wr fun e w' => e = .returned (.bool (putB ltN 100 ea k)) ∧ T2 w w' a b (putE ltN 100 ea k v) eb := by
  obtain ⟨Fa, Fb, h1, h2, h3, h4, h5, h6⟩ := h
  refine (putUI_any a 100 ea Fa k v wr h1).mono ?_
  rintro e w' ⟨F', rfl, h', hk, hg⟩
  exact ⟨rfl, T2.left h2 h3 h4 h5 h6 h' hk hg⟩
theorem t2dropa {w wr : World} {a b : Nat} {ea eb : List (Nat × Int)} (k : Nat) (h : T2 w wr a b ea eb) :
    Calls Try.prog 23 #[.pointer (some ⟨a, 0, none⟩), .int .u64 (k : Int)] wr fun e w' => e = .returned (.bool (hasE ltN ea k)) ∧ T2 w w' a b (dropE ltN ea k) eb := by
  obtain ⟨Fa, Fb, h1, h2, h3, h4, h5, h6⟩ := h
  refine (dropUI_any a 100 ea Fa k wr h1).mono ?_
  rintro e w' ⟨F', rfl, h', hk, hg⟩
  exact ⟨rfl, T2.left h2 h3 h4 h5 h6 h' hk hg⟩
theorem t2putb {w wr : World} {a b : Nat} {ea eb : List (Nat × Int)} (k : Nat) (v : Int) (h : T2 w wr a b ea eb) :
    Calls Try.prog 31 #[.pointer (some ⟨b, 0, none⟩), .int .u64 (k : Int), .int .i64 v] wr fun e w' => e = .returned (.bool (putB ltN 100 eb k)) ∧ T2 w w' a b ea (putE ltN 100 eb k v) := by
  obtain ⟨Fa, Fb, h1, h2, h3, h4, h5, h6⟩ := h
  refine (putUI_any b 100 eb Fb k v wr h2).mono ?_
  rintro e w' ⟨F', rfl, h', hk, hg⟩
  exact ⟨rfl, T2.right h1 h3 h4 h5 h6 h' hk hg⟩

theorem tmod_nat (k n : Nat) : (k : Int).tmod (n : Int) = ((k % n : Nat) : Int) := by rw [Int.tmod_eq_emod_of_nonneg (by omega)]; omega
/-- Two of a step's cells. -/
def SC (W : World) (b o k : Nat) (v : Int) : Prop := W.cell? ⟨b, o + 1, none⟩ = some (.int .u64 (k : Int)) ∧ W.cell? ⟨b, o + 2, none⟩ = some (.int .i64 v)

set_option maxRecDepth 20000 in
set_option maxHeartbeats 2000000 in
theorem tableTwo_any (l : List StepT) (v : Value) (w : World) (hv : WS w v 4 cStep l) :
    Calls Try.prog 8 #[v] w fun e w' => e = .returned (.bool true) ∧ Below w.heap.size w w' := by
  obtain ⟨ao, cap, rfl, hnc, hao⟩ := hv.slice
  go_enter Try.func8, Try.ntmps8
  go_wp2_with fail
  refine (newUI_ok 100 (by omega) (by omega) w).mono ?_
  rintro e w1 ⟨rfl, h1, hb1, hs1⟩
  go_wp2_with fail
  refine (newUI_ok 100 (by omega) (by omega) w1).mono ?_
  rintro e w2 ⟨rfl, h2, hb2, hs2⟩
  have ht2 : T2 w w2 w.heap.size w1.heap.size [] [] := ⟨_, _, h1.below hb2, h2, fun k ha hb => by have e1 : k = w.heap.size := ha; have e2 : k = w1.heap.size := hb; omega, fun k ha => by have e1 : k = w.heap.size := ha; omega, fun k ha => by have e1 : k = w1.heap.size := ha; omega, hb1.trans (hb2.mono (by omega))⟩
  have hne : w1.heap.size ≠ w.heap.size := by omega
  clear h1 hb1 hs1 h2 hb2 hs2
  generalize hA : w.heap.size = A at *
  generalize w1.heap.size = B at *
  go_wp2_with fail
  refine (tknown_any w2).mono ?_
  rintro e w3 ⟨rfl, hb3⟩
  have ht3 := ht2.below hb3
  clear ht2 hb3
  go_wp2_with fail
  refine (t2putb 5 6 ht3).mono ?_
  rintro e w4 ⟨rfl, ht4⟩
  rw [show putE ltN 100 ([] : List (Nat × Int)) 5 6 = [(5, 6)] by rfl] at ht4
  rw [show putB ltN 100 ([] : List (Nat × Int)) 5 = true by rfl]
  clear ht3
  go_upto_block 0 with fail
  go_cut [7] from 38 to 75 (fun _ wc => ∃ ea, T2 w wc A B ea [(5, 6)])
  case first =>
    go_wp2
    go_loopw [7] (fun i wr => ∃ (j : Nat) (ea : List (Nat × Int)), j ≤ l.length ∧ i = .int .i64 (j : Int) ∧ T2 w wr A B ea [(5, 6)]) (fun i _ => l.length - (intOf i).toNat)
    case atStart => exact ⟨0, [], Nat.zero_le _, rfl, ht4⟩
    case round =>
      obtain ⟨j, ea, hj, rfl, ht⟩ := hrel
      clear ht4
      by_cases hlt : j < l.length ∧ j < 200
      · obtain ⟨hlt, h200⟩ := hlt
        have hj0 : (j : Int) < (l.length : Int) := by omega
        have hj2 : (j : Int) < 200 := by omega
        have hbel : Below w.heap.size w wr := by obtain ⟨_, _, _, _, _, _, _, h6⟩ := ht; rw [hA]; rw [hA] at h6; exact h6
        obtain ⟨b, off, hao', hbl, c0, c1, c2, c3⟩ := (hv.below hbel).step j hlt
        subst hao'
        generalize l[j] = st at *
        obtain ⟨what, k, vv, near⟩ := st
        simp only at c0 c1 c2 c3
        have hbb : b < A := by
          obtain ⟨b', off', hao', hbl', _⟩ := hv.step j hlt
          cases hao'
          rw [← hA]; exact hbl'
        have hbel : Below A w wr := hA ▸ hbel
        have hbw : A < wr.heap.size := by obtain ⟨Fa, _, h1, _, _, h4, _, _⟩ := ht; have q1 := h4 A h1.fb; have q2 := h1.lt' A h1.fb; exact q2
        have HM : Hid ((k : Int).tmod 20 = ((k % 20 : Nat) : Int)) := tmod_nat k 20
        have t1 : True := trivial
        have d1 : w.cell? ⟨b, off + j * 4 + 1, none⟩ = some (.int .u64 (k : Int)) := (hbel.cell (p := ⟨b, off + j * 4 + 1, none⟩) hbb).symm.trans c1
        have d2 : w.cell? ⟨b, off + j * 4 + 2, none⟩ = some (.int .i64 vv) := (hbel.cell (p := ⟨b, off + j * 4 + 2, none⟩) hbb).symm.trans c2
        have HD : Hid (∀ W, Below A w W → SC W b (off + j * 4) k vv) := fun W h => ⟨(h.cell (p := ⟨b, off + j * 4 + 1, none⟩) hbb).trans d1, (h.cell (p := ⟨b, off + j * 4 + 2, none⟩) hbb).trans d2⟩
        clear d1 d2
        by_cases hp : pickN what 4 = 3
        · go_wp2_with (first
            | (go_at_call 20; refine (pick_any what 4 (by omega) (by omega) _).mono ?_; rintro e _ ⟨rfl, rfl⟩; rw [hp]; clear t1)
            | fail)
          rw [show (k : Int) % 20 = ((k % 20 : Nat) : Int) by omega]
          refine (t2dropa (k % 20) ht).mono ?_
          rintro e w6 ⟨rfl, ht6⟩
          clear ht c0 c1 c2 c3 hbel
          go_wp2
          go_roundw
          case rel => exact ⟨j + 1, _, by omega, by go_num, ht6⟩
          case measure => simp [intOf]; omega
        · have hp0 : ((pickN what 4 : Int) == 3) = false := by rw [beq_eq_false_iff_ne]; omega
          have C1 : ∀ W, SC W b (off + j * 4) k vv → W.cell? ⟨b, off + j * 4 + 1, none⟩ = some (.int .u64 (k : Int)) := fun W h => h.1
          have C2 : ∀ W, SC W b (off + j * 4) k vv → W.cell? ⟨b, off + j * 4 + 2, none⟩ = some (.int .i64 vv) := fun W h => h.2
          have q0 : SC wr.drew b (off + j * 4) k vv := ⟨c1, c2⟩
          have htd := ht.below ((Below.refl wr.heap.size wr).drew)
          go_wp2_with (first
            | (go_at_call 20; refine (pick_any what 4 (by omega) (by omega) _).mono ?_; rintro e _ ⟨rfl, rfl⟩))
          clear c0 c1 c2 c3
          go_region_held (fun W => SC W b (off + j * 4) k vv) (assumption) (first
            | (go_at_call 31; rw [HM.out]; refine (t2puta (k % 20) vv htd).mono ?_; rintro e w6 ⟨rfl, ht6⟩; have hb6 : Below A w w6 := by { obtain ⟨_, _, _, _, _, _, _, h6⟩ := ht6; rw [hA] at h6; exact h6 }; have q6 := HD.out w6 hb6))
          all_goals
            clear ht htd q0 C1 C2
            go_wp2
            go_roundw
            case rel => exact ⟨j + 1, _, by omega, by go_num, ht6⟩
            case measure => simp [intOf]; omega
      · by_cases hj1 : (j : Int) < (l.length : Int)
        · have hj2 : ¬ ((j : Int) < 200) := by omega
          go_wp2
          go_meet
          exact ⟨ea, ht⟩
        · go_wp2
          go_meet
          exact ⟨ea, ht⟩
  case rest =>
    obtain ⟨ea, ht⟩ := hcut
    obtain ⟨wy, hwy⟩ : ∃ x, x = wc := ⟨_, rfl⟩
    subst hwy
    clear ht4
    obtain ⟨Fa, Fb, h1, h2, h3, h4, h5, h6⟩ := ht
    go_wp2_with fail
    refine (getUI_any B 100 [(5, 6)] Fb 5 wy h2).mono ?_
    rintro e w6 ⟨rfl, q, rfl⟩
    rw [show ovVUI (getE ltN [(5, (6 : Int))] 5) = .tuple #[.int .i64 6, .bool true] by rfl]
    have h2' := h2.below (below_drewN wy q)
    have h6' := h6.trans ((below_drewN wy q).mono h6.size)
    clear h1 h2 h3 h4 h5 h6
    generalize wy.drewN q = w6 at *
    go_wp2_with (go_at_call 33; refine (lenUI_any B 100 _ Fb w6 h2').mono ?_; rintro e _ ⟨rfl, rfl⟩)
    go_ret
    exact ⟨rfl, h6'⟩

end Go.Proofs.Ytofpkmionbbmcaa
