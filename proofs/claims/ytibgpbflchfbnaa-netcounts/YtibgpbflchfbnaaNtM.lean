/- NetCounts: the walk. -/
import Derived.Test.YtibgpbflchfbnaaNtAp
import Derived.Test.YtibgpbflchfbnaaNtOpen
import Derived.Deep.CutRange
import Derived.Deep.CutBlock
namespace Go.Proofs.Ytibgpbflchfbnaa
open Go.RowKit

theorem pick5 (n : Int) : pickN n 5 = 0 ∨ pickN n 5 = 1 ∨ pickN n 5 = 2 ∨ pickN n 5 = 3 ∨ pickN n 5 = 4 := by
  have := pickN_lt n 5 (by omega)
  omega
theorem len_send (most : Nat) (es : List Dg) (d : Dg) : (sendL most es d).length = es.length + (if sendB most es d = true then 1 else 0) := by
  unfold sendL; split <;> simp_all
theorem len_doub (most : Nat) (es : List Dg) (k : Int) : (doubL most es k).length = es.length + (if doubB most es k = true then 1 else 0) := by
  unfold doubL; split <;> simp_all
theorem len_take (es : List Dg) (k : Int) : (takeL es k).length + (if hasB es.length k = true then 1 else 0) = es.length := by
  unfold takeL
  split
  · next h =>
    obtain ⟨j, rfl, hj⟩ := hasB_at h
    rw [List.length_eraseIdx]
    simp only [Int.toNat_natCast, hj, if_true]
    omega
  · simp

/-- What the counts are behind each step. -/
structure Cnt (w wr : World) (b M j lost sent taken copies : Nat) (es : List Dg) (F : Nat → Prop) : Prop where
  ns : NS wr b M lost es F
  eq : es.length + taken = sent + copies
  s1 : sent ≤ j
  s2 : taken ≤ j
  s3 : copies ≤ j
  s4 : lost ≤ j
  hF : ∀ k, F k → w.heap.size ≤ k
  bel : Below w.heap.size w wr

set_option maxRecDepth 20000 in
set_option maxHeartbeats 8000000 in
theorem netCounts_any (most : Int) (v : Value) (ss : List StepD) (w : World) (hv : Steps w v ss) (hn : ss.length ≤ 140737488355328) :
    Calls Try.prog 6 #[.int .i64 most, v] w fun e w' => e = .returned (.bool true) ∧ Below w.heap.size w w' := by
  obtain ⟨ao, ac, rfl, ha⟩ := id hv
  clear hv
  have hp := pickN_lt most 256 (by omega)
  obtain ⟨M, hM⟩ : ∃ M, M = 1 + pickN most 256 := ⟨_, rfl⟩
  have hM2 : ((1 : Int) + (pickN most 256 : Int)) = (M : Int) := by omega
  have hM1 : 1 ≤ M := by omega
  have hM3 : M ≤ 256 := by omega
  have HM : Hid (M = 1 + pickN most 256) := hM
  clear hM
  go_enter Try.func6, Try.ntmps6
  go_wp2_with fail
  refine (pick_any most 256 (by omega) (by omega) _).mono ?_
  rintro e w0 ⟨rfl, rfl⟩
  go_wp2_with fail
  (first | rw [hM2] | skip)
  refine (nsnew M hM1 hM3 w).mono ?_
  rintro e w1 ⟨rfl, hn1, hb1⟩
  have hF1 : ∀ k, (fun k => k = w.heap.size) k → w.heap.size ≤ k := fun k hk => by have e : k = w.heap.size := hk; omega
  go_wp2_with fail
  refine (nknown_any w1).mono ?_
  rintro e w2 ⟨rfl, hb2⟩
  have hC0 : Cnt w w2 w.heap.size M 0 0 0 0 0 [] (fun k => k = w.heap.size) := ⟨hn1.below hb2, rfl, Nat.le_refl _, Nat.le_refl _, Nat.le_refl _, Nat.le_refl _, hF1, hb1.trans (hb2.mono hb1.size)⟩
  clear hn1 hb1 hb2 hF1
  go_wp2
  go_loopw [7, 8, 9, 10] (fun a b c i wr => ∃ (j lost sent taken copies : Nat) (es : List Dg) (F : Nat → Prop), j ≤ ss.length ∧ j ≤ 2000 ∧ i = .int .i64 (j : Int) ∧ a = .int .i64 (sent : Int) ∧ b = .int .i64 (taken : Int) ∧ c = .int .i64 (copies : Int) ∧ Cnt w wr w.heap.size M j lost sent taken copies es F) (fun _ _ _ i _ => ss.length - (intOf i).toNat)
  case atStart => exact ⟨0, 0, 0, 0, 0, [], _, Nat.zero_le _, Nat.zero_le _, rfl, rfl, rfl, rfl, hC0⟩
  case round =>
    obtain ⟨j, lost, sent, taken, copies, es, F, hj, hj2, rfl, rfl, rfl, rfl, hC⟩ := hrel
    clear hC0
    have hbr := hC.bel
    have hs1 := hC.s1
    have hs2 := hC.s2
    have hs3 := hC.s3
    have hs4 := hC.s4
    have heq := hC.eq
    have hle := hC.ns.le
    by_cases hlt : j < ss.length ∧ j < 2000
    · obtain ⟨hlt1, hlt2⟩ := hlt
      obtain ⟨blk, off, rfl, hblk, hat⟩ := ha (by intro e; subst e; simp at hlt1)
      obtain ⟨a0, a1, a2, a3, x, a4, hx⟩ := (hat j hlt1).below hbr hblk (Nat.le_refl _)
      have hj0 : (j : Int) < (ss.length : Int) := by omega
      clear hat ha
      generalize ss[j] = s at *
      obtain ⟨what, k, ⟨frm, tt, l⟩⟩ := s
      simp only at *
      obtain ⟨xo, xc, rfl⟩ := hx.slice
      have hbs := hbr.size
      have HP := pick5 what
      go_upto_block 2 with (go_at_call 14; refine (pick_any what 5 (by omega) (by omega) _).mono ?_; rintro e w0 ⟨rfl, rfl⟩)
      generalize pickN what 5 = pk at *
      go_cut [7, 8, 9, 11, 12] from 46 to 89 (fun a b c _ _ wc => ∃ (lost' sent' taken' copies' : Nat) (es' : List Dg) (F' : Nat → Prop), a = .int .i64 (sent' : Int) ∧ b = .int .i64 (taken' : Int) ∧ c = .int .i64 (copies' : Int) ∧ Cnt w wc w.heap.size M (j + 1) lost' sent' taken' copies' es' F')
      case first =>
        rcases HP with hp5 | hp5 | hp5 | hp5 | hp5
        case' inl => skip
        case' inr.inl => skip
        case' inr.inr.inl =>
          subst hp5
          have hll := len_take es k
          cases hd : hasB es.length k with
          | true =>
            rw [hd] at hll
            simp at hll
            have HL : Hid ((takeL es k).length + 1 = es.length) := hll
            clear hll
            go_wp2_with (go_at_call 11; refine (nstake w.heap.size M lost es F k _ hC.ns (by omega)).mono ?_; rintro e w3 ⟨v3, rfl, ho3, hn3, hk3⟩; rw [hd]; obtain ⟨yo, yc, hye⟩ := ho3.bs.slice; subst hye)
            go_meet
            have hb3 := kept_new hbr hC.hF hk3
            have hA : ∀ o, Below w3.heap.size w3 (w3.alloc o) := fun o => (Below.refl _ _).alloc (Nat.le_refl _) o
            have := HL.out
            exact ⟨lost, sent, taken + 1, copies, _, F, rfl, by go_num, rfl, ⟨hn3.below (hA _), by omega, by omega, by omega, by omega, by omega, hC.hF, hb3.trans ((hA _).mono hb3.size)⟩⟩
          | false =>
            rw [hd] at hll
            simp at hll
            have HL : Hid ((takeL es k).length = es.length) := hll
            clear hll
            go_wp2_with (go_at_call 11; refine (nstake w.heap.size M lost es F k _ hC.ns (by omega)).mono ?_; rintro e w3 ⟨v3, rfl, ho3, hn3, hk3⟩; rw [hd]; obtain ⟨yo, yc, hye⟩ := ho3.bs.slice; subst hye)
            go_meet
            have hb3 := kept_new hbr hC.hF hk3
            have hA : ∀ o, Below w3.heap.size w3 (w3.alloc o) := fun o => (Below.refl _ _).alloc (Nat.le_refl _) o
            have := HL.out
            exact ⟨lost, sent, taken, copies, _, F, rfl, by go_num, rfl, ⟨hn3.below (hA _), by omega, by omega, by omega, by omega, by omega, hC.hF, hb3.trans ((hA _).mono hb3.size)⟩⟩
        case' inr.inr.inr.inl =>
          subst hp5
          have hll := len_doub M es k
          cases hd : doubB M es k with
          | true =>
            rw [hd] at hll
            simp at hll
            have HL : Hid ((doubL M es k).length = es.length + 1) := hll
            clear hll
            go_wp2_with (go_at_call 12; refine (nsdouble w.heap.size M lost es F k _ hC.ns (by omega)).mono ?_; rintro e w3 ⟨F3, rfl, hn3, hk3, hg3⟩; rw [hd])
            go_meet
            have := HL.out
            exact ⟨lost, sent, taken, copies + 1, _, F3, rfl, rfl, by go_num, ⟨hn3, by omega, by omega, by omega, by omega, by omega, grown_new hbr.size hC.hF hg3, kept_new hbr hC.hF hk3⟩⟩
          | false =>
            rw [hd] at hll
            simp at hll
            have HL : Hid ((doubL M es k).length = es.length) := hll
            clear hll
            go_wp2_with (go_at_call 12; refine (nsdouble w.heap.size M lost es F k _ hC.ns (by omega)).mono ?_; rintro e w3 ⟨F3, rfl, hn3, hk3, hg3⟩; rw [hd])
            go_meet
            have := HL.out
            exact ⟨lost, sent, taken, copies, _, F3, rfl, rfl, by go_num, ⟨hn3, by omega, by omega, by omega, by omega, by omega, grown_new hbr.size hC.hF hg3, kept_new hbr hC.hF hk3⟩⟩
        case' inr.inr.inr.inr =>
          subst hp5
          go_wp2_with (go_at_call 18; refine (nspeek w.heap.size M lost es F k _ hC.ns).mono ?_; rintro e w3 ⟨v3, rfl, ho3, hb3⟩)
          go_meet
          exact ⟨lost, sent, taken, copies, es, F, rfl, rfl, rfl, ⟨hC.ns.below hb3, heq, by omega, by omega, by omega, by omega, hC.hF, hbr.trans (hb3.mono hbr.size)⟩⟩
        all_goals
          subst hp5
          have hll := len_send M es ⟨frm, tt, l⟩
          cases hd : sendB M es ⟨frm, tt, l⟩ with
          | true =>
              rw [hd] at hll
              simp at hll
              have HL : Hid ((sendL M es ⟨frm, tt, l⟩).length = es.length + 1) := hll
              clear hll
              go_wp2_with (go_at_call 10; refine (nssend w.heap.size M lost es F ⟨frm, tt, l⟩ _ _ hC.ns hx (by omega) (by omega)).mono ?_; rintro e w3 ⟨F3, rfl, hn3, hk3, hg3⟩; rw [hd])
              go_meet
              have := HL.out
              exact ⟨_, sent + 1, taken, copies, _, F3, by go_num, rfl, rfl, ⟨hn3, by omega, by omega, by omega, by omega, by unfold sendN; split <;> omega, grown_new hbr.size hC.hF hg3, kept_new hbr hC.hF hk3⟩⟩
          | false =>
              rw [hd] at hll
              simp at hll
              have HL : Hid ((sendL M es ⟨frm, tt, l⟩).length = es.length) := hll
              clear hll
              go_wp2_with (go_at_call 10; refine (nssend w.heap.size M lost es F ⟨frm, tt, l⟩ _ _ hC.ns hx (by omega) (by omega)).mono ?_; rintro e w3 ⟨F3, rfl, hn3, hk3, hg3⟩; rw [hd])
              go_meet
              have := HL.out
              exact ⟨_, sent, taken, copies, _, F3, by go_num, rfl, rfl, ⟨hn3, by omega, by omega, by omega, by omega, by unfold sendN; split <;> omega, grown_new hbr.size hC.hF hg3, kept_new hbr hC.hF hk3⟩⟩
      case rest =>
        obtain ⟨lost', sent', taken', copies', es', F', rfl, rfl, rfl, hC'⟩ := hcut
        have t1 := hC'.s1
        have t2 := hC'.s2
        have t3 := hC'.s3
        have te := hC'.eq
        have tl := hC'.ns.le
        have tb := hC'.bel
        clear hC hs1 hs2 hs3 hs4 heq hle hbr a0 a1 a2 a3 a4 hx HP hbs
        have E1 : ((sent' : Int) + (copies' : Int)) - (taken' : Int) = (es'.length : Int) := by omega
        have E3 : ¬ (M : Int) < (es'.length : Int) := by omega
        go_wp2_with (first
          | (go_at_call 14; refine (pick_any most 256 (by omega) (by omega) _).mono ?_; rintro e w0 ⟨rfl, rfl⟩)
          | (go_at_call 13; refine (nsall w.heap.size M lost' es' F' _ hC'.ns (by omega)).mono ?_; rintro e w4 ⟨v4, g4, rs4, rfl, hm4, hd4, hb4⟩; have hl4 := fst_len hm4; have hv4 := hd4.val; rw [hl4] at hv4; subst hv4; have hC4 := hC'.ns.below hb4)
          | (go_at_call 22; refine (nslen w.heap.size M lost' es' F' _ hC4).mono ?_; rintro e w0 ⟨rfl, rfl⟩)
          | (go_at_call 22; refine (nslen w.heap.size M lost' es' F' _ hC'.ns).mono ?_; rintro e w0 ⟨rfl, rfl⟩))
        refine ⟨⟨j + 1, lost', sent', taken', copies', es', F', by omega, by omega, by go_num, rfl, rfl, rfl, ⟨hC4, te, t1, t2, t3, hC'.s4, hC'.hF, tb.trans (hb4.mono tb.size)⟩⟩, ?_⟩
        simp [intOf]; omega
    · clear ha
      by_cases hlt1 : j < ss.length
      · have hlt2 : ¬ (j : Int) < 2000 := by omega
        have hlt3 : (j : Int) < (ss.length : Int) := by omega
        go_wp2
        go_ret
        exact ⟨rfl, hbr⟩
      · have hlt3 : ¬ (j : Int) < (ss.length : Int) := by omega
        go_wp2
        go_ret
        exact ⟨rfl, hbr⟩

end Go.Proofs.Ytibgpbflchfbnaa
