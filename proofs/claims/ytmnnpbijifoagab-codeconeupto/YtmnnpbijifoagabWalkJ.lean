/- The Reader's Text and End. -/
import Derived.Test.YtmnnpbijifoagabWalkI
namespace Go.Proofs.Ytmnnpbijifoagab
open Go.RowKit

/-- New memory that holds l. -/
def NewBs (w w' : World) (v : Value) (l : List UInt8) : Prop :=
  (v = .slice none 0 0 ∧ l = []) ∨ ∃ k, w.heap.size ≤ k ∧ v = .slice (some ⟨k, 0, none⟩) l.length l.length ∧ w'.heap[k]? = some (.cells (l.map bv).toArray 5 (0, 0))
theorem NewBs.bs {w w' : World} {v : Value} {l : List UInt8} (h : NewBs w w' v l) : Bs w' v l := by
  rcases h with ⟨rfl, rfl⟩ | ⟨k, _, rfl, hg⟩
  · exact Bs.nil _
  · exact Bs.ofBlock hg (List.take_of_length_le (by simp)) (Nat.le_refl _)

def rEnd (L : List UInt8) (p e : Nat) : Nat := if e = 0 ∧ p < L.length then 21 else e
/-- A text: its bytes, the place behind it, what is wrong. -/
def rText (L : List UInt8) (p e most : Nat) : List UInt8 × Nat × Nat :=
  if (rNum L p e most).2.2 ≠ 0 then ([], (rNum L p e most).2.1, (rNum L p e most).2.2) else
  if L.length - (rNum L p e most).2.1 < (rNum L p e most).1 then ([], p, 20) else
  ((L.drop (rNum L p e most).2.1).take (rNum L p e most).1, (rNum L p e most).2.1 + (rNum L p e most).1, 0)
theorem rText_bad {L : List UInt8} {p e most : Nat} (h : (rNum L p e most).2.2 ≠ 0) : rText L p e most = ([], (rNum L p e most).2.1, (rNum L p e most).2.2) := by rw [rText, if_pos h]
theorem rText_short {L : List UInt8} {p e most : Nat} (h : (rNum L p e most).2.2 = 0) (h2 : L.length - (rNum L p e most).2.1 < (rNum L p e most).1) : rText L p e most = ([], p, 20) := by
  rw [rText, if_neg (by simp [h]), if_pos h2]
theorem rText_ok {L : List UInt8} {p e most : Nat} (h : (rNum L p e most).2.2 = 0) (h2 : ¬ L.length - (rNum L p e most).2.1 < (rNum L p e most).1) :
    rText L p e most = ((L.drop (rNum L p e most).2.1).take (rNum L p e most).1, (rNum L p e most).2.1 + (rNum L p e most).1, 0) := by
  rw [rText, if_neg (by simp [h]), if_neg h2]

set_option maxRecDepth 20000 in
set_option maxHeartbeats 1000000 in
theorem rend_any (w : World) (rb g : Nat) (L : List UInt8) (p e : Nat) (h : RD w rb g L p e) :
    Calls Try.prog 30 #[.pointer (some ⟨rb, 0, none⟩)] w fun r w' => r = .returned (.int .i64 (rEnd L p e : Int)) ∧ RTo w w' rb g L p e := by
  have h2 := h.c2
  have hlen := h.len
  have hp := h.le
  by_cases he : e = 0
  · subst he
    by_cases hl : p < L.length
    · have E : rEnd L p 0 = 21 := by simp [rEnd, hl]
      have hpos : (0 : Int) < ((L.length - p : Nat) : Int) := by omega
      rw [E]
      clear E
      go_enter Try.func30, Try.ntmps30
      go_wp2_with (go_at_call 46; refine (left_any _ rb g L _ 0 h).mono ?_; rintro e w1 ⟨q, rfl, hq, hb1⟩)
      go_ret
      exact ⟨rfl, RTo.ofBelow h hb1⟩
    · have E : rEnd L p 0 = 0 := by simp [rEnd, hl]
      have hpl : p = L.length := by omega
      subst hpl
      rw [E]
      clear E
      go_enter Try.func30, Try.ntmps30
      go_wp2_with (go_at_call 46; refine (left_any _ rb g L _ 0 h).mono ?_; rintro e w1 ⟨q, rfl, hq, hb1⟩; have h1 := h.below hb1; have c2 := h1.c2)
      go_ret
      exact ⟨rfl, RTo.ofBelow h hb1⟩
  · have E : rEnd L p e = e := by simp [rEnd, he]
    have t : ((e : Int) == 0) = false := by rw [beq_eq_false_iff_ne]; omega
    rw [E]
    clear E he
    go_enter Try.func30, Try.ntmps30
    go_wp2
    go_ret
    exact ⟨rfl, RTo.refl h⟩

theorem rNum_lt (L : List UInt8) (p e most : Nat) : (rNum L p e most).1 < 18446744073709551616 := by
  have h := nm_spec (L.drop p) 0 0 (by omega) (by simp)
  unfold rNum
  split
  · simp
  · split
    · simp
    · split
      · simp
      · exact h.2.1

theorem setCell_size (w : World) (a : Addr) (u : Value) : (w.setCell a u).heap.size = w.heap.size := by simp [World.setCell]
theorem text_bs {w : World} {g q n c N rb : Nat} {l T : List UInt8} (h : Bs w (.slice (some ⟨g, q, none⟩) n c) l) (hT : T = l.take N) (hN : N ≤ n) (hne : g ≠ rb) (j : Nat) (u : Value) : Bs (w.setCell ⟨rb, j, none⟩ u) (.slice (some ⟨g, q, none⟩) N c) T := by
  subst hT
  have hn : n = l.length := by obtain ⟨ao, cap, e, _⟩ := h; simp only [Value.slice.injEq] at e; exact e.2.1
  refine (h.pre N (by omega)).kept (Kept.setCell w _ _) ?_
  intro k _ hk _ e
  simp only [Value.ownBlock, Option.some.injEq] at hk
  simp only at e
  omega

set_option maxRecDepth 20000 in
set_option maxHeartbeats 1000000 in
theorem rtext_nat (w : World) (rb g : Nat) (L : List UInt8) (p e : Nat) (m : Nat) (hm : m ≤ 9223372036854775807) (h : RD w rb g L p e) :
    Calls Try.prog 29 #[.pointer (some ⟨rb, 0, none⟩), .int .i64 (m : Int)] w fun r w' => ∃ v, r = .returned v ∧ NewBs w w' v (rText L p e m).1 ∧ RTo w w' rb g L (rText L p e m).2.1 (rText L p e m).2.2 := by
  have h1 := h.c1
  have hlen := h.len
  have hn1 := rNum_lt L p e m
  by_cases hb : (rNum L p e m).2.2 = 0
  · have t : (((rNum L p e m).2.2 : Int) != 0) = false := by rw [bne_eq_false_iff_eq]; omega
    have HB : Hid ((rNum L p e m).2.2 = 0) := hb
    by_cases hs : L.length - (rNum L p e m).2.1 < (rNum L p e m).1
    · rw [rText_short hb hs]
      clear hb
      go_enter Try.func29, Try.ntmps29
      go_wp2_with (first
        | (go_at_call 28; refine (rnum_any _ rb g L p e m h).mono ?_; rintro e w1 ⟨rfl, hto1⟩; have c2 := hto1.rd.c2; have hp1 := hto1.rd.le)
        | (go_at_call 46; refine (left_any _ rb g L _ _ hto1.rd).mono ?_; rintro e w2 ⟨q, rfl, hq, hb2⟩; have h2 := hto1.rd.below hb2; have d2 := h2.c2; have f2 := h2.free 2; have d1 := h2.c1; have f1 := h2.free 1))
      go_ret
      have s1 := h2.setWrong 20 20 rfl
      have s2 := s1.1.setPlace p p rfl h.le
      exact ⟨_, rfl, Or.inl ⟨rfl, rfl⟩, hto1.trans ((RTo.ofBelow hto1.rd hb2).trans (RTo.trans ⟨s1.1, s1.2⟩ ⟨s2.1, s2.2⟩))⟩
    · rw [rText_ok hb hs]
      clear hb
      obtain ⟨T, hT⟩ : ∃ T, T = (L.drop (rNum L p e m).2.1).take (rNum L p e m).1 := ⟨_, rfl⟩
      have hTl : T.length ≤ 140737488355328 := by rw [hT]; simp; omega
      rw [← hT]
      have HT : Hid (T = (L.drop (rNum L p e m).2.1).take (rNum L p e m).1) := hT
      clear hT
      have hne : g ≠ rb := by have := h.lt; omega
      go_enter Try.func29, Try.ntmps29
      go_wp2_with (first
        | (go_at_call 28; refine (rnum_any _ rb g L p e m h).mono ?_; rintro e w1 ⟨rfl, hto1⟩; have c2 := hto1.rd.c2; have hp1 := hto1.rd.le)
        | (go_at_call 46; refine (left_any _ rb g L _ _ hto1.rd).mono ?_; rintro e w2 ⟨q, rfl, hq, hb2⟩; have h2 := hto1.rd.below hb2; have d2 := h2.c2; have f2 := h2.free 2; have d1 := h2.c1; have f1 := h2.free 1)
        | (go_at_call 45; refine (fresh_any _ T _ (text_bs hq HT.out (by omega) hne _ _) hTl).mono ?_; rintro e w3 ⟨rfl, hg3, hb3, hlt3⟩))
      go_ret
      have s1 := h2.setPlace ((rNum L p e m).2.1 + (rNum L p e m).1) (((rNum L p e m).2.1 : Int) + ((rNum L p e m).1 : Int)) (by omega) (by omega)
      have z1 := hto1.kept.size
      have z2 := hb2.size
      rw [setCell_size] at hg3
      have e0 := HB.out
      refine ⟨_, rfl, Or.inr ⟨_, ?_, rfl, hg3⟩, hto1.trans ((RTo.ofBelow hto1.rd hb2).trans (RTo.trans ⟨s1.1, s1.2⟩ ?_))⟩
      · exact Nat.le_trans z1 z2
      · have s1' := s1.1
        rw [e0] at s1'
        exact RTo.ofBelow s1' hb3
  · rw [rText_bad hb]
    have t : (((rNum L p e m).2.2 : Int) != 0) = true := by rw [bne_iff_ne]; omega
    clear hb
    go_enter Try.func29, Try.ntmps29
    go_wp2_with (go_at_call 28; refine (rnum_any _ rb g L p e m h).mono ?_; rintro e w1 ⟨rfl, hto1⟩; have c2 := hto1.rd.c2)
    go_ret
    exact ⟨_, rfl, Or.inl ⟨rfl, rfl⟩, hto1⟩

set_option maxRecDepth 20000 in
set_option maxHeartbeats 1000000 in
theorem rtext_neg (w : World) (rb g : Nat) (L : List UInt8) (p e : Nat) (m : Int) (hm : m < 0) (h : RD w rb g L p e) :
    Calls Try.prog 29 #[.pointer (some ⟨rb, 0, none⟩), .int .i64 m] w fun r w' => ∃ v, r = .returned v ∧ NewBs w w' v (rText L p e 0).1 ∧ RTo w w' rb g L (rText L p e 0).2.1 (rText L p e 0).2.2 := by
  have h1 := h.c1
  have hlen := h.len
  have hn1 := rNum_lt L p e 0
  by_cases hb : (rNum L p e 0).2.2 = 0
  · have t : (((rNum L p e 0).2.2 : Int) != 0) = false := by rw [bne_eq_false_iff_eq]; omega
    have HB : Hid ((rNum L p e 0).2.2 = 0) := hb
    by_cases hs : L.length - (rNum L p e 0).2.1 < (rNum L p e 0).1
    · rw [rText_short hb hs]
      clear hb
      go_enter Try.func29, Try.ntmps29
      go_wp2_with (first
        | (go_at_call 28; refine (rnum_any _ rb g L p e 0 h).mono ?_; rintro e w1 ⟨rfl, hto1⟩; have c2 := hto1.rd.c2; have hp1 := hto1.rd.le)
        | (go_at_call 46; refine (left_any _ rb g L _ _ hto1.rd).mono ?_; rintro e w2 ⟨q, rfl, hq, hb2⟩; have h2 := hto1.rd.below hb2; have d2 := h2.c2; have f2 := h2.free 2; have d1 := h2.c1; have f1 := h2.free 1))
      go_ret
      have s1 := h2.setWrong 20 20 rfl
      have s2 := s1.1.setPlace p p rfl h.le
      exact ⟨_, rfl, Or.inl ⟨rfl, rfl⟩, hto1.trans ((RTo.ofBelow hto1.rd hb2).trans (RTo.trans ⟨s1.1, s1.2⟩ ⟨s2.1, s2.2⟩))⟩
    · rw [rText_ok hb hs]
      clear hb
      obtain ⟨T, hT⟩ : ∃ T, T = (L.drop (rNum L p e 0).2.1).take (rNum L p e 0).1 := ⟨_, rfl⟩
      have hTl : T.length ≤ 140737488355328 := by rw [hT]; simp; omega
      rw [← hT]
      have HT : Hid (T = (L.drop (rNum L p e 0).2.1).take (rNum L p e 0).1) := hT
      clear hT
      have hne : g ≠ rb := by have := h.lt; omega
      go_enter Try.func29, Try.ntmps29
      go_wp2_with (first
        | (go_at_call 28; refine (rnum_any _ rb g L p e 0 h).mono ?_; rintro e w1 ⟨rfl, hto1⟩; have c2 := hto1.rd.c2; have hp1 := hto1.rd.le)
        | (go_at_call 46; refine (left_any _ rb g L _ _ hto1.rd).mono ?_; rintro e w2 ⟨q, rfl, hq, hb2⟩; have h2 := hto1.rd.below hb2; have d2 := h2.c2; have f2 := h2.free 2; have d1 := h2.c1; have f1 := h2.free 1)
        | (go_at_call 45; refine (fresh_any _ T _ (text_bs hq HT.out (by omega) hne _ _) hTl).mono ?_; rintro e w3 ⟨rfl, hg3, hb3, hlt3⟩))
      go_ret
      have s1 := h2.setPlace ((rNum L p e 0).2.1 + (rNum L p e 0).1) (((rNum L p e 0).2.1 : Int) + ((rNum L p e 0).1 : Int)) (by omega) (by omega)
      have z1 := hto1.kept.size
      have z2 := hb2.size
      rw [setCell_size] at hg3
      have e0 := HB.out
      refine ⟨_, rfl, Or.inr ⟨_, ?_, rfl, hg3⟩, hto1.trans ((RTo.ofBelow hto1.rd hb2).trans (RTo.trans ⟨s1.1, s1.2⟩ ?_))⟩
      · exact Nat.le_trans z1 z2
      · have s1' := s1.1
        rw [e0] at s1'
        exact RTo.ofBelow s1' hb3
  · rw [rText_bad hb]
    have t : (((rNum L p e 0).2.2 : Int) != 0) = true := by rw [bne_iff_ne]; omega
    clear hb
    go_enter Try.func29, Try.ntmps29
    go_wp2_with (go_at_call 28; refine (rnum_any _ rb g L p e 0 h).mono ?_; rintro e w1 ⟨rfl, hto1⟩; have c2 := hto1.rd.c2)
    go_ret
    exact ⟨_, rfl, Or.inl ⟨rfl, rfl⟩, hto1⟩

/-- A text of at most 'most' bytes. -/
theorem rtext_any (w : World) (rb g : Nat) (L : List UInt8) (p e : Nat) (most : Int) (h : RD w rb g L p e) (hm : most ≤ 9223372036854775807) :
    Calls Try.prog 29 #[.pointer (some ⟨rb, 0, none⟩), .int .i64 most] w fun r w' => ∃ v, r = .returned v ∧ NewBs w w' v (rText L p e most.toNat).1 ∧ RTo w w' rb g L (rText L p e most.toNat).2.1 (rText L p e most.toNat).2.2 := by
  by_cases h0 : most < 0
  · rw [show most.toNat = 0 by omega]
    exact rtext_neg w rb g L p e most h0 h
  · obtain ⟨m, rfl⟩ := Int.eq_ofNat_of_zero_le (show 0 ≤ most by omega)
    rw [show ((m : Int)).toNat = m by omega]
    exact rtext_nat w rb g L p e m (by omega) h

end Go.Proofs.Ytmnnpbijifoagab
