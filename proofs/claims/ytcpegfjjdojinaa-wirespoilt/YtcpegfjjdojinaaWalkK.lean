/- The plain saying of the Reader: call by call. -/
import Derived.Test.YtcpegfjjdojinaaWalkJ
namespace Go.Proofs.Ytcpegfjjdojinaa
open Go.RowKit

/-- A plain Reader lies at the head of block fb; its bytes L lie where the slice says; its place is p; e is what was wrong first. -/
structure RF (w : World) (fb : Nat) (ao : Option Addr) (cap : Nat) (L : List UInt8) (p e : Nat) : Prop where
  box : w.heap[fb]? = some (.cells #[.slice ao L.length cap, .int .i64 (p : Int), .int .i64 (e : Int)] 66 (0, 0))
  bs : Bs w (.slice ao L.length cap) L
  ap : ∀ k, L ≠ [] → (Value.slice ao L.length cap).ownBlock = some k → k ≠ fb
  le : p ≤ L.length
  len : L.length ≤ 140737488355328

section
variable {w w' : World} {fb cap : Nat} {ao : Option Addr} {L : List UInt8} {p e : Nat}
theorem RF.size (h : RF w fb ao cap L p e) : fb < w.heap.size := (Array.getElem?_eq_some_iff.1 h.box).1
theorem RF.c0 (h : RF w fb ao cap L p e) : w.cell? ⟨fb, 0, none⟩ = some (.slice ao L.length cap) := by rw [cell_of_row w fb 0 _ _ _ h.box]; rfl
theorem RF.c1 (h : RF w fb ao cap L p e) : w.cell? ⟨fb, 1, none⟩ = some (.int .i64 (p : Int)) := by rw [cell_of_row w fb 1 _ _ _ h.box]; rfl
theorem RF.c2 (h : RF w fb ao cap L p e) : w.cell? ⟨fb, 2, none⟩ = some (.int .i64 (e : Int)) := by rw [cell_of_row w fb 2 _ _ _ h.box]; rfl
theorem RF.free (h : RF w fb ao cap L p e) (j : Nat) : w.frozen? ⟨fb, j, none⟩ = false := frozen_of_row w fb j _ _ h.box
theorem RF.keep {S : Nat → Prop} (h : RF w fb ao cap L p e) (hk : Kept w w' S) (h1 : ¬ S fb) (h2 : ∀ k, L ≠ [] → (Value.slice ao L.length cap).ownBlock = some k → k < w.heap.size → ¬ S k) : RF w' fb ao cap L p e :=
  ⟨(hk.block fb h.size h1).trans h.box, h.bs.kept hk h2, h.ap, h.le, h.len⟩
theorem RF.below (h : RF w fb ao cap L p e) (hb : Below w.heap.size w w') : RF w' fb ao cap L p e := h.keep (kept_of_below hb (fun _ => False)) (fun x => x) (fun _ _ _ _ x => x)
/-- Its own cells are written. -/
theorem RF.set (h : RF w fb ao cap L p e) (j : Nat) (u : Value) : Bs (w.setCell ⟨fb, j, none⟩ u) (.slice ao L.length cap) L :=
  h.bs.kept (Kept.setCell w _ _) (fun k hne hk _ e => h.ap k hne hk e)
theorem RF.setWrong (h : RF w fb ao cap L p e) (n : Nat) (x : Int) (hx : x = (n : Int)) : RF (w.setCell ⟨fb, 2, none⟩ (.int .i64 x)) fb ao cap L p n ∧ Kept w (w.setCell ⟨fb, 2, none⟩ (.int .i64 x)) (fun k => k = fb) := by
  subst hx
  refine ⟨⟨?_, h.set _ _, h.ap, h.le, h.len⟩, Kept.setCell w _ _⟩
  rw [heap_setCell_same w fb 2 _ _ _ h.box]; rfl
theorem RF.setPlace (h : RF w fb ao cap L p e) (n : Nat) (x : Int) (hx : x = (n : Int)) (hn : n ≤ L.length) : RF (w.setCell ⟨fb, 1, none⟩ (.int .i64 x)) fb ao cap L n e ∧ Kept w (w.setCell ⟨fb, 1, none⟩ (.int .i64 x)) (fun k => k = fb) := by
  subst hx
  refine ⟨⟨?_, h.set _ _, h.ap, hn, h.len⟩, Kept.setCell w _ _⟩
  rw [heap_setCell_same w fb 1 _ _ _ h.box]; rfl
end

/-- How far a plain Reader has come since w. -/
structure FTo (w w' : World) (fb : Nat) (ao : Option Addr) (cap : Nat) (L : List UInt8) (p e : Nat) : Prop where
  rd : RF w' fb ao cap L p e
  kept : Kept w w' (fun k => k = fb)
theorem FTo.refl {w : World} {fb cap : Nat} {ao : Option Addr} {L : List UInt8} {p e : Nat} (h : RF w fb ao cap L p e) : FTo w w fb ao cap L p e := ⟨h, Kept.refl _ _⟩
theorem FTo.trans {w w1 w2 : World} {fb cap : Nat} {ao : Option Addr} {L : List UInt8} {p e p' e' : Nat} (h : FTo w w1 fb ao cap L p e) (k : FTo w1 w2 fb ao cap L p' e') : FTo w w2 fb ao cap L p' e' :=
  ⟨k.rd, h.kept.trans k.kept (fun _ _ x => x)⟩
theorem FTo.ofBelow {w w' : World} {fb cap : Nat} {ao : Option Addr} {L : List UInt8} {p e : Nat} (h : RF w fb ao cap L p e) (hb : Below w.heap.size w w') : FTo w w' fb ao cap L p e := ⟨h.below hb, kept_of_below hb _⟩
theorem FTo.bel {w w' : World} {fb cap : Nat} {ao : Option Addr} {L : List UInt8} {p e B : Nat} (h : FTo w w' fb ao cap L p e) (hB : B ≤ fb) (hs : B ≤ w.heap.size) : Below B w w' := h.kept.below hs (fun i hi e => by omega)

set_option maxRecDepth 20000 in
set_option maxHeartbeats 400000 in
theorem fwrong_any (w : World) (fb cap : Nat) (ao : Option Addr) (L : List UInt8) (p e : Nat) (h : RF w fb ao cap L p e) (q n : Nat) (x : Int) (hx : x = (n : Int)) (hq : q ≤ L.length) :
    Calls Try.prog 71 #[.pointer (some ⟨fb, 0, none⟩), .int .i64 (q : Int), .int .i64 x] w fun r w' => r = .returned (.int .u64 0) ∧ FTo w w' fb ao cap L q n := by
  subst hx
  have h2 := h.c2
  have f2 := h.free 2
  have h1 := h.c1
  have f1 := h.free 1
  go_enter Try.func71, Try.ntmps71
  go_wp2
  go_ret
  have s1 := h.setWrong n n rfl
  have s2 := s1.1.setPlace q q rfl hq
  exact ⟨rfl, FTo.trans ⟨s1.1, s1.2⟩ ⟨s2.1, s2.2⟩⟩

set_option maxRecDepth 20000 in
set_option maxHeartbeats 400000 in
theorem fend_any (w : World) (fb cap : Nat) (ao : Option Addr) (L : List UInt8) (p e : Nat) (h : RF w fb ao cap L p e) :
    Calls Try.prog 44 #[.pointer (some ⟨fb, 0, none⟩)] w fun r w' => r = .returned (.int .i64 (rEnd L p e : Int)) ∧ FTo w w' fb ao cap L p e := by
  have h0 := h.c0
  have h1 := h.c1
  have h2 := h.c2
  have hlen := h.len
  have hp := h.le
  by_cases he : e = 0
  · subst he
    by_cases hl : p < L.length
    · have E : rEnd L p 0 = 21 := by simp [rEnd, hl]
      have hl2 : (p : Int) < (L.length : Int) := by omega
      rw [E]
      clear E
      go_enter Try.func44, Try.ntmps44
      go_wp2
      go_quiet (fail)
      go_wp2
      go_ret
      exact ⟨rfl, FTo.ofBelow h (below_drewN _ _)⟩
    · have E : rEnd L p 0 = 0 := by simp [rEnd, hl]
      have hl2 : ¬ (p : Int) < (L.length : Int) := by omega
      have hd : decide ((p : Int) < (L.length : Int)) = false := by simpa using hl2
      rw [E]
      clear E
      go_enter Try.func44, Try.ntmps44
      go_wp2
      go_quiet (fail)
      go_wp2
      go_ret
      exact ⟨rfl, FTo.ofBelow h (below_drewN _ _)⟩
  · have E : rEnd L p e = e := by simp [rEnd, he]
    have t : ((e : Int) == 0) = false := by rw [beq_eq_false_iff_ne]; omega
    rw [E]
    clear E he
    go_enter Try.func44, Try.ntmps44
    go_wp2
    go_quiet (fail)
    go_wp2
    go_ret
    exact ⟨rfl, FTo.ofBelow h (below_drewN _ _)⟩

theorem RF.at {w : World} {fb cap : Nat} {ao : Option Addr} {L : List UInt8} {p e : Nat} (h : RF w fb ao cap L p e) {i : Nat} (hi : i < L.length) : ∃ b off, ao = some ⟨b, off, none⟩ ∧ b ≠ fb ∧ w.cell? ⟨b, off + i, none⟩ = some (.int .u8 (L[i].toNat : Int)) := by
  have hne : L ≠ [] := by intro e; subst e; simp at hi
  obtain ⟨ao', cap', e, _, hx⟩ := h.bs
  simp only [Value.slice.injEq] at e
  obtain ⟨rfl, _, rfl⟩ := e
  obtain ⟨b, off, rfl, _, hs⟩ := hx hne
  exact ⟨b, off, rfl, h.ap b hne rfl, hs.at i hi⟩

set_option maxRecDepth 20000 in
set_option maxHeartbeats 1000000 in
theorem fbyte_any (w : World) (fb cap : Nat) (ao : Option Addr) (L : List UInt8) (p e : Nat) (most : Nat) (h : RF w fb ao cap L p e) :
    Calls Try.prog 42 #[.pointer (some ⟨fb, 0, none⟩), .int .u8 (most : Int)] w fun r w' => r = .returned (.int .u8 ((rByte L p e most).1 : Int)) ∧ FTo w w' fb ao cap L (rByte L p e most).2.1 (rByte L p e most).2.2 := by
  have h0 := h.c0
  have h1 := h.c1
  have h2 := h.c2
  have hlen := h.len
  have hp := h.le
  by_cases he : e = 0
  · subst he
    by_cases hl : p < L.length
    · have hd := List.drop_eq_getElem_cons hl
      obtain ⟨b, off, rfl, hne, hc⟩ := h.at hl
      have hl2 : (p : Int) < (L.length : Int) := by omega
      have hx := L[p].toNat_lt
      by_cases hm : most < L[p].toNat
      · rw [rByte_long hd hm]
        clear hd
        have hm2 : (most : Int) < (L[p].toNat : Int) := by omega
        have td : decide (L.length ≤ p) = false := by simpa using hl
        go_enter Try.func42, Try.ntmps42
        go_wp2
        go_quiet (fail)
        go_wp2
        go_quiet (fail)
        go_wp2_with (go_at_call 71; refine (fwrong_any _ fb cap _ L p 0 (h.below (below_drewN _ _)) p 22 22 rfl hp).mono ?_; rintro r w4 ⟨rfl, hto⟩)
        go_ret
        exact ⟨rfl, (FTo.ofBelow h (below_drewN _ _)).trans hto⟩
      · rw [rByte_ok hd hm]
        clear hd
        have hm2 : ¬ (most : Int) < (L[p].toNat : Int) := by omega
        have td2 : decide ((most : Int) < (L[p].toNat : Int)) = false := by simpa using hm2
        have td : decide (L.length ≤ p) = false := by simpa using hl
        have f1 := h.free 1
        go_enter Try.func42, Try.ntmps42
        go_wp2
        go_quiet (fail)
        revert nq; intro n1
        go_wp2
        go_quiet (fail)
        revert nq; intro n2
        go_wp2
        have hs := (h.below (below_drewN w (n1 + n2))).setPlace (p + 1) ((p : Int) + 1) (by omega) (by omega)
        have hB := FTo.ofBelow h (below_drewN w (n1 + n2))
        generalize hW : (w.drewN (n1 + n2)).setCell ⟨fb, 1, none⟩ (.int .i64 ((p : Int) + 1)) = W at *
        clear hW
        have k0 := hs.1.c0
        have k1 := hs.1.c1
        have k2 : W.cell? ⟨b, off + p, none⟩ = some (.int .u8 (L[p].toNat : Int)) := by
          obtain ⟨b', off', e, _, hc'⟩ := hs.1.at hl
          simp only [Option.some.injEq, Addr.mk.injEq, and_true] at e
          obtain ⟨rfl, rfl⟩ := e
          exact hc'
        clear h0 h1 h2 hc f1
        go_quiet (fail)
        go_wp2
        go_ret
        exact ⟨rfl, (hB.trans ⟨hs.1, hs.2⟩).trans (FTo.ofBelow hs.1 (below_drewN _ _))⟩
    · have hpl : p = L.length := by omega
      subst hpl
      rw [rByte_short (List.drop_length)]
      go_enter Try.func42, Try.ntmps42
      go_wp2
      go_quiet (fail)
      go_wp2_with (go_at_call 71; refine (fwrong_any _ fb cap _ L _ 0 (h.below (below_drewN _ _)) L.length 20 20 rfl hp).mono ?_; rintro r w4 ⟨rfl, hto⟩)
      go_ret
      exact ⟨rfl, (FTo.ofBelow h (below_drewN _ _)).trans hto⟩
  · have t : ((e : Int) != 0) = true := by rw [bne_iff_ne]; omega
    rw [rByte_wrong he]
    clear he
    go_enter Try.func42, Try.ntmps42
    go_wp2
    go_ret
    exact ⟨rfl, FTo.refl h⟩

end Go.Proofs.Ytcpegfjjdojinaa
