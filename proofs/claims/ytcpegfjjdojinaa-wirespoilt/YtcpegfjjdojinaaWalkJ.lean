/- The Reader's Text and End. -/
import Derived.Test.YtcpegfjjdojinaaWalkI
namespace Go.Proofs.Ytcpegfjjdojinaa
open Go.RowKit

/-- New memory that holds l. -/
def NewBs (w w' : World) (v : Value) (l : List UInt8) : Prop :=
  (v = .slice none 0 0 ∧ l = []) ∨ ∃ k, w.heap.size ≤ k ∧ v = .slice (some ⟨k, 0, none⟩) l.length l.length ∧ w'.heap[k]? = some (.cells (l.map bv).toArray 5 (0, 0))
theorem NewBs.bs {w w' : World} {v : Value} {l : List UInt8} (h : NewBs w w' v l) : Bs w' v l := by
  rcases h with ⟨rfl, rfl⟩ | ⟨k, _, rfl, hg⟩
  · exact Bs.nil _
  · exact Bs.ofBlock hg (List.take_of_length_le (by simp)) (Nat.le_refl _)

def rEnd (L : List UInt8) (p e : Nat) : Nat := if e = 0 ∧ p < L.length then 21 else e
/-- A text: its bytes, the place behind it, what is wrong. -/
def rText (L : List UInt8) (p e most : Nat) : List UInt8 × Nat × Nat :=
  if (rNum L p e most).2.2 ≠ 0 then ([], (rNum L p e most).2.1, (rNum L p e most).2.2) else
  if L.length - (rNum L p e most).2.1 < (rNum L p e most).1 then ([], p, 20) else
  ((L.drop (rNum L p e most).2.1).take (rNum L p e most).1, (rNum L p e most).2.1 + (rNum L p e most).1, 0)
theorem rText_bad {L : List UInt8} {p e most : Nat} (h : (rNum L p e most).2.2 ≠ 0) : rText L p e most = ([], (rNum L p e most).2.1, (rNum L p e most).2.2) := by rw [rText, if_pos h]
theorem rText_short {L : List UInt8} {p e most : Nat} (h : (rNum L p e most).2.2 = 0) (h2 : L.length - (rNum L p e most).2.1 < (rNum L p e most).1) : rText L p e most = ([], p, 20) := by
  rw [rText, if_neg (by simp [h]), if_pos h2]
theorem rText_ok {L : List UInt8} {p e most : Nat} (h : (rNum L p e most).2.2 = 0) (h2 : ¬ L.length - (rNum L p e most).2.1 < (rNum L p e most).1) :
    rText L p e most = ((L.drop (rNum L p e most).2.1).take (rNum L p e most).1, (rNum L p e most).2.1 + (rNum L p e most).1, 0) := by
  rw [rText, if_neg (by simp [h]), if_neg h2]

set_option maxRecDepth 20000 in
set_option maxHeartbeats 1000000 in
theorem rend_any (w : World) (rb g : Nat) (L : List UInt8) (p e : Nat) (h : RD w rb g L p e) :
    Calls Try.prog 29 #[.pointer (some ⟨rb, 0, none⟩)] w fun r w' => r = .returned (.int .i64 (rEnd L p e : Int)) ∧ RTo w w' rb g L p e := by
  have h2 := h.c2
  have hlen := h.len
  have hp := h.le
  by_cases he : e = 0
  · subst he
    by_cases hl : p < L.length
    · have E : rEnd L p 0 = 21 := by simp [rEnd, hl]
      have hpos : (0 : Int) < ((L.length - p : Nat) : Int) := by omega
      rw [E]
      clear E
      go_enter Try.func29, Try.ntmps29
      go_wp2_with (go_at_call 57; refine (left_any _ rb g L _ 0 h).mono ?_; rintro e w1 ⟨q, rfl, hq, hb1⟩)
      go_ret
      exact ⟨rfl, RTo.ofBelow h hb1⟩
    · have E : rEnd L p 0 = 0 := by simp [rEnd, hl]
      have hpl : p = L.length := by omega
      subst hpl
      rw [E]
      clear E
      go_enter Try.func29, Try.ntmps29
      go_wp2_with (go_at_call 57; refine (left_any _ rb g L _ 0 h).mono ?_; rintro e w1 ⟨q, rfl, hq, hb1⟩; have h1 := h.below hb1; have c2 := h1.c2)
      go_ret
      exact ⟨rfl, RTo.ofBelow h hb1⟩
  · have E : rEnd L p e = e := by simp [rEnd, he]
    have t : ((e : Int) == 0) = false := by rw [beq_eq_false_iff_ne]; omega
    rw [E]
    clear E he
    go_enter Try.func29, Try.ntmps29
    go_wp2
    go_ret
    exact ⟨rfl, RTo.refl h⟩

theorem rNum_lt (L : List UInt8) (p e most : Nat) : (rNum L p e most).1 < 18446744073709551616 := by
  have h := nm_spec (L.drop p) 0 0 (by omega) (by simp)
  unfold rNum
  split
  · simp
  · split
    · simp
    · split
      · simp
      · exact h.2.1

theorem setCell_size (w : World) (a : Addr) (u : Value) : (w.setCell a u).heap.size = w.heap.size := by simp [World.setCell]
theorem text_bs {w : World} {g q n c N rb : Nat} {l T : List UInt8} (h : Bs w (.slice (some ⟨g, q, none⟩) n c) l) (hT : T = l.take N) (hN : N ≤ n) (hne : g ≠ rb) (j : Nat) (u : Value) : Bs (w.setCell ⟨rb, j, none⟩ u) (.slice (some ⟨g, q, none⟩) N c) T := by
  subst hT
  have hn : n = l.length := by obtain ⟨ao, cap, e, _⟩ := h; simp only [Value.slice.injEq] at e; exact e.2.1
  refine (h.pre N (by omega)).kept (Kept.setCell w _ _) ?_
  intro k _ hk _ e
  simp only [Value.ownBlock, Option.some.injEq] at hk
  simp only at e
  omega

end Go.Proofs.Ytcpegfjjdojinaa
