/- The plain arena's Used and Room. -/
import Derived.Test.YtbgaejjoomnklaaDoorArT
namespace Go.Proofs.YtbgaejjoomnklaaDoor
open Go.RowKit

/-- How many of the first n bits are set. -/
def cnt (t n : Nat) : Nat := (List.range n).countP (fun i => t.testBit i)
theorem cnt_le (t n : Nat) : cnt t n ≤ n := Nat.le_trans List.countP_le_length (by simp)
theorem cnt_yes {t n : Nat} (h : t.testBit n = true) : cnt t (n + 1) = cnt t n + 1 := by
  unfold cnt
  rw [List.range_succ, List.countP_append]
  simp [h]
theorem cnt_no {t n : Nat} (h : t.testBit n = false) : cnt t (n + 1) = cnt t n := by
  unfold cnt
  rw [List.range_succ, List.countP_append]
  simp [h]
theorem cnt_pc {t n : Nat} (hn : n ≤ 16) (h : t < 2 ^ n) : cnt t n = pc t := by
  have e : pc t = Lib.popAux 16 t := (popAux_eq 16 t).symm
  rw [e, popAux_small n 16 t h hn, popAux_eq]
  rfl

/-- How many of the first j places of class k can be taken. -/
def rcnt (x : Bk) (k j : Nat) : Nat := if x.c = 0 then j else if x.c = k then j - cnt x.t j else 0
theorem rcnt_le (x : Bk) (k j : Nat) : rcnt x k j ≤ j := by
  unfold rcnt
  split
  · omega
  · split <;> omega
theorem rcnt_room {x : Bk} {k : Nat} (hO : x.Ok) : rcnt x k (16 / k) = roomN x k := by
  unfold rcnt roomN
  by_cases h0 : x.c = 0
  · rw [if_pos h0, if_pos (Or.inl h0)]
    have ht : x.t = 0 := by
      rcases hO with ⟨_, h⟩ | ⟨h, _⟩
      · exact h
      · have := h.pos; omega
    rw [ht, pc_zero, Nat.sub_zero]
  · rw [if_neg h0]
    by_cases h1 : x.c = k
    · rw [if_pos h1, if_pos (Or.inr h1)]
      rcases hO with ⟨h, _⟩ | ⟨_, _, h⟩
      · exact absurd h h0
      · rw [h1] at h
        rw [cnt_pc (Nat.div_le_self _ _) h]
    · rw [if_neg h1, if_neg (fun e => e.elim h0 h1)]


end Go.Proofs.YtbgaejjoomnklaaDoor
