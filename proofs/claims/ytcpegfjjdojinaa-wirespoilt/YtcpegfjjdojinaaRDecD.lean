/- The plain Decode: a loop that stops at an error ends where the whole loop ends. -/
import Derived.Test.YtcpegfjjdojinaaRDecB
namespace Go.Proofs.Ytcpegfjjdojinaa
open Go.RowKit

theorem rID_wrong {L : List UInt8} {p e : Nat} (h : e ≠ 0) : (rID L p e).2 = (p, e) := by
  unfold rID
  rw [rByte_wrong h]
  simp only
  rw [rNum_wrong h]
theorem rIn_stop (L : List UInt8) (j p e : Nat) (h : (rIn L j p e).2.2 ≠ 0) : ∀ d, (rIn L (j + d) p e).2 = (rIn L j p e).2
  | 0 => rfl
  | d + 1 => by
    have ih := rIn_stop L j p e h d
    show (rID L (rIn L (j + d) p e).2.1 (rIn L (j + d) p e).2.2).2 = _
    rw [ih]
    exact rID_wrong h
theorem rLs_stop (L : List UInt8) (j p e : Nat) (h : (rLs L j p e).2.2 ≠ 0) : ∀ d, (rLs L (j + d) p e).2 = (rLs L j p e).2
  | 0 => rfl
  | d + 1 => by
    have ih := rLs_stop L j p e h d
    show (rNum L (rLs L (j + d) p e).2.1 (rLs L (j + d) p e).2.2 72057594037927935).2 = _
    rw [ih, rNum_wrong h]
/-- Where the loop ended, the whole one ends; without an error it was the whole one. -/
theorem rIn_end {L : List UInt8} {n j p e : Nat} (hj : j ≤ n ∧ (j = n ∨ (rIn L j p e).2.2 ≠ 0)) : (rIn L j p e).2 = (rIn L n p e).2 ∧ ((rIn L j p e).2.2 = 0 → rIn L j p e = rIn L n p e) := by
  obtain ⟨h1, rfl | h2⟩ := hj
  · exact ⟨rfl, fun _ => rfl⟩
  · obtain ⟨d, rfl⟩ := Nat.exists_eq_add_of_le h1
    exact ⟨(rIn_stop L j p e h2 d).symm, fun h => absurd h h2⟩
theorem rLs_end {L : List UInt8} {n j p e : Nat} (hj : j ≤ n ∧ (j = n ∨ (rLs L j p e).2.2 ≠ 0)) : (rLs L j p e).2 = (rLs L n p e).2 ∧ ((rLs L j p e).2.2 = 0 → rLs L j p e = rLs L n p e) := by
  obtain ⟨h1, rfl | h2⟩ := hj
  · exact ⟨rfl, fun _ => rfl⟩
  · obtain ⟨d, rfl⟩ := Nat.exists_eq_add_of_le h1
    exact ⟨(rLs_stop L j p e h2 d).symm, fun h => absurd h h2⟩
/-- No error behind: none ahead. -/
theorem optN_ok {b : Bool} {L : List UInt8} {p e most : Nat} (h : (optN b L p e most).2.2 = 0) : e = 0 := by
  unfold optN at h
  split at h
  · by_cases he : e = 0
    · exact he
    · rw [rNum_wrong he] at h; exact h
  · exact h
theorem opt1_ok {b : Bool} {L : List UInt8} {p e most : Nat} (h : (opt1 b L p e most).2.2 = 0) : e = 0 := by
  unfold opt1 at h
  split at h
  · by_cases he : e = 0
    · exact he
    · rw [rByte_wrong he] at h; exact h
  · exact h

end Go.Proofs.Ytcpegfjjdojinaa
