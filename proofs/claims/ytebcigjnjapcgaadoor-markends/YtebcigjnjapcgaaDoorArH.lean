/- Free, Room, Used. -/
import Derived.Test.YtebcigjnjapcgaaDoorArG
namespace Go.Proofs.YtebcigjnjapcgaaDoor
open Go.RowKit

theorem atB_bounds {bs : List Bk} {i : Int} (h : atB bs i ≠ 0) : 0 ≤ i ∧ i.toNat / 16 < bs.length := by
  unfold atB at h
  split at h
  · exact absurd rfl h
  · omega
theorem atB_cls {bs : List Bk} {c : Nat} (h : atB bs (c : Int) ≠ 0) : atB bs (c : Int) = (bs.getD (c / 16) bk0).c ∧ (bs.getD (c / 16) bk0).c ≠ 0 := by
  unfold atB at h ⊢
  split
  · next h1 => rw [if_pos h1] at h; exact absurd rfl h
  · next h1 =>
    rw [if_neg h1] at h
    simp only [Int.toNat_natCast] at h ⊢
    unfold atN at h ⊢
    split
    · next h2 => rw [if_pos h2] at h; exact absurd rfl h
    · next h2 => exact ⟨rfl, fun e => h2 (Or.inl e)⟩

end Go.Proofs.YtebcigjnjapcgaaDoor
