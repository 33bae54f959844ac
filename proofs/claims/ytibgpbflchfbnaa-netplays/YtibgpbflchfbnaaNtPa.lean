/- NetPlays, of any size. -/
import Derived.Test.YtibgpbflchfbnaaNtP
namespace Go.Proofs.Ytibgpbflchfbnaa
open Go.RowKit

theorem netPlays_all (most : Int) (v : Value) (ss : List StepD) (w : World) (hv : Steps w v ss) (hn : ss.length ≤ 140737488355328) (hl : ∀ s ∈ ss, s.d.b.length ≤ 140737488355328) :
    Calls Try.prog 4 #[.int .i64 most, v] w fun e w' => e = .returned (.bool true) ∧ Below w.heap.size w w' := by
  by_cases h : most < 1 ∨ 256 < most
  · obtain ⟨a, c, rfl, _⟩ := hv
    exact netPlays_no most _ w ⟨_, _, _, rfl⟩ h
  · obtain ⟨n, rfl⟩ : ∃ n : Nat, most = (n : Int) := ⟨most.toNat, by omega⟩
    exact netPlays_any n v ss w hv hn hl (by omega) (by omega)

end Go.Proofs.Ytibgpbflchfbnaa
