/- RootsPlays, of any numbers. -/
import Derived.Test.YtfoodmlgknckgaaRoPl
import Derived.Test.YtfoodmlgknckgaaRoPm
namespace Go.Proofs.Ytfoodmlgknckgaa
open Go.RowKit

theorem rootsPlays_any (mu sl : Int) (v : Value) (l : List StepR) (w : World) (hv : WS w v 5 cStepR l) :
    Calls Try.prog 4 #[.int .i64 mu, .int .i64 sl, v] w fun e w' => e = .returned (.bool true) ∧ Below w.heap.size w w' := by
  by_cases h : 1 ≤ mu ∧ mu ≤ 4 ∧ 1 ≤ sl ∧ sl ≤ 8
  · obtain ⟨M, rfl⟩ : ∃ M : Nat, mu = (M : Int) := ⟨mu.toNat, by omega⟩
    obtain ⟨K, rfl⟩ : ∃ K : Nat, sl = (K : Int) := ⟨sl.toNat, by omega⟩
    exact rootsPlays_ok M K (by omega) (by omega) v l w hv
  · exact rootsPlays_no mu sl v w h

end Go.Proofs.Ytfoodmlgknckgaa
