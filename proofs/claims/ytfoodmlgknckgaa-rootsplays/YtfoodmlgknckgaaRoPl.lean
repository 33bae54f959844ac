/- RootsPlays, walked. -/
import Derived.Test.YtfoodmlgknckgaaRoQ
import Derived.Test.YtfoodmlgknckgaaRoS
import Derived.Deep.CutRange
import Derived.Deep.CutBlock
import Derived.Deep.RegionHeld
namespace Go.Proofs.Ytfoodmlgknckgaa
open Go.RowKit

set_option maxRecDepth 20000 in
set_option maxHeartbeats 1000000 in
theorem rootsPlays_no (mu sl : Int) (v : Value) (w : World) (h : ¬ (1 ≤ mu ∧ mu ≤ 4 ∧ 1 ≤ sl ∧ sl ≤ 8)) :
    Calls Try.prog 4 #[.int .i64 mu, .int .i64 sl, v] w fun e w' => e = .returned (.bool true) ∧ Below w.heap.size w w' := by
  have hN := new_no mu sl h w
  have hK := rknown_any w
  have main : (mu < 1 ∨ 4 < mu ∨ sl < 1 ∨ 8 < sl) → Calls Try.prog 4 #[.int .i64 mu, .int .i64 sl, v] w fun e w' => e = .returned (.bool true) ∧ Below w.heap.size w w' := by
    intro h'
    rcases h' with h1 | h1 | h1 | h1
    · clear h
      go_enter Try.func4, Try.ntmps4
      go_wp2_with (first
        | (go_at_call 7; refine hN.mono ?_; rintro e _ ⟨rfl, rfl⟩)
        | (go_at_call 8; refine hK.mono ?_; rintro e w2 ⟨rfl, b2⟩))
      go_ret
      exact ⟨rfl, b2⟩
    · clear h
      have h2 : ¬ mu < 1 := by omega
      go_enter Try.func4, Try.ntmps4
      go_wp2_with (first
        | (go_at_call 7; refine hN.mono ?_; rintro e _ ⟨rfl, rfl⟩)
        | (go_at_call 8; refine hK.mono ?_; rintro e w2 ⟨rfl, b2⟩))
      go_ret
      exact ⟨rfl, b2⟩
    · by_cases h2 : mu < 1
      · clear h
        go_enter Try.func4, Try.ntmps4
        go_wp2_with (first
          | (go_at_call 7; refine hN.mono ?_; rintro e _ ⟨rfl, rfl⟩)
          | (go_at_call 8; refine hK.mono ?_; rintro e w2 ⟨rfl, b2⟩))
        go_ret
        exact ⟨rfl, b2⟩
      · by_cases h3 : 4 < mu
        · clear h
          go_enter Try.func4, Try.ntmps4
          go_wp2_with (first
            | (go_at_call 7; refine hN.mono ?_; rintro e _ ⟨rfl, rfl⟩)
            | (go_at_call 8; refine hK.mono ?_; rintro e w2 ⟨rfl, b2⟩))
          go_ret
          exact ⟨rfl, b2⟩
        · clear h
          go_enter Try.func4, Try.ntmps4
          go_wp2_with (first
            | (go_at_call 7; refine hN.mono ?_; rintro e _ ⟨rfl, rfl⟩)
            | (go_at_call 8; refine hK.mono ?_; rintro e w2 ⟨rfl, b2⟩))
          go_ret
          exact ⟨rfl, b2⟩
    · by_cases h2 : mu < 1
      · clear h
        go_enter Try.func4, Try.ntmps4
        go_wp2_with (first
          | (go_at_call 7; refine hN.mono ?_; rintro e _ ⟨rfl, rfl⟩)
          | (go_at_call 8; refine hK.mono ?_; rintro e w2 ⟨rfl, b2⟩))
        go_ret
        exact ⟨rfl, b2⟩
      · by_cases h3 : 4 < mu
        · clear h
          go_enter Try.func4, Try.ntmps4
          go_wp2_with (first
            | (go_at_call 7; refine hN.mono ?_; rintro e _ ⟨rfl, rfl⟩)
            | (go_at_call 8; refine hK.mono ?_; rintro e w2 ⟨rfl, b2⟩))
          go_ret
          exact ⟨rfl, b2⟩
        · clear h
          have h4 : ¬ sl < 1 := by omega
          go_enter Try.func4, Try.ntmps4
          go_wp2_with (first
            | (go_at_call 7; refine hN.mono ?_; rintro e _ ⟨rfl, rfl⟩)
            | (go_at_call 8; refine hK.mono ?_; rintro e w2 ⟨rfl, b2⟩))
          go_ret
          exact ⟨rfl, b2⟩
  exact main (by omega)

end Go.Proofs.Ytfoodmlgknckgaa
