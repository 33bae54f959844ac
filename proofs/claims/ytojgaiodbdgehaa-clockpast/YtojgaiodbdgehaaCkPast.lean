/- ClockPast: the walk. -/
import Derived.Test.YtojgaiodbdgehaaCkB
namespace Go.Proofs.Ytojgaiodbdgehaa
open Go.RowKit

set_option maxRecDepth 20000 in
set_option maxHeartbeats 400000 in
theorem clockPast_any (a s n : Nat) (hn : n < 18446744073709551616) (w : World) :
    Calls Try.prog 8 #[.int .u64 (a : Int), .int .u64 (s : Int), .int .u64 (n : Int)] w fun e w' => e = .returned (.bool true) ∧ Below w.heap.size w w' := by
  go_enter Try.func8, Try.ntmps8
  go_wp2_with fail
  refine (cknown_any w).mono ?_
  rintro e w1 ⟨rfl, hb1⟩
  go_wp2_with fail
  refine (past_any a s n hn w1).mono ?_
  rintro e w2 ⟨rfl, rfl⟩
  go_wp2_with fail
  refine (refPast_any a s n hn w1).mono ?_
  rintro e w2 ⟨rfl, rfl⟩
  cases pastB a s n
  · go_wp2
    go_ret
    exact ⟨rfl, hb1⟩
  · go_wp2
    go_ret
    exact ⟨rfl, hb1⟩

end Go.Proofs.Ytojgaiodbdgehaa
