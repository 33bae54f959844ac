/- The law's own example, and the plain Past. -/
import Derived.Test.YtojgaiodbdgehaaCkA
namespace Go.Proofs.Ytojgaiodbdgehaa
open Go.RowKit

set_option maxRecDepth 20000 in
theorem refPast_any (a s n : Nat) (hn : n < 18446744073709551616) (w : World) :
    Calls Try.prog 16 #[.int .u64 (a : Int), .int .u64 (s : Int), .int .u64 (n : Int)] w fun e w' => e = .returned (.bool (pastB a s n)) ∧ w = w' := by
  unfold pastB
  by_cases h1 : n < a
  · rw [decide_eq_false (by omega)]
    go_enter Try.func16, Try.ntmps16
    go_wp2
    go_ret
    exact ⟨rfl, rfl⟩
  · have e : decide (a + s ≤ n) = decide ((s : Int) ≤ (n : Int) - (a : Int)) := by
      rw [decide_eq_decide]; omega
    rw [e]
    go_enter Try.func16, Try.ntmps16
    go_wp2
    go_ret
    exact ⟨rfl, rfl⟩

set_option maxRecDepth 20000 in
set_option maxHeartbeats 400000 in
theorem cknown_any (w : World) :
    Calls Try.prog 10 #[] w fun e w' => e = .returned (.bool true) ∧ Below w.heap.size w w' := by
  go_enter Try.func10, Try.ntmps10
  go_wp2_with fail
  refine (new_ok 5 (by omega) w).mono ?_
  rintro e w1 ⟨rfl, hc1, hb1, hs1⟩
  go_wp2_with fail
  refine (tick_any w.heap.size 5 3 w1 hc1).mono ?_
  rintro e w2 ⟨rfl, hc2, hk2⟩
  rw [show tickE 5 3 = 0 from by decide +kernel]
  rw [show tickN 5 3 = 8 from by decide +kernel] at hc2
  go_wp2_with fail
  refine (now_any w.heap.size 8 w2 hc2).mono ?_
  rintro e w3 ⟨rfl, rfl⟩
  go_wp2_with fail
  refine (past_any 5 3 8 (by omega) _).mono ?_
  rintro e w3 ⟨rfl, rfl⟩
  rw [show pastB 5 3 8 = true from by decide +kernel]
  go_wp2_with fail
  refine (past_any 5 3 7 (by omega) _).mono ?_
  rintro e w3 ⟨rfl, rfl⟩
  rw [show pastB 5 3 7 = false from by decide +kernel]
  go_wp2
  go_ret
  exact ⟨rfl, hb1.trans (hk2.below (by omega) (fun i hi e => by omega))⟩

end Go.Proofs.Ytojgaiodbdgehaa
