/- ClockStays: the walk. -/
import Derived.Test.YtojgaiodbdgehabCkB
namespace Go.Proofs.Ytojgaiodbdgehab
open Go.RowKit

theorem pastB_more {a s n m : Nat} (h : pastB a s n = true) : pastB a s (n + m) = true := by
  have := of_decide_eq_true h
  exact decide_eq_true (by omega)
theorem pastB_less {a s n t : Nat} (h : pastB a s n = true) (ht : t ≤ s) : pastB a t n = true := by
  have := of_decide_eq_true h
  exact decide_eq_true (by omega)

set_option maxRecDepth 20000 in
set_option maxHeartbeats 400000 in
theorem clockStays_any (a s n m : Nat) (hs : s < 18446744073709551616) (hn : n < 18446744073709551616) (hm : m < 18446744073709551616) (w : World) :
    Calls Try.prog 3 #[.int .u64 (a : Int), .int .u64 (s : Int), .int .u64 (n : Int), .int .u64 (m : Int)] w fun e w' => e = .returned (.bool true) ∧ Below w.heap.size w w' := by
  go_enter Try.func3, Try.ntmps3
  go_wp2_with fail
  refine (cknown_any w).mono ?_
  rintro e w1 ⟨rfl, hb1⟩
  go_wp2_with fail
  refine (past_any a s n hn w1).mono ?_
  rintro e w2 ⟨rfl, rfl⟩
  cases hp : pastB a s n
  · clear hp
    by_cases h1 : (m : Int) ≤ 18446744073709551615 - (n : Int)
    · go_wp2
      go_ret
      exact ⟨rfl, hb1⟩
    · go_wp2
      go_ret
      exact ⟨rfl, hb1⟩
  · have HP : Hid (pastB a s n = true) := hp
    clear hp
    by_cases h1 : (m : Int) ≤ 18446744073709551615 - (n : Int)
    · go_wp2_with fail
      rw [show (n : Int) + (m : Int) = ((n + m : Nat) : Int) by omega]
      refine (past_any a s (n + m) (by omega) w1).mono ?_
      rintro e w2 ⟨rfl, rfl⟩
      rw [pastB_more HP.out]
      go_wp2_with fail
      rw [show (s : Int) / 2 = ((s / 2 : Nat) : Int) by omega]
      refine (past_any a (s / 2) n hn w1).mono ?_
      rintro e w2 ⟨rfl, rfl⟩
      rw [pastB_less HP.out (by omega)]
      go_wp2_with fail
      refine (past_any a 0 n hn w1).mono ?_
      rintro e w2 ⟨rfl, rfl⟩
      rw [pastB_less HP.out (by omega)]
      go_wp2
      go_ret
      exact ⟨rfl, hb1⟩
    · go_wp2_with fail
      rw [show (s : Int) / 2 = ((s / 2 : Nat) : Int) by omega]
      refine (past_any a (s / 2) n hn w1).mono ?_
      rintro e w2 ⟨rfl, rfl⟩
      rw [pastB_less HP.out (by omega)]
      go_wp2_with fail
      refine (past_any a 0 n hn w1).mono ?_
      rintro e w2 ⟨rfl, rfl⟩
      rw [pastB_less HP.out (by omega)]
      go_wp2
      go_ret
      exact ⟨rfl, hb1⟩

end Go.Proofs.Ytojgaiodbdgehab
