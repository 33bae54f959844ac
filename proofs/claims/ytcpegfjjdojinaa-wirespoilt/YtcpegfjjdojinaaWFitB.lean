/- Which fields a Kind has: the walk of the switch that falls through. -/
import Derived.Test.YtcpegfjjdojinaaWMsg
namespace Go.Proofs.Ytcpegfjjdojinaa
open Go.RowKit

/-- What a Kind has. -/
def hasF (k : Int) : Nat :=
  if k = 1 then 6203 else if k = 2 then 7169 else if k = 3 then 1 else if k = 4 then 992 else if k = 5 then 1376 else if k = 6 then 96 else if k = 7 then 96 else
  if k = 8 then 45 else if k = 9 then 25605 else if k = 10 then 8229 else if k = 11 then 5 else 0

theorem kinds (k : Int) : k = 1 ∨ k = 2 ∨ k = 3 ∨ k = 4 ∨ k = 5 ∨ k = 6 ∨ k = 7 ∨ k = 8 ∨ k = 9 ∨ k = 10 ∨ k = 11 ∨ ¬ (1 ≤ k ∧ k ≤ 11) := by omega

set_option maxHeartbeats 2000000 in
theorem fieldsOf_any (k : Int) (w : World) : Calls Try.prog 22 #[.int .i64 k] w fun e w' => e = .returned (.int .u64 (hasF k : Int)) ∧ w = w' := by
  rcases kinds k with rfl | rfl | rfl | rfl | rfl | rfl | rfl | rfl | rfl | rfl | rfl | h
  case inr.inr.inr.inr.inr.inr.inr.inr.inr.inr.inr =>
    have e : hasF k = 0 := by
      unfold hasF
      repeat rw [if_neg (by omega)]
    have n1 : (k == 1) = false := beq_eq_false_iff_ne.2 (by omega)
    have n2 : (k == 2) = false := beq_eq_false_iff_ne.2 (by omega)
    have n3 : (k == 3) = false := beq_eq_false_iff_ne.2 (by omega)
    have n4 : (k == 4) = false := beq_eq_false_iff_ne.2 (by omega)
    have n5 : (k == 5) = false := beq_eq_false_iff_ne.2 (by omega)
    have n6 : (k == 6) = false := beq_eq_false_iff_ne.2 (by omega)
    have n7 : (k == 7) = false := beq_eq_false_iff_ne.2 (by omega)
    have n8 : (k == 8) = false := beq_eq_false_iff_ne.2 (by omega)
    have n9 : (k == 9) = false := beq_eq_false_iff_ne.2 (by omega)
    have n10 : (k == 10) = false := beq_eq_false_iff_ne.2 (by omega)
    have n11 : (k == 11) = false := beq_eq_false_iff_ne.2 (by omega)
    clear h
    go_enter Try.func22, Try.ntmps22
    go_wp2
    go_ret
    exact ⟨congrArg (fun x => Ending.returned (.int .u64 x)) (by rw [e]; rfl), rfl⟩
  all_goals
    go_enter Try.func22, Try.ntmps22
    go_wp2
    go_ret
    exact ⟨congrArg (fun x => Ending.returned (.int .u64 x)) (by decide +kernel), rfl⟩

end Go.Proofs.Ytcpegfjjdojinaa
