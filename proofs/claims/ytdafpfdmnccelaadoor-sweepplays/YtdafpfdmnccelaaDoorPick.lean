/- The law's own hand: Pick. -/
import Derived.Test.YtdafpfdmnccelaaDoorRows
import Derived.Test.YtdafpfdmnccelaaDoorBase
namespace Go.Proofs.YtdafpfdmnccelaaDoor
open Go.RowKit

def pickN (n : Int) (m : Nat) : Nat := (n % (m : Int)).toNat
theorem pickN_lt (n : Int) (m : Nat) (hm : 0 < m) : pickN n m < m := by
  unfold pickN
  have h1 := Int.emod_nonneg n (show (m : Int) ≠ 0 by omega)
  have h2 := Int.emod_lt_of_pos n (show (0 : Int) < m by omega)
  omega
theorem pick_nonneg (n : Int) (m : Nat) (hm : 0 < m) (h : 0 ≤ n.tmod m) : n.tmod m = (pickN n m : Int) := by
  unfold pickN
  have h1 := Int.emod_nonneg n (show (m : Int) ≠ 0 by omega)
  rw [Int.toNat_of_nonneg h1, Int.tmod_eq_emod] 
  rw [Int.tmod_eq_emod] at h
  split at h
  · next hc => rw [if_pos hc]; omega
  · next hc =>
    have h2 := Int.emod_lt_of_pos n (show (0 : Int) < m by omega)
    simp at h
    omega
theorem pick_neg (n : Int) (m : Nat) (hm : 0 < m) (h : n.tmod m < 0) : n.tmod m + m = (pickN n m : Int) := by
  unfold pickN
  have h1 := Int.emod_nonneg n (show (m : Int) ≠ 0 by omega)
  rw [Int.toNat_of_nonneg h1, Int.tmod_eq_emod] 
  rw [Int.tmod_eq_emod] at h
  split at h
  · omega
  · next hc => rw [if_neg hc]; simp

set_option maxRecDepth 20000 in
set_option maxHeartbeats 400000 in
theorem pick_any (n : Int) (m : Nat) (hm : 0 < m) (hm2 : m ≤ 9223372036854775807) (w : World) :
    Calls Tryd.prog 11 #[.int .i64 n, .int .i64 (m : Int)] w fun e w' => e = .returned (.int .i64 (pickN n m : Int)) ∧ w = w' := by
  have hne : ((m : Int) == 0) = false := by rw [beq_eq_false_iff_ne]; omega
  go_enter Tryd.func11, Tryd.ntmps11
  have hlt := pickN_lt n m hm
  go_wp2
  · go_ret
    refine ⟨congrArg (fun x => Ending.returned (.int .i64 x)) ?_, rfl⟩
    rw [pick_neg n m hm ‹_›, wrap64]
    omega
  · go_ret
    exact ⟨congrArg (fun x => Ending.returned (.int .i64 x)) (pick_nonneg n m hm ‹_›), rfl⟩

end Go.Proofs.YtdafpfdmnccelaaDoor
