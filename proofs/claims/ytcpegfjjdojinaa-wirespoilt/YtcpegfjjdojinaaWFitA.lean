/- What package wire knows of one field: the walks of its small calls. -/
import Derived.Test.YtcpegfjjdojinaaWMsg
namespace Go.Proofs.Ytcpegfjjdojinaa
open Go.RowKit

theorem wrap_u64 (z : Int) : IntKind.u64.wrap z = ((u64 z : Nat) : Int) := by
  have h := Int.emod_nonneg z (show (18446744073709551616 : Int) ≠ 0 by decide)
  simp only [u64, Int.toNat_of_nonneg h]
  rfl

set_option maxHeartbeats 400000 in
theorem isNode_any (z : Int) (w : World) : Calls Try.prog 32 #[.int .i64 z] w fun e w' => e = .returned (.bool (decide (1 ≤ z) && decide (z ≤ 64))) ∧ w = w' := by
  go_enter Try.func32, Try.ntmps32
  go_wp2
  all_goals
    go_ret
    refine ⟨congrArg (fun x => Ending.returned (.bool x)) ?_, rfl⟩
    exact Bool.eq_iff_iff.2 (by simp; omega)

set_option maxHeartbeats 400000 in
theorem isSerial_any (n : Nat) (w : World) : Calls Try.prog 82 #[.int .u64 (n : Int)] w fun e w' => e = .returned (.bool (decide (1 ≤ n) && decide (n ≤ 72057594037927935))) ∧ w = w' := by
  go_enter Try.func82, Try.ntmps82
  go_wp2
  all_goals
    go_ret
    refine ⟨congrArg (fun x => Ending.returned (.bool x)) ?_, rfl⟩
    exact Bool.eq_iff_iff.2 (by simp; omega)

set_option maxHeartbeats 2000000 in
theorem wnumber_any (m : Msg) (f : Nat) (hf : Fld f) (ro lo : Option Addr) (rc lc : Nat) (w : World) :
    Calls Try.prog 50 #[m.v ro lo rc lc, .int .u64 (f : Int)] w fun e w' => e = .returned (.int .u64 (m.num f : Int)) ∧ Below w.heap.size w w' := by
  rcases hf with rfl | rfl | rfl | rfl | rfl | rfl | rfl | rfl | rfl | rfl | rfl | rfl | rfl | rfl | rfl
  all_goals
    go_enter Try.func50, Try.ntmps50
    go_wp2
    go_ret
    exact ⟨congrArg (fun x => Ending.returned (.int .u64 x)) (by simp [Msg.num, wrap_u64]), (Below.refl _ _).alloc (Nat.le_refl _) _⟩

/-- How small and how great. -/
def lowF (f : Nat) : Nat := if f = 1 ∨ f = 2 ∨ f = 8 ∨ f = 64 ∨ f = 128 ∨ f = 512 then 1 else 0
def topF (k : Int) (f : Nat) : Nat :=
  if f = 1 ∨ f = 64 then 72057594037927935 else if f = 4 then 4095 else if f = 8 then (if k = 8 then 3 else 6) else if f = 16 then 63 else if f = 128 then 64 else if f = 512 then 40 else
  if f = 1024 then (if k = 9 then 2 else 10) else 18446744073709551615

set_option maxHeartbeats 2000000 in
theorem bounds_any (k : Int) (f : Nat) (hf : Fld f) (w : World) :
    Calls Try.prog 63 #[.int .i64 k, .int .u64 (f : Int)] w fun e w' => e = .returned (.tuple #[.int .u64 (lowF f : Int), .int .u64 (topF k f : Int)]) ∧ w = w' := by
  have go : ∀ {a b c d : Int}, a = b → c = d → Ending.returned (.tuple #[.int .u64 a, .int .u64 c]) = Ending.returned (.tuple #[.int .u64 b, .int .u64 d]) := by rintro a b c d rfl rfl; rfl
  rcases hf with rfl | rfl | rfl | rfl | rfl | rfl | rfl | rfl | rfl | rfl | rfl | rfl | rfl | rfl | rfl
  all_goals
    go_enter Try.func63, Try.ntmps63
    go_wp2
  all_goals
    go_ret2
    exact ⟨go rfl (by simp_all [topF]), rfl⟩

end Go.Proofs.Ytcpegfjjdojinaa
