/- Decode of what is not sealed rightly. -/
import Derived.Test.YtdadbdeeoemfcabWCopy
import Derived.Test.YtdadbdeeoemfcabWalkD
namespace Go.Proofs.Ytdadbdeeoemfcab
open Go.RowKit

set_option maxRecDepth 20000 in
set_option maxHeartbeats 4000000 in
theorem decode_bad (v : Value) (l : List UInt8) (e0 : Nat) (w : World) (hv : Bs w v l) (hl : l.length ≤ 1024) (he : ((e0 : Int) != 0) = true)
    (hu : ∀ w', Below w.heap.size w w' → Calls Try.prog 29 #[v] w' fun e w'' => e = .returned (.tuple #[.slice none 0 0, .int .i64 (e0 : Int)]) ∧ w' = w'') :
    Calls Try.prog 11 #[v] w fun e w' => e = .returned (.tuple #[zeroM.v none none 0 0, .int .i64 (e0 : Int)]) ∧ Below w.heap.size w w' := by
  obtain ⟨ao, cap, rfl, hc, hx⟩ := hv
  go_enter Try.func11, Try.ntmps11
  go_wp2_with (first
    | (go_at_call 29; refine (hu _ ((Below.refl _ _).alloc (Nat.le_refl _) _)).mono ?_; rintro e w1 ⟨rfl, rfl⟩)
    | (refine store_msg _ _ rfl rfl w.heap.size rfl zeroM none none 0 0 rfl (by simp) (there_row (cs := zeroCells) (heap_alloc_new w _) (Nat.le_refl 19)) ?_; intro w3 hm3 hk3 hsz3))
  (try simp only [Exit.inBlock, Exit.then])
  refine bodyPost_ret (res_msg2 rfl _ rfl hm3) rfl ⟨rfl, ?_⟩
  exact ((Below.refl _ _).alloc (Nat.le_refl _) _).trans (hk3.below (by simp) (fun k hk e => by omega))

end Go.Proofs.Ytdadbdeeoemfcab
