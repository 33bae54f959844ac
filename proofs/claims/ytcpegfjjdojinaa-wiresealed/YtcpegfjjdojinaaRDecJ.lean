/- WireSealed: the walk. -/
import Derived.Test.YtcpegfjjdojinaaRDecI
namespace Go.Proofs.Ytcpegfjjdojinaa
open Go.RowKit

set_option maxRecDepth 20000 in
theorem wireSealed_any (v : Value) (l : List UInt8) (w : World) (hv : Bs w v l) (hl : l.length ≤ 140737488354000) :
    Calls Try.prog 7 #[v] w fun e w' => e = .returned (.bool true) ∧ Below w.heap.size w w' := by
  have hse := refSeal_any v l w hv (by omega)
  have hde := fun v w h => wireDecodes_any v (l ++ sumBytes (crc l)) w h (by rw [List.length_append, length_sumBytes]; omega)
  obtain ⟨ao, cap, hve, hc, hx⟩ := id hv
  subst hve
  clear hx hc
  go_enter Try.func7, Try.ntmps7
  go_wp2_with (first
    | (go_at_call 18; refine hse.mono ?_; rintro e w1 ⟨v1, rfl, hs1, hb1⟩)
    | (go_at_call 6; refine (hde v1 w1 hs1).mono ?_; rintro e w2 ⟨rfl, hb2⟩))
  go_ret
  exact ⟨rfl, hb1.trans (hb2.mono hb1.size)⟩

end Go.Proofs.Ytcpegfjjdojinaa
