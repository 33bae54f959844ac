/- CodecReads: the walk. -/
import Derived.Test.YtmnajmlfioiboaaReads
namespace Go.Proofs.Ytmnajmlfioiboaa
open Go.RowKit

set_option maxRecDepth 20000 in
set_option maxHeartbeats 1000000 in
theorem codecReads_any (v u : Value) (L : List UInt8) (ds : List AskD) (w : World) (hv : Bs w v L) (hu : Asks w u ds) (hl : L.length ≤ 140737488355328) (hn : ds.length ≤ 140737488355328) :
    Calls Try.prog 5 #[v, u] w fun e w' => e = .returned (.bool true) ∧ Below w.heap.size w w' := by
  obtain ⟨uo, ucap, rfl, _⟩ := id hu
  obtain ⟨ao, cap, rfl, _⟩ := id hv
  go_enter Try.func5, Try.ntmps5
  go_wp2_with (first
    | (go_at_call 16; refine (known_any _).mono ?_; rintro r w1 ⟨rfl, hb1⟩)
    | (go_at_call 26; refine (reads_any _ _ L ds _ (hv.below hb1) (hu.below hb1) hl hn).mono ?_; rintro r w2 ⟨rfl, hb2⟩))
  go_ret
  exact ⟨rfl, hb1.trans (hb2.mono hb1.size)⟩

end Go.Proofs.Ytmnajmlfioiboaa
