/- The plain Text: its walk. -/
import Derived.Test.YtdadbdeeoemfcabRefNum
namespace Go.Proofs.Ytdadbdeeoemfcab
open Go.RowKit

set_option maxRecDepth 20000 in
set_option maxHeartbeats 1000000 in
theorem refText_any (v : Value) (t : List UInt8) (w : World) (hv : Bs w v t) (hl : t.length + 10 ≤ 140737488355328) :
    Calls Try.prog 22 #[v] w fun e w' => ∃ v', e = .returned v' ∧ w'.ownsRow w.heap.size 5 1 v' (numB t.length ++ t).length ((numB t.length ++ t).map bv) ∧ Below w.heap.size w w' := by
  have hnl : (numB t.length).length ≤ 10 := length_numB _
  obtain ⟨i, hi, hz0, hz1, hz2⟩ := info_parts Try.infoByte
  obtain ⟨ao, cap, rfl, hc, hx⟩ := id hv
  clear hc hx
  go_enter Try.func22, Try.ntmps22
  go_wp2_with (first
    | (go_at_call 20; refine (refNum_any t.length (by omega) _).mono ?_; rintro e w1 ⟨v1, rfl, ho1, hb1⟩; obtain ⟨ao1, n1, c1, hv1⟩ := own_form ho1; subst hv1)
    | (at_builtin; go_must (refine wpList_append_bs rfl _ _ 30 rfl w.heap.size 5 i Try.underlying30 hi hz0 hz1 hz2 (.slice ao1 n1 c1) (numB t.length).length (numB t.length) rfl rfl ho1 _ rfl t (hv.below hb1) (by omega) hb1.size ?_); intro v2 w2 ho2 hk2 hm2))
  go_ret
  exact ⟨v2, rfl, ho2, hb1.trans (own_below ho1 hk2 hb1.size)⟩

end Go.Proofs.Ytdadbdeeoemfcab
