/- Copies, seals: call by call. -/
import Derived.Test.YtcpegfjjdojinaaWalkA
namespace Go.Proofs.Ytcpegfjjdojinaa
open Go.RowKit

theorem Try.infoByte : (Try.prog.info? 5).map (fun i => (i.zero, i.size, i.bytes)) = some (some (.int .u8 0), 1, 1) := by kernel_rfl

set_option maxHeartbeats 400000 in
theorem fresh_any (v : Value) (l : List UInt8) (w : World) (hv : Bs w v l) (hl : l.length ≤ 140737488355328) :
    Calls Try.prog 53 #[v] w fun e w' => e = .returned (.slice (some ⟨w.heap.size, 0, none⟩) l.length l.length) ∧
      w'.heap[w.heap.size]? = some (.cells (l.map bv).toArray 5 (0, 0)) ∧ Below w.heap.size w w' ∧ w.heap.size < w'.heap.size := by
  obtain ⟨ao, cap, rfl, hc, hx⟩ := hv
  obtain ⟨i, hi, hz0, hz1, hz2⟩ := info_parts Try.infoByte
  have hsz : (Try.prog.info? 5).map (·.size) = some 1 := by rw [hi]; simp [hz1]
  go_enter Try.func53, Try.ntmps53
  go_wp2_with (first
    | (at_make; refine wpList_make_row _ rfl _ _ 29 rfl 5 i _ Try.underlying29 hi hz0 hz1 rfl _ _ _ _ l.length rfl rfl rfl rfl (by rw [hz2]; omega) (by unfold maxLen; omega) ?_; intro w1 hg1 hb1 hlt1)
    | (refine wpList_copy_splice rfl (.tmp 7) (.tmp 8) 29 29 rfl 5 Try.underlying29 hsz _ ao l.length l.length l.length cap rfl rfl w.heap.size 0 (List.replicate l.length (.int .u8 0)) 5 hg1 (l.map bv) (by simp) (fun hp => ⟨rfl, src_of hx hb1 hp⟩) (by simp) (bv_oneCell l) w.heap.size w hb1 (Nat.le_refl _) ?_; intro w2 hg2 hb2))
  go_ret
  have hg3 := hg2.out
  rw [show List.replicate l.length (Value.int .u8 0) = List.replicate (l.map bv).length (Value.int .u8 0) by simp, splice_all] at hg3
  exact ⟨rfl, hg3, hb2, (Array.getElem?_eq_some_iff.1 hg3).1⟩

end Go.Proofs.Ytcpegfjjdojinaa
