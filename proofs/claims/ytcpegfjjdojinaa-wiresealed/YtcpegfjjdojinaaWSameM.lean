/- The plain Same, of two messages that are the same: the walk, whole. -/
import Derived.Test.YtcpegfjjdojinaaWSame
namespace Go.Proofs.Ytcpegfjjdojinaa
open Go.RowKit

theorem two_boxes {w w1 : World} {A B : Obj} (hb1 : Below ((w.alloc A).alloc B).heap.size ((w.alloc A).alloc B) w1) : w1.heap[w.heap.size]? = some A ∧ w1.heap[w.heap.size + 1]? = some B := by
  have hs : (w.alloc A).heap.size = w.heap.size + 1 := by simp
  have hs2 : ((w.alloc A).alloc B).heap.size = w.heap.size + 1 + 1 := by simp
  have k := heap_alloc_new (w.alloc A) B
  rw [hs] at k
  exact ⟨(hb1.block _ (by omega)).trans ((Below.heap_alloc (w.alloc A) B w.heap.size (by omega)).trans (heap_alloc_new w A)), (hb1.block _ (by omega)).trans k⟩

set_option maxRecDepth 40000 in
set_option maxHeartbeats 8000000 in
theorem same_any (m : Msg) (ro lo ro2 lo2 : Option Addr) (rc lc rc2 lc2 : Nat) (w : World) (hr : IDs w ro m.refs) (hr2 : IDs w ro2 m.refs) (hl : Us w lo m.list) (hl2 : Us w lo2 m.list) (hrl : m.refs.length ≤ 140737488355328) (hll : m.list.length ≤ 140737488355328) :
    Calls Try.prog 12 #[m.v ro lo rc lc, m.v ro2 lo2 rc2 lc2] w fun e w' => e = .returned (.bool true) ∧ Below w.heap.size w w' := by
  have hids := fun w h1 h2 => idsEq_any m.refs ro ro2 rc rc2 w h1 h2 hrl
  have hus := fun w h1 h2 => usEq_any m.list lo lo2 lc lc2 w h1 h2 hll
  go_enter Try.func12, Try.ntmps12
  go_wp2_with (first
    | (go_at_call 30; refine (hids _ (hr.below (((Below.refl _ _).alloc (Nat.le_refl _) _).alloc (by simp) _)) (hr2.below (((Below.refl _ _).alloc (Nat.le_refl _) _).alloc (by simp) _))).mono ?_; rintro e w1 ⟨rfl, hb1⟩; have hB1 := ((((Below.refl w.heap.size w).alloc (Nat.le_refl _) _).alloc (by simp) _)).trans (hb1.mono (by simp; omega)); obtain ⟨e1, e2⟩ := two_boxes hb1; have d1 : w1.cell? ⟨w.heap.size, 18, none⟩ = some (.slice lo m.list.length lc) := cell_of_row w1 _ 18 _ _ _ e1; have d2 : w1.cell? ⟨w.heap.size + 1, 18, none⟩ = some (.slice lo2 m.list.length lc2) := cell_of_row w1 _ 18 _ _ _ e2; clear e1 e2)
    | (go_at_call 31; refine (hus _ (hl.below hB1) (hl2.below hB1)).mono ?_; rintro e w2 ⟨rfl, hb2⟩))
  go_ret
  exact ⟨rfl, hB1.trans (hb2.mono hB1.size)⟩

end Go.Proofs.Ytcpegfjjdojinaa
