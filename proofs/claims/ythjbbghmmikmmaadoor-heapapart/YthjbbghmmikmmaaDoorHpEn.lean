/- HeapEnds, walked. -/
import Derived.Test.YthjbbghmmikmmaaDoorHpQ
import Derived.Deep.CutRange
import Derived.Deep.CutBlock
namespace Go.Proofs.YthjbbghmmikmmaaDoor
open Go.RowKit

theorem freeS_parts (h : HSt) (s : Nat) : (h.freeS s).last = h.last ∧ (h.freeS s).most = h.most ∧ (h.freeS s).cs.length ≤ h.cs.length := by
  unfold HSt.freeS
  cases getC h.cs s with
  | none => exact ⟨rfl, rfl, Nat.le_refl _⟩
  | some o => exact ⟨rfl, rfl, List.length_filter_le _ _⟩
theorem room0 (n : Nat) (s : Int) (h1 : 1 ≤ s) (h2 : s ≤ 16) : roomB (List.replicate n bk0) s = n * (16 / classN s) := by
  have hk := (classN_is h1 h2).1
  have hz : classN s ≠ 0 := by have := hk.pos; omega
  unfold roomB
  rw [if_neg hz, List.map_replicate, List.sum_replicate_nat]
  unfold roomN
  rw [if_pos (Or.inl (show bk0.c = 0 from rfl))]
  rw [show pc bk0.t = 0 from pc_zero, Nat.sub_zero]
theorem make_room {h : HSt} (hO : AO h.bs) {r v : Int} (hn : 0 ≤ r ∧ r ≤ 7 ∧ 0 ≤ v ∧ v ≤ 7) (h1 : h.cs.length < h.most) (h2 : h.last < 72057594037927935) (hr : 0 < roomB h.bs (1 + r + v)) :
    h.makeR r v = (h.last + 1, 0) ∧ h.makeS r v = { h with last := h.last + 1, bs := allocL h.bs (1 + r + v), cs := h.cs ++ [h.newO r v] } ∧ roomB (allocL h.bs (1 + r + v)) (1 + r + v) + 1 = roomB h.bs (1 + r + v) := by
  obtain ⟨e1, e2⟩ := room_some hO hr
  have hm := makeR_yes (h := h) hn (by omega) (by omega) e1
  refine ⟨hm, ?_, e2⟩
  unfold HSt.makeS
  rw [hm]
  exact if_pos rfl

/-- Behind k of bk objects. -/
structure EndS (h : HSt) (bk k : Nat) : Prop where
  most : h.most = 10
  last : h.last + bk = 72057594037927935 + k
  cnt : h.cs.length = k
  room : roomB h.bs 2 + k = 128


end Go.Proofs.YthjbbghmmikmmaaDoor
