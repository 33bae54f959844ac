/- What was told and is written into: its shape alone. -/
import Derived.Test.YtibgpbflchfbnaaNtCp
import Derived.Test.YtibgpbflchfbnaaNtOpen
namespace Go.Proofs.Ytibgpbflchfbnaa
open Go.RowKit

/-- A slice of datagrams in block g; the bytes of each lie at the head of a block of their own; all of it from B on. -/
structure Wr (w : World) (B g : Nat) (ks : List (Nat × Nat)) : Prop where
  ge : B ≤ g
  blk : ∃ cur, w.heap[g]? = some (.cells cur 30 (0, 0)) ∧ cur.size = ks.length * 3 ∧ ∀ i (hi : i < ks.length), cur[i * 3 + 2]? = some (.slice (some ⟨ks[i].1, 0, none⟩) ks[i].2 ks[i].2)
  bs : ∀ p ∈ ks, B ≤ p.1 ∧ p.1 ≠ g ∧ ∃ c : Array Value, w.heap[p.1]? = some (.cells c 5 (0, 0)) ∧ c.size = p.2

/-- A block of n bytes that may be written. -/
def WB (w : World) (k n : Nat) : Prop := ∃ c : Array Value, w.heap[k]? = some (.cells c 5 (0, 0)) ∧ c.size = n
theorem WB.at {w : World} {k n : Nat} (h : WB w k n) (j : Nat) (hj : j < n) : (∃ u, w.cell? ⟨k, j, none⟩ = some u) ∧ w.frozen? ⟨k, j, none⟩ = false := by
  obtain ⟨c, hc, hs⟩ := h
  refine ⟨⟨c[j]'(by omega), ?_⟩, frozen_of_row w k j _ _ hc⟩
  rw [cell_of_row w k j _ _ _ hc, Array.getElem?_eq_getElem (by omega)]
theorem WB.keep {w w' : World} {k n : Nat} {S : Nat → Prop} (h : WB w k n) (hk : Kept w w' S) (hs : ¬ S k) : WB w' k n := by
  obtain ⟨c, hc, hn⟩ := h
  exact ⟨c, (hk.block k (Array.getElem?_eq_some_iff.1 hc).1 hs).trans hc, hn⟩
theorem WB.set {w : World} {k n : Nat} (h : WB w k n) (b j : Nat) (u : Value) : WB (w.setCell ⟨b, j, none⟩ u) k n := by
  obtain ⟨c, hc, hn⟩ := h
  by_cases e : b = k
  · subst e
    exact ⟨_, heap_setCell_same w b j _ _ u hc, by simpa using hn⟩
  · exact ⟨c, (heap_setCell_other w _ k u (fun h => e h.symm)).trans hc, hn⟩
theorem WB.lt {w : World} {k n : Nat} (h : WB w k n) : k < w.heap.size := by
  obtain ⟨c, hc, _⟩ := h
  exact (Array.getElem?_eq_some_iff.1 hc).1

section
variable {w w' : World} {B g : Nat} {ks : List (Nat × Nat)}
theorem Wr.lt (h : Wr w B g ks) : g < w.heap.size := by
  obtain ⟨cur, hc, _⟩ := h.blk
  exact (Array.getElem?_eq_some_iff.1 hc).1
theorem Wr.wb (h : Wr w B g ks) (i : Nat) (hi : i < ks.length) : WB w ks[i].1 ks[i].2 ∧ B ≤ ks[i].1 ∧ ks[i].1 ≠ g := by
  obtain ⟨h1, h2, h3⟩ := h.bs ks[i] (List.getElem_mem hi)
  exact ⟨h3, h1, h2⟩
theorem Wr.cell (h : Wr w B g ks) (i : Nat) (hi : i < ks.length) : w.cell? ⟨g, i * 3 + 2, none⟩ = some (.slice (some ⟨ks[i].1, 0, none⟩) ks[i].2 ks[i].2) ∧ (∃ u, w.cell? ⟨g, i * 3, none⟩ = some u) ∧ w.frozen? ⟨g, i * 3, none⟩ = false := by
  obtain ⟨cur, hc, hs, hat⟩ := h.blk
  refine ⟨by rw [cell_of_row w g _ _ _ _ hc]; exact hat i hi, ⟨cur[i * 3]'(by omega), ?_⟩, frozen_of_row w g _ _ _ hc⟩
  rw [cell_of_row w g _ _ _ _ hc, Array.getElem?_eq_getElem (by omega)]
theorem Wr.keep {S : Nat → Prop} (h : Wr w B g ks) (hk : Kept w w' S) (hs : ∀ k, S k → w.heap.size ≤ k) : Wr w' B g ks := by
  obtain ⟨cur, hc, hn, hat⟩ := h.blk
  refine ⟨h.ge, ⟨cur, (hk.block g h.lt (fun e => by have := hs _ e; have := h.lt; omega)).trans hc, hn, hat⟩, fun p hp => ?_⟩
  obtain ⟨h1, h2, c, h3, h4⟩ := h.bs p hp
  have hlt := (Array.getElem?_eq_some_iff.1 h3).1
  exact ⟨h1, h2, c, (hk.block p.1 hlt (fun e => by have := hs _ e; omega)).trans h3, h4⟩
theorem Wr.below (h : Wr w B g ks) (hb : Below w.heap.size w w') : Wr w' B g ks := h.keep (kept_of_below hb (fun _ => False)) (fun _ e => e.elim)
/-- A byte is written. -/
theorem Wr.setB (h : Wr w B g ks) (k j : Nat) (u : Value) (hk : k ≠ g) : Wr (w.setCell ⟨k, j, none⟩ u) B g ks := by
  obtain ⟨cur, hc, hn, hat⟩ := h.blk
  refine ⟨h.ge, ⟨cur, (heap_setCell_other w _ g u (fun e => hk e.symm)).trans hc, hn, hat⟩, fun p hp => ?_⟩
  obtain ⟨h1, h2, h3⟩ := h.bs p hp
  exact ⟨h1, h2, WB.set h3 k j u⟩
/-- A number is written. -/
theorem Wr.setF (h : Wr w B g ks) (i : Nat) (u : Value) : Wr (w.setCell ⟨g, i * 3, none⟩ u) B g ks := by
  obtain ⟨cur, hc, hn, hat⟩ := h.blk
  refine ⟨h.ge, ⟨_, heap_setCell_same w g (i * 3) _ _ u hc, by simpa using hn, fun j hj => ?_⟩, fun p hp => ?_⟩
  · rw [Array.getElem?_setIfInBounds_ne (by omega)]
    exact hat j hj
  · obtain ⟨h1, h2, c, h3, h4⟩ := h.bs p hp
    exact ⟨h1, h2, c, (heap_setCell_other w _ p.1 u h2).trans h3, h4⟩
end

theorem DgNew.wr {h g : Nat} {w : World} {v : Value} {rs : List (Dg × Value)} (q : DgNew h w v rs g) : ∃ ks, Wr w h g ks ∧ ks.length = rs.length ∧ ∀ i (hi : i < ks.length), ∃ r ∈ rs, ks[i].2 = r.1.b.length := by
  obtain ⟨ks, hl, hk⟩ := list_of (p := fun i (x : Nat × Nat) => ∃ hi : i < rs.length, rs[i].2 = .slice (some ⟨x.1, 0, none⟩) x.2 x.2 ∧ h ≤ x.1 ∧ x.1 ≠ g ∧ WB w x.1 x.2 ∧ x.2 = rs[i].1.b.length) rs.length (fun i hi => by
    obtain ⟨k, h1, h2, h3, h4⟩ := q.bs rs[i] (List.getElem_mem hi)
    exact ⟨(k, rs[i].1.b.length), hi, h3, h1, h2, ⟨_, h4, by simp⟩, rfl⟩)
  refine ⟨ks, ⟨q.ge, ⟨_, q.blk, ?_, fun i hi => ?_⟩, fun p hp => ?_⟩, hl, fun i hi => ?_⟩
  · rw [List.size_toArray, length_flat3 dgCells (fun _ => rfl), hl]
  · obtain ⟨hi2, e, _⟩ := hk i hi
    have := flat3 dgCells (fun _ => rfl) rs i 2 hi2 (by omega)
    simp only [List.getElem?_toArray]
    rw [this]
    simp [dgCells, e]
  · obtain ⟨i, hi, rfl⟩ := List.getElem_of_mem hp
    obtain ⟨hi2, e, h1, h2, h3, _⟩ := hk i hi
    exact ⟨h1, h2, h3⟩
  · obtain ⟨hi2, _, _, _, _, h4⟩ := hk i hi
    exact ⟨_, List.getElem_mem hi2, h4⟩

end Go.Proofs.Ytibgpbflchfbnaa
