/- Two rows of datagrams, held against one another. -/
import Derived.Test.YtibgpbflchfbnaaNtH
import Derived.Test.YtibgpbflchfbnaaPick
import Derived.Deep.RegionHeld
namespace Go.Proofs.Ytibgpbflchfbnaa
open Go.RowKit

/-- One datagram in memory. -/
def DgAt (w : World) (blk o : Nat) (d : Dg) : Prop := w.cell? ⟨blk, o, none⟩ = some (.int .i64 d.frm) ∧ w.cell? ⟨blk, o + 1, none⟩ = some (.int .i64 d.to) ∧ ∃ v, w.cell? ⟨blk, o + 2, none⟩ = some v ∧ Bs w v d.b
/-- A slice of datagrams. -/
def Dgs (w : World) (v : Value) (ds : List Dg) : Prop := ∃ ao cap, v = .slice ao ds.length cap ∧ (ds.length ≤ cap ∧ (ao = none → cap = 0)) ∧ (ds ≠ [] → ∃ blk off, ao = some ⟨blk, off, none⟩ ∧ blk < w.heap.size ∧ ∀ i (hi : i < ds.length), DgAt w blk (off + i * 3) ds[i])

theorem DgAt.below {w w' : World} {blk o : Nat} {d : Dg} (h : DgAt w blk o d) (hb : Below w.heap.size w w') (hlt : blk < w.heap.size) : DgAt w' blk o d := by
  obtain ⟨h0, h1, v, h2, h3⟩ := h
  exact ⟨(hb.cell (p := ⟨blk, o, none⟩) hlt).trans h0, (hb.cell (p := ⟨blk, o + 1, none⟩) hlt).trans h1, v, (hb.cell (p := ⟨blk, o + 2, none⟩) hlt).trans h2, h3.below hb⟩
theorem Dgs.below {w w' : World} {v : Value} {ds : List Dg} (h : Dgs w v ds) (hb : Below w.heap.size w w') : Dgs w' v ds := by
  obtain ⟨ao, cap, rfl, hc, hx⟩ := h
  refine ⟨ao, cap, rfl, hc, fun hne => ?_⟩
  obtain ⟨blk, off, rfl, hlt, hat⟩ := hx hne
  exact ⟨blk, off, rfl, Nat.lt_of_lt_of_le hlt hb.size, fun i hi => (hat i hi).below hb hlt⟩
theorem Dgs.ofBlock {w : World} {g cap : Nat} {T : TypeId} {cur : Array Value} {rs : List (Dg × Value)} {ds : List Dg} (hm : rs.map Prod.fst = ds) (hg : w.heap[g]? = some (.cells cur T (0, 0))) (ht : cur.toList.take (ds.length * 3) = rs.flatMap dgCells) (hc : ds.length ≤ cap) (hbs : ∀ r ∈ rs, Bs w r.2 r.1.b) : Dgs w (.slice (some ⟨g, 0, none⟩) ds.length cap) ds := by
  have hl := fst_len hm
  refine ⟨_, cap, rfl, ⟨hc, fun h => by cases h⟩, fun _ => ⟨g, 0, rfl, (Array.getElem?_eq_some_iff.1 hg).1, fun i hi => ?_⟩⟩
  have hi2 : i < rs.length := by omega
  have hcl : ∀ j, j < 3 → w.cell? ⟨g, 0 + i * 3 + j, none⟩ = (dgCells rs[i])[j]? := by
    intro j hj
    rw [cell_of_row w g _ _ _ _ hg, ← flat3 dgCells (fun _ => rfl) rs i j hi2 hj, ← ht, List.getElem?_take, if_pos (by omega), Nat.zero_add]
    simp
  have e1 := fst_at hm i hi2 hi
  rw [← e1]
  exact ⟨by simpa [dgCells] using hcl 0 (by omega), by simpa [dgCells] using hcl 1 (by omega), rs[i].2, by simpa [dgCells] using hcl 2 (by omega), hbs _ (List.getElem_mem hi2)⟩
theorem DgNew.dgs {h g : Nat} {w : World} {v : Value} {rs : List (Dg × Value)} {ds : List Dg} (q : DgNew h w v rs g) (hm : rs.map Prod.fst = ds) : Dgs w v ds := by
  have hl := fst_len hm
  have hv := q.val
  rw [hl] at hv
  subst hv
  refine Dgs.ofBlock hm q.blk (List.take_of_length_le (by rw [List.toList_toArray, length_flat3 dgCells (fun _ => rfl)]; omega)) (Nat.le_refl _) (fun r hr => ?_)
  obtain ⟨k, _, _, e, hg⟩ := q.bs r hr
  rw [e]
  exact Bs.ofBlock hg (List.take_of_length_le (by simp)) (Nat.le_refl _)

theorem bs_string {w : World} {v : Value} {l : List UInt8} (h : Bs w v l) : ∀ W, Below w.heap.size w W → (convert 28 9 v).run Try.prog W = .ok (.string ⟨l.toArray⟩) W := fun _ hb =>
  (h.below hb).str 28 9 5 Try.underlying28 Try.underlying5 Try.underlying9

set_option maxRecDepth 20000 in
set_option maxHeartbeats 4000000 in
theorem datagrams_same (v u : Value) (ds : List Dg) (w : World) (hv : Dgs w v ds) (hu : Dgs w u ds) (hn : ds.length ≤ 4611686018427387904) :
    Calls Try.prog 24 #[v, u] w fun e w' => e = .returned (.bool true) ∧ Below w.heap.size w w' := by
  obtain ⟨ao, ac, rfl, hac, ha⟩ := id hv
  obtain ⟨bo, bc, rfl, hbc, hb⟩ := id hu
  clear hv hu
  go_enter Try.func24, Try.ntmps24
  go_wp2
  go_loopw [5] (fun i wr => ∃ k : Nat, k ≤ ds.length ∧ i = .int .i64 (k : Int) ∧ Below w.heap.size w wr) (fun i _ => ds.length - (intOf i).toNat)
  case atStart => exact ⟨0, Nat.zero_le _, rfl, Below.refl _ _⟩
  case round =>
    obtain ⟨k, hk, rfl, hbr⟩ := hrel
    have hzr := hbr.size
    by_cases hlt : k < ds.length
    · have hne : ds ≠ [] := by intro e; subst e; simp at hlt
      obtain ⟨b1, o1, rfl, hb1, hat1⟩ := ha hne
      obtain ⟨b2, o2, rfl, hb2, hat2⟩ := hb hne
      obtain ⟨a0, a1, x, a2, hx⟩ := (hat1 k hlt).below hbr hb1
      obtain ⟨c0, c1, y, c2, hy⟩ := (hat2 k hlt).below hbr hb2
      have hk0 : (k : Int) < (ds.length : Int) := by omega
      clear hat1 hat2 ha hb hne
      generalize ds[k] = d at *
      obtain ⟨frm, to, l⟩ := d
      simp only at *
      have lt1 : b1 < wr.heap.size := by omega
      have lt2 : b2 < wr.heap.size := by omega
      have A0 : ∀ W, Below wr.heap.size wr W → W.cell? ⟨b1, o1 + k * 3, none⟩ = some (.int .i64 frm) := fun W h => (h.cell (p := ⟨b1, o1 + k * 3, none⟩) lt1).trans a0
      have A1 : ∀ W, Below wr.heap.size wr W → W.cell? ⟨b1, o1 + k * 3 + 1, none⟩ = some (.int .i64 to) := fun W h => (h.cell (p := ⟨b1, o1 + k * 3 + 1, none⟩) lt1).trans a1
      have A2 : ∀ W, Below wr.heap.size wr W → W.cell? ⟨b1, o1 + k * 3 + 2, none⟩ = some x := fun W h => (h.cell (p := ⟨b1, o1 + k * 3 + 2, none⟩) lt1).trans a2
      have C0 : ∀ W, Below wr.heap.size wr W → W.cell? ⟨b2, o2 + k * 3, none⟩ = some (.int .i64 frm) := fun W h => (h.cell (p := ⟨b2, o2 + k * 3, none⟩) lt2).trans c0
      have C1 : ∀ W, Below wr.heap.size wr W → W.cell? ⟨b2, o2 + k * 3 + 1, none⟩ = some (.int .i64 to) := fun W h => (h.cell (p := ⟨b2, o2 + k * 3 + 1, none⟩) lt2).trans c1
      have C2 : ∀ W, Below wr.heap.size wr W → W.cell? ⟨b2, o2 + k * 3 + 2, none⟩ = some y := fun W h => (h.cell (p := ⟨b2, o2 + k * 3 + 2, none⟩) lt2).trans c2
      have kx := bs_string hx
      have ky := bs_string hy
      obtain ⟨xo, xc, hxe⟩ := hx.slice
      obtain ⟨yo, yc, hye⟩ := hy.slice
      subst hxe hye
      have b0 : Below wr.heap.size wr wr.drew := (Below.refl _ _).drew
      clear a0 a1 a2 c0 c1 c2 hx hy
      go_wp2
      go_region_held (fun W => Below wr.heap.size wr W) (assumption) (fail)
      clear A0 A1 A2 C0 C1 C2 kx ky
      go_wp2
      go_roundw
      case rel => exact ⟨k + 1, by omega, by go_num, hbr.drew⟩
      case measure => simp [intOf]; omega
    · go_wp2
      go_ret
      exact ⟨rfl, hbr⟩

end Go.Proofs.Ytibgpbflchfbnaa
