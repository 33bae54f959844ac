/- What the law lays by the program: the walk of 'laid'. -/
import Derived.Test.YtdadbdeeoemfcabLayMath
namespace Go.Proofs.Ytdadbdeeoemfcab
open Go.RowKit

/-- The cells of one. -/
structure LayAt (w : World) (blk o : Nat) (d : LayD) : Prop where
  c0 : w.cell? ⟨blk, o, none⟩ = some (.int .i64 d.what)
  c1 : w.cell? ⟨blk, o + 1, none⟩ = some (.int .u8 (d.b.toNat : Int))
  c2 : w.cell? ⟨blk, o + 2, none⟩ = some (.int .u64 (d.n : Int))
  c3 : ∃ tv, w.cell? ⟨blk, o + 3, none⟩ = some tv ∧ Bs w tv d.t
  n : d.n < 18446744073709551616

/-- A slice of such things. -/
def Lays (w : World) (v : Value) (ds : List LayD) : Prop :=
  ∃ ao cap, v = .slice ao ds.length cap ∧ (ds ≠ [] → ∃ blk off, ao = some ⟨blk, off, none⟩ ∧ blk < w.heap.size ∧ ∀ i (hi : i < ds.length), LayAt w blk (off + i * 4) ds[i])

theorem LayAt.below {w w' : World} {blk o : Nat} {d : LayD} (h : LayAt w blk o d) (hb : Below w.heap.size w w') (hlt : blk < w.heap.size) : LayAt w' blk o d := by
  obtain ⟨tv, h3, h4⟩ := h.c3
  exact ⟨(hb.cell (p := ⟨blk, o, none⟩) hlt).trans h.c0, (hb.cell (p := ⟨blk, o + 1, none⟩) hlt).trans h.c1, (hb.cell (p := ⟨blk, o + 2, none⟩) hlt).trans h.c2, ⟨tv, (hb.cell (p := ⟨blk, o + 3, none⟩) hlt).trans h3, h4.below hb⟩, h.n⟩

theorem Lays.below {w w' : World} {v : Value} {ds : List LayD} (h : Lays w v ds) (hb : Below w.heap.size w w') : Lays w' v ds := by
  obtain ⟨ao, cap, rfl, hx⟩ := h
  refine ⟨ao, cap, rfl, fun hne => ?_⟩
  obtain ⟨blk, off, rfl, hlt, hat⟩ := hx hne
  exact ⟨blk, off, rfl, Nat.lt_of_lt_of_le hlt hb.size, fun i hi => (hat i hi).below hb hlt⟩

theorem pick3 (n : Int) : pickN n 3 = 0 ∨ pickN n 3 = 1 ∨ pickN n 3 = 2 := by
  have := pickN_lt n 3 (by omega)
  omega

/-- A text that lay there ahead of the Writer is none of its blocks. -/
theorem Bs.apart_old {w wr : World} {tv vv : Value} {t l : List UInt8} (ht : Bs w tv t) (hr : WR wr w.heap.size vv l) : ∀ k, t ≠ [] → tv.ownBlock = some k → k < wr.heap.size → ¬ WS w.heap.size vv k := by
  intro k hne hk _ e
  obtain ⟨ao, cap, rfl, _, hx⟩ := ht
  obtain ⟨b, off, rfl, hlt, _⟩ := hx hne
  simp only [Value.ownBlock, Option.some.injEq] at hk
  rcases e with e | e
  · omega
  · have := hr.apart k e; omega


end Go.Proofs.Ytdadbdeeoemfcab
