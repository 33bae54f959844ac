/- Slices of one-cell values that came in: Vs, open_vs; their reach. No program's text is in it. -/
import Derived.Test.YtbbdcjllmjhiiaaBase
import Derived.Deep.Slices
import Derived.ProofKit
import Derived.SizedLaws
import Derived.ChangeArms
namespace Go.Proofs.Ytbbdcjllmjhiiaa
open Go.ChangeShapes Go.WideShapes Go.ChangeAt Go.RowKit

/-- A slice whose elements are these values. -/
def Vs (w : World) (v : Value) (l : List Value) : Prop :=
  ∃ ao cap, v = .slice ao l.length cap ∧ (l.length ≤ cap ∧ (ao = none → cap = 0)) ∧ (l ≠ [] → ∃ b off, ao = some ⟨b, off, none⟩ ∧ b < w.heap.size ∧ ∀ i u, l[i]? = some u → w.cell? ⟨b, off + i, none⟩ = some u)

theorem Vs.below {w w' : World} {v : Value} {l : List Value} (h : Vs w v l) (hb : Below w.heap.size w w') : Vs w' v l := by
  obtain ⟨ao, cap, rfl, hc, hx⟩ := h
  refine ⟨ao, cap, rfl, hc, fun hl => ?_⟩
  obtain ⟨b, off, rfl, hlt, hs⟩ := hx hl
  exact ⟨b, off, rfl, Nat.lt_of_lt_of_le hlt hb.size, fun i u hu => (hb.cell (p := ⟨b, off + i, none⟩) hlt).trans (hs i u hu)⟩
theorem Vs.take {w : World} {ao : Option Addr} {n cap : Nat} {l : List Value} (h : Vs w (.slice ao n cap) l) (k : Nat) (hk : k ≤ l.length) : Vs w (.slice ao k cap) (l.take k) := by
  obtain ⟨ao', cap', e, hc, hx⟩ := h
  cases e
  refine ⟨ao, cap, by rw [List.length_take, Nat.min_eq_left hk], ⟨by rw [List.length_take]; omega, hc.2⟩, fun hl => ?_⟩
  obtain ⟨b, off, rfl, hlt, hs⟩ := hx (fun e => hl (by simp [e]))
  exact ⟨b, off, rfl, hlt, fun i u hu => hs i u (by
    rw [List.getElem?_take] at hu
    split at hu
    · exact hu
    · cases hu)⟩
theorem Vs.cell {w : World} {ao : Option Addr} {n cap : Nat} {l : List Value} (h : Vs w (.slice ao n cap) l) (k : Nat) (hk : k < l.length) : ∃ b off, ao = some ⟨b, off, none⟩ ∧ b < w.heap.size ∧ w.cell? ⟨b, off + k, none⟩ = some l[k] := by
  obtain ⟨ao', cap', e, hc, hx⟩ := h
  cases e
  obtain ⟨b, off, rfl, hlt, hs⟩ := hx (fun e => by subst e; simp at hk)
  exact ⟨b, off, rfl, hlt, hs k _ (List.getElem?_eq_getElem hk)⟩

/-- A slice that came in. -/
theorem open_vs {α H : Type} [Inhabited α] {enc : TypeId × Value → H} {P : Program} {W : World} {t e : TypeId} {v : Value} {d : DataW H} {p : List MemPlace} (f : α → Value) (ht : P.underlying t = some (.slice e)) (hc : P.cellsOf e = 1)
    (each : ∀ n u (y : DataW H × List MemPlace), DataW.trod enc P W 0 (fun _ => true) true n e [u] = some y → ∃ x, u = f x)
    (hv : ∃ a len cap, v = .slice a len cap) (h : DataW.Trod enc P W 0 (fun _ => true) true t v d p) :
    ∃ xs : List α, Vs W v (xs.map f) ∧ ((d = .nil ∧ xs = []) ∨ ∃ elems spare, d = .slice elems spare ∧ elems.length = xs.length) := by
  obtain ⟨a0, len, cap, rfl⟩ := hv
  obtain ⟨fuel, hf⟩ := h
  rcases Go.Deep.open_slice1 ht hc hf with ⟨hcs, hx⟩ | ⟨a, len', cap', m, n, V, D, Pl, hcs, _, hl, hm, hmm, hx, hcell⟩
  · simp [Value.cells] at hcs
    obtain ⟨rfl, rfl, rfl⟩ := hcs
    simp only [Prod.mk.injEq] at hx
    exact ⟨[], ⟨none, 0, rfl, ⟨Nat.le_refl _, fun _ => rfl⟩, fun h => absurd rfl h⟩, Or.inl ⟨hx.1, rfl⟩⟩
  · simp [Value.cells] at hcs
    obtain ⟨rfl, rfl, rfl⟩ := hcs
    simp only [Prod.mk.injEq] at hx
    simp only [if_true] at hmm
    subst hmm
    obtain ⟨X, hX⟩ := Go.Deep.choose_lt (α := α) (p := fun i x => V i = f x) (fun i (hi : i < m) => each _ _ _ (hcell i hi).2)
    refine ⟨(List.range len).map X, ?_, Or.inr ⟨_, _, hx.1, by simp⟩⟩
    refine ⟨some a, m, by simp, ⟨by simpa using hl, fun h => by cases h⟩, fun hne => ?_⟩
    have hpos : 0 < len := by
      rcases Nat.eq_zero_or_pos len with h0 | h0
      · subst h0; simp at hne
      · exact h0
    obtain ⟨b, off, spot⟩ := a
    have h0 := (hcell 0 (by omega)).1
    have hspot : spot = none := by simpa [Addr.add] using World.cell?_spot h0
    subst hspot
    rw [Addr.add_at] at h0
    refine ⟨b, off, rfl, World.block_lt_of_cell? W _ h0, fun i u hu => ?_⟩
    have hi : i < len := by
      have := (List.getElem?_eq_some_iff.1 hu).1
      simpa using this
    have hc2 := (hcell i (by omega)).1
    rw [Addr.add_at] at hc2
    rw [hc2, hX i (by omega)]
    simpa [hi] using hu

theorem len_reach {α H : Type} {P : Program} {ts : List TypeId} {ds : List (DataW H)} (h : (DataW.weightsEach P ts ds).all (· ≤ reachBytes) = true) {j : Nat} {t e : TypeId} {d : DataW H} {l : List α} {c : Nat} (ht : ts[j]? = some t) (hd : ds[j]? = some d) (hu : P.underlying t = some (.slice e)) (hb : P.bytesOf e = c)
    (hl : (d = .nil ∧ l = []) ∨ ∃ elems spare, d = .slice elems spare ∧ elems.length = l.length) : l.length * c ≤ 140737488351232 := by
  rcases hl with ⟨_, rfl⟩ | ⟨elems, spare, rfl, he⟩
  · simp
  · have := sized_slice h ht hd hu
    rw [hb] at this
    simp only [reachBytes] at this
    rw [← he]
    have h2 : elems.length * c ≤ (elems.length + spare.length) * c := Nat.mul_le_mul_right _ (by omega)
    have e2 := Nat.mul_comm c elems.length
    have e3 := Nat.mul_comm c (elems.length + spare.length)
    omega
theorem each_int {H : Type} {enc : TypeId × Value → H} {P : Program} {W : World} {e : TypeId} (he : P.underlying e = some (.int .i64)) : ∀ n u (y : DataW H × List MemPlace), DataW.trod enc P W 0 (fun _ => true) true n e [u] = some y → ∃ x, u = Value.int .i64 x := by
  intro n u y h
  obtain ⟨z, h1, _⟩ := DataW.trod_int he h
  exact ⟨z, by simpa using h1⟩
theorem each_str {H : Type} {enc : TypeId × Value → H} {P : Program} {W : World} {e : TypeId} (he : P.underlying e = some .string) : ∀ n u (y : DataW H × List MemPlace), DataW.trod enc P W 0 (fun _ => true) true n e [u] = some y → ∃ x, u = Value.string x := by
  intro n u y h
  obtain ⟨z, h1, _⟩ := DataW.trod_string he h
  exact ⟨z, by simpa using h1⟩
theorem each_bool {H : Type} {enc : TypeId × Value → H} {P : Program} {W : World} {e : TypeId} (he : P.underlying e = some .bool) : ∀ n u (y : DataW H × List MemPlace), DataW.trod enc P W 0 (fun _ => true) true n e [u] = some y → ∃ x, u = Value.bool x := by
  intro n u y h
  obtain ⟨z, h1, _⟩ := DataW.trod_bool he h
  exact ⟨z, by simpa using h1⟩

end Go.Proofs.Ytbbdcjllmjhiiaa
