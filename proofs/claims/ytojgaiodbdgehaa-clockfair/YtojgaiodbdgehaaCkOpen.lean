/- Numbers and slices of numbers that came in. -/
import Derived.Test.YtojgaiodbdgehaaCkC
import Derived.ProofKit
import Derived.SizedLaws
namespace Go.Proofs.Ytojgaiodbdgehaa
open Go.ChangeShapes Go.WideShapes Go.ChangeAt Go.RowKit

theorem wf_nat {K : IntKind} {z : Int} (h0 : K.min = 0) (h : (Lit.int K z).wf = true) : ∃ n : Nat, z = (n : Int) ∧ (n : Int) ≤ K.max := by
  simp only [Lit.wf, Bool.and_eq_true, decide_eq_true_eq] at h
  exact ⟨z.toNat, by omega, by omega⟩

theorem open_nat {H : Type} {enc : TypeId × Value → H} {P : Program} {W : World} {base : Nat} {K : IntKind} {t : TypeId} {v : Value} {d : DataW H} {p : List MemPlace} (h0 : K.min = 0) (ht : P.underlying t = some (.int K)) (hval : Value.okWide P W .any base t v)
    (h : DataW.Trod enc P W 0 (fun _ => true) true t v d p) : ∃ n : Nat, v = .int K (n : Int) ∧ (n : Int) ≤ K.max := by
  obtain ⟨z, rfl, _, _, hw⟩ := open_int ht hval h
  obtain ⟨n, rfl, hn⟩ := wf_nat h0 hw
  exact ⟨n, rfl, hn⟩

/-- A slice of numbers that came in. -/
theorem open_ns {H : Type} {enc : TypeId × Value → H} {P : Program} {W : World} {K : IntKind} {t e : TypeId} {v : Value} {d : DataW H} {p : List MemPlace} (h0 : K.min = 0) (ht : P.underlying t = some (.slice e)) (he : P.underlying e = some (.int K)) (hc : P.cellsOf e = 1)
    (hv : ∃ a len cap, v = .slice a len cap) (h : DataW.Trod enc P W 0 (fun _ => true) true t v d p) (hlt : ∀ x ∈ p, x.block < W.heap.size) :
    ∃ l : List Nat, Ns K W v l ∧ (∀ x ∈ l, (x : Int) ≤ K.max) ∧ ((d = .nil ∧ l = []) ∨ ∃ elems spare, d = .slice elems spare ∧ elems.length = l.length) := by
  obtain ⟨a0, len, cap, rfl⟩ := hv
  obtain ⟨fuel, hf⟩ := h
  rcases open_ints ht he hc hf with ⟨hcs, hx⟩ | ⟨a, len', cap', zs, hcs, _, hl, hm, hz, hx, hcell, hwz⟩
  · simp [Value.cells] at hcs
    obtain ⟨rfl, rfl, rfl⟩ := hcs
    simp only [Prod.mk.injEq] at hx
    exact ⟨[], Ns.nil _ _, by simp, Or.inl ⟨hx.1, rfl⟩⟩
  · simp [Value.cells] at hcs
    obtain ⟨rfl, rfl, rfl⟩ := hcs
    simp only [Prod.mk.injEq] at hx
    obtain ⟨rfl, rfl⟩ := hx
    simp only [if_true] at hz
    have hlen : ((zs.take len).map Int.toNat).length = len := by simp; omega
    refine ⟨(zs.take len).map Int.toNat, ?_, ?_, Or.inr ⟨_, _, rfl, by simp [lits]⟩⟩
    · refine ⟨some a, cap, by rw [hlen], ⟨by omega, fun h => by cases h⟩, fun hne => ?_⟩
      have hpos : 0 < len := by rw [← hlen]; exact List.length_pos_iff.2 hne
      obtain ⟨b, off, spot⟩ := a
      have hspot : spot = none := by simpa [Addr.add] using World.cell?_spot (hcell 0 (by omega))
      subst hspot
      refine ⟨b, off, rfl, hlt (.cell b off) (MemPlace.mem_row.2 ⟨0, by omega, by simp⟩), fun i hi => ?_⟩
      rw [hlen] at hi
      have hc2 := hcell i (by omega)
      rw [Addr.add_at] at hc2
      rw [hc2]
      have hzi : i < zs.length := by omega
      obtain ⟨n, hn, _⟩ := wf_nat h0 (hwz zs[i] (List.getElem_mem hzi))
      simp only [List.getD_eq_getElem?_getD, List.getElem?_eq_getElem hzi, Option.getD_some, List.getElem_map, List.getElem_take]
      rw [hn, Int.toNat_natCast]
    · intro x hx
      obtain ⟨z, hz2, rfl⟩ := List.mem_map.1 hx
      obtain ⟨n, rfl, hn⟩ := wf_nat h0 (hwz z (List.mem_of_mem_take hz2))
      simpa using hn

/-- The form's own reach, of a slice of numbers. -/
theorem ns_reach {H : Type} {P : Program} {ts : List TypeId} {ds : List (DataW H)} (h : (DataW.weightsEach P ts ds).all (· ≤ reachBytes) = true) {j : Nat} {t e : TypeId} {d : DataW H} {l : List Nat} {c : Nat} (ht : ts[j]? = some t) (hd : ds[j]? = some d) (hu : P.underlying t = some (.slice e)) (hb : P.bytesOf e = c)
    (hl : (d = .nil ∧ l = []) ∨ ∃ elems spare, d = .slice elems spare ∧ elems.length = l.length) : l.length * c ≤ 140737488351232 := by
  rcases hl with ⟨_, rfl⟩ | ⟨elems, spare, rfl, he⟩
  · simp
  · have := sized_slice h ht hd hu
    rw [hb] at this
    simp only [reachBytes] at this
    rw [← he]
    have h2 : elems.length * c ≤ (elems.length + spare.length) * c := Nat.mul_le_mul_right _ (by omega)
    have e2 := Nat.mul_comm c elems.length
    have e3 := Nat.mul_comm c (elems.length + spare.length)
    omega

end Go.Proofs.Ytojgaiodbdgehaa
