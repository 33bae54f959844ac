/- The form's own reach, of a slice. -/
import Derived.Test.YteaoafdedjenaaaMlE
import Derived.ProofKit
import Derived.SizedLaws
import Derived.ChangeArms
namespace Go.Proofs.Yteaoafdedjenaaa
open Go.ChangeShapes Go.WideShapes Go.ChangeAt Go.RowKit

theorem len_reach {α H : Type} {P : Program} {ts : List TypeId} {ds : List (DataW H)} (h : (DataW.weightsEach P ts ds).all (· ≤ reachBytes) = true) {j : Nat} {t e : TypeId} {d : DataW H} {l : List α} {c : Nat} (ht : ts[j]? = some t) (hd : ds[j]? = some d) (hu : P.underlying t = some (.slice e)) (hb : P.bytesOf e = c)
    (hl : (d = .nil ∧ l = []) ∨ ∃ elems spare, d = .slice elems spare ∧ elems.length = l.length) : l.length * c ≤ 140737488351232 := by
  rcases hl with ⟨_, rfl⟩ | ⟨elems, spare, rfl, he⟩
  · simp
  · have := sized_slice h ht hd hu
    rw [hb] at this
    simp only [reachBytes] at this
    rw [← he]
    have h2 : elems.length * c ≤ (elems.length + spare.length) * c := Nat.mul_le_mul_right _ (by omega)
    have e2 := Nat.mul_comm c elems.length
    have e3 := Nat.mul_comm c (elems.length + spare.length)
    omega
theorem each_int {H : Type} {enc : TypeId × Value → H} {P : Program} {W : World} {e : TypeId} (he : P.underlying e = some (.int .i64)) : ∀ n u (y : DataW H × List MemPlace), DataW.trod enc P W 0 (fun _ => true) true n e [u] = some y → ∃ x, u = Value.int .i64 x := by
  intro n u y h
  obtain ⟨z, h1, _⟩ := DataW.trod_int he h
  exact ⟨z, by simpa using h1⟩
theorem each_str {H : Type} {enc : TypeId × Value → H} {P : Program} {W : World} {e : TypeId} (he : P.underlying e = some .string) : ∀ n u (y : DataW H × List MemPlace), DataW.trod enc P W 0 (fun _ => true) true n e [u] = some y → ∃ x, u = Value.string x := by
  intro n u y h
  obtain ⟨z, h1, _⟩ := DataW.trod_string he h
  exact ⟨z, by simpa using h1⟩
theorem each_bool {H : Type} {enc : TypeId × Value → H} {P : Program} {W : World} {e : TypeId} (he : P.underlying e = some .bool) : ∀ n u (y : DataW H × List MemPlace), DataW.trod enc P W 0 (fun _ => true) true n e [u] = some y → ∃ x, u = Value.bool x := by
  intro n u y h
  obtain ⟨z, h1, _⟩ := DataW.trod_bool he h
  exact ⟨z, by simpa using h1⟩

end Go.Proofs.Yteaoafdedjenaaa
