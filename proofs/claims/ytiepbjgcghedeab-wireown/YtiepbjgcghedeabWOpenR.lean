/- The form's own reach, of a message. -/
import Derived.Test.YtiepbjgcghedeabWOpen
import Derived.ProofKit
import Derived.SizedLaws
namespace Go.Proofs.Ytiepbjgcghedeab
open Go.ChangeShapes Go.WideShapes Go.ChangeAt Go.RowKit

theorem bytes_id : Try.prog.bytesOf 24 = 16 := by kernel_rfl
theorem bytes_u64 : Try.prog.bytesOf 22 = 8 := by kernel_rfl

/-- The form's own reach, of a message's lists. -/
theorem msg_reach {H : Type} {ts : List TypeId} {ds : List (DataW H)} (h : (DataW.weightsEach Try.prog ts ds).all (· ≤ reachBytes) = true) {j : Nat} {parts : List (DataW H)} (ht : ts[j]? = some 28) (hd : ds[j]? = some (.agg parts)) {n9 n17 : Nat}
    (h9 : ∃ d9, parts[9]? = some d9 ∧ Long d9 n9) (h17 : ∃ d17, parts[17]? = some d17 ∧ Long d17 n17) : n9 ≤ 8796093022208 ∧ n17 ≤ 17592186044416 := by
  have hmem := DataW.weights_mem_each (P := Try.prog) ht hd
  simp only [DataW.weights, Try.underlying28] at hmem
  have hall := List.all_eq_true.2 fun n hn => (List.all_eq_true.1 h) n (hmem n hn)
  constructor
  · obtain ⟨d9, hp, ⟨_, rfl⟩ | ⟨elems, spare, rfl, he⟩⟩ := h9
    · omega
    · have := sized_slice hall (j := 9) (t := 25) rfl hp Try.underlying25
      rw [bytes_id] at this
      simp only [reachBytes] at this
      omega
  · obtain ⟨d17, hp, ⟨_, rfl⟩ | ⟨elems, spare, rfl, he⟩⟩ := h17
    · omega
    · have := sized_slice hall (j := 17) (t := 26) rfl hp Try.underlying26
      rw [bytes_u64] at this
      simp only [reachBytes] at this
      omega

end Go.Proofs.Ytiepbjgcghedeab
