/- Proved: for every message and any two numbers, a message's bytes of which one is another one are not decoded. No condition. -/
import Derived.Test.YtmnnpbijifoagabWTurned
import Derived.Test.YtmnnpbijifoagabWOpen
import Derived.OpenShut
namespace Go.Proofs.Ytmnnpbijifoagab
open Go.ChangeShapes Go.WideShapes Go.ChangeAt Go.RowKit

theorem bytes_id : Try.prog.bytesOf 24 = 16 := by kernel_rfl
theorem bytes_u64 : Try.prog.bytesOf 22 = 8 := by kernel_rfl

/-- The form's own reach, of a message's lists. -/
theorem msg_reach {H : Type} {ts : List TypeId} {ds : List (DataW H)} (h : (DataW.weightsEach Try.prog ts ds).all (· ≤ reachBytes) = true) {j : Nat} {parts : List (DataW H)} (ht : ts[j]? = some 28) (hd : ds[j]? = some (.agg parts)) {n9 n17 : Nat}
    (h9 : ∃ d9, parts[9]? = some d9 ∧ Long d9 n9) (h17 : ∃ d17, parts[17]? = some d17 ∧ Long d17 n17) : n9 ≤ 8796093022208 ∧ n17 ≤ 17592186044416 := by
  have hmem := DataW.weights_mem_each (P := Try.prog) ht hd
  simp only [DataW.weights, Try.underlying28] at hmem
  have hall := List.all_eq_true.2 fun n hn => (List.all_eq_true.1 h) n (hmem n hn)
  constructor
  · obtain ⟨d9, hp, ⟨_, rfl⟩ | ⟨elems, spare, rfl, he⟩⟩ := h9
    · omega
    · have := sized_slice hall (j := 9) (t := 25) rfl hp Try.underlying25
      rw [bytes_id] at this
      simp only [reachBytes] at this
      omega
  · obtain ⟨d17, hp, ⟨_, rfl⟩ | ⟨elems, spare, rfl, he⟩⟩ := h17
    · omega
    · have := sized_slice hall (j := 17) (t := 26) rfl hp Try.underlying26
      rw [bytes_u64] at this
      simp only [reachBytes] at this
      omega

namespace WireTurned
theorem own : ownKnob Try.prog.godebug = none := by kernel_rfl
theorem laidOut : laidOutB Try.prog = true := by kernel_rfl

set_option maxRecDepth 100000 in
theorem lifted (os : Os) (started : os.Started) (H : Type) (enc : TypeId × Value → H) :
    ReturnsInHanded {} Try.checked os 5 .any (Rows.wireTurnedSpec.pre6 enc Try.prog Try.f5 Rows.wireTurnedRow.domain false) (Rows.wireTurnedSpec.post enc Try.prog Try.f5 false true false false) := by
  refine returnsInHanded_of_change_sized (C := Try.checked) own started (by kernel_rfl) Try.func5
    (ChangeSpec.witness6 (enc := enc) (C := Try.checked) false ⟨#[], #[.agg #[.int .i64 0, .int .i64 0, .int .i64 0, .int .u64 0, .int .u64 0, .int .i64 0, .int .i64 0, .int .i64 0, .int .i64 0, .int .u64 0, .slice none 0 0, .int .u64 0, .int .i64 0, .int .u64 0, .int .i64 0, .int .u64 0, .int .i64 0, .int .u64 0, .slice none 0 0], .int .i64 0, .int .i64 0], []⟩ 8 (by kernel_rfl) (by kernel_rfl) (by kernel_rfl) (by kernel_rfl)) ?_
  intro W base args ds gs before hval0 hW _ hsz0 _
  have hsz : (DataW.weightsEach Try.prog (Try.f5.params.toList ++ Rows.wireTurnedSpec.plain.varTypes Try.prog) (ds ++ gs)).all (· ≤ reachBytes) = true := hsz0
  have hval : ∀ (j : Nat) t v, Try.f5.params[j]? = some t → args[j]? = some v → Value.okWide Try.prog W .any base t v := hval0
  have hW' := hW
  obtain ⟨p, q, hA0, hV, rfl, _, _⟩ := hW
  have hA : DataW.TrodAll enc Try.prog W 0 (fun _ => true) true Try.f5.params.toList args.toList ds p := hA0
  rw [Try.params5] at hA hval hsz
  obtain ⟨v0, v1, v2, d0, d1, d2, p0, p1, p2, rfl, rfl, rfl, h0, h1, h2⟩ := trodAll_three hA
  obtain ⟨rfl, rfl⟩ := trodVars_none hV
  have lt0 : ∀ x ∈ p0, x.block < W.heap.size := by obtain ⟨m, hm⟩ := h0; exact DataW.trod_lt m _ _ _ hm
  obtain ⟨m, ro, lo, rc, lc, rfl, hok, hr, hr0, hl, hl0, parts, rfl, h9, h17⟩ := open_msg (hval 0 28 v0 rfl rfl) h0
  obtain ⟨a1, rfl, rfl, rfl, w1⟩ := open_int Try.underlying3 (hval 1 3 v1 rfl rfl) h1
  obtain ⟨a2, rfl, rfl, rfl, w2⟩ := open_int Try.underlying3 (hval 2 3 v2 rfl rfl) h2
  have hreach := msg_reach hsz (j := 0) rfl rfl h9 h17
  clear hA0 hval0 hsz0
  refine (wturned_any m ro lo rc lc a1 a2 W hok hr hr0 hreach.1 hl hl0 hreach.2).mono fun e W' ⟨he, bel⟩ => ?_
  subst he
  exact ⟨_, rfl, _, _, _, [], _, [], hW', trodAll_mk1 (shut_bool Try.underlying4 _), trodAll_mk3 (Below.trod laidOut (by kernel_rfl) (of_decide_eq_true (by kernel_rfl)) h0 bel lt0) (shut_int Try.underlying3 w1) (shut_int Try.underlying3 w2), rfl, bel.frame _, fun h => by cases h⟩

end WireTurned

theorem wireTurned_holds : Rows.WireTurnedSaid :=
  OpenClaim.holds_of_wide 5 Try.f5 rfl rfl rfl rfl rfl rfl rfl ⟨rfl, rfl, rfl, rfl, rfl⟩ rfl rfl rfl rfl rfl (by kernel_rfl) Try.func5 (by kernel_rfl)
    (of_decide_eq_true (by kernel_rfl)) (by unfold Func.isWrapper; first | (rw [if_pos (by decide +kernel)]; kernel_rfl) | (rw [if_neg (by decide +kernel)]; exact ⟨rfl, rfl⟩))
    (fun os started H enc _ => WireTurned.lifted os started H enc)
#print axioms wireTurned_holds

end Go.Proofs.Ytmnnpbijifoagab
