/- Proved: for every slice of bytes and any calls, the bytes are read by these calls as the document says. No condition. -/
import Derived.Test.YtmnajmlfioiboaaReadsLaw
import Derived.Test.YtmnajmlfioiboaaOpenA
import Derived.OpenShut
namespace Go.Proofs.Ytmnajmlfioiboaa
open Go.ChangeShapes Go.WideShapes Go.ChangeAt Go.RowKit

namespace CodecReads
theorem own : ownKnob Try.prog.godebug = none := by kernel_rfl
theorem laidOut : laidOutB Try.prog = true := by kernel_rfl

set_option maxRecDepth 100000 in
theorem lifted (os : Os) (started : os.Started) (H : Type) (enc : TypeId × Value → H) :
    ReturnsInHanded {} Try.checked os 5 .any (Rows.codecReadsSpec.pre6 enc Try.prog Try.f5 Rows.codecReadsRow.domain false) (Rows.codecReadsSpec.post enc Try.prog Try.f5 false true false false) := by
  refine returnsInHanded_of_change_sized (C := Try.checked) own started (by kernel_rfl) Try.func5
    (ChangeSpec.witness6 (enc := enc) (C := Try.checked) false ⟨#[], #[.slice none 0 0, .slice none 0 0], []⟩ 8 (by kernel_rfl) (by kernel_rfl) (by kernel_rfl) (by kernel_rfl)) ?_
  intro W base args ds gs before hval0 hW _ hsz0 _
  have hsz : (DataW.weightsEach Try.prog (Try.f5.params.toList ++ Rows.codecReadsSpec.plain.varTypes Try.prog) (ds ++ gs)).all (· ≤ reachBytes) = true := hsz0
  have hval : ∀ (j : Nat) t v, Try.f5.params[j]? = some t → args[j]? = some v → Value.okWide Try.prog W .any base t v := hval0
  have hW' := hW
  obtain ⟨p, q, hA0, hV, rfl, _, _⟩ := hW
  have hA : DataW.TrodAll enc Try.prog W 0 (fun _ => true) true Try.f5.params.toList args.toList ds p := hA0
  rw [Try.params5] at hA hval hsz
  obtain ⟨v0, v1, d0, d1, p0, p1, rfl, rfl, rfl, h0, h1⟩ := trodAll_two hA
  obtain ⟨rfl, rfl⟩ := trodVars_none hV
  have lt0 : ∀ x ∈ p0, x.block < W.heap.size := by obtain ⟨m, hm⟩ := h0; exact DataW.trod_lt m _ _ _ hm
  obtain ⟨l, hl, hd⟩ := open_bytes Try.underlying24 Try.underlying5 (by kernel_rfl) (okWide_slice Try.underlying24 (hval 0 24 v0 rfl rfl)) h0 lt0
  have lt1 : ∀ x ∈ p1, x.block < W.heap.size := by obtain ⟨m, hm⟩ := h1; exact DataW.trod_lt m _ _ _ hm
  obtain ⟨qs, has, hda⟩ := open_asks Try.underlying49 Try.underlying53 (by kernel_rfl) rfl rfl rfl rfl (by kernel_rfl) (by kernel_rfl) (by kernel_rfl) (by kernel_rfl) Try.underlying3 Try.underlying5 Try.underlying26 Try.underlying3
    (okWide_slice Try.underlying49 (hval 1 49 v1 rfl rfl)) h1
  have hreach2 : qs.length ≤ 140737488351232 := by
    rcases hda with ⟨_, rfl⟩ | ⟨elems, spare, rfl, he⟩
    · simp
    · have := sized_slice hsz (j := 1) (t := 49) (e := 53) rfl rfl Try.underlying49
      rw [show Try.prog.bytesOf 53 = 32 by kernel_rfl] at this
      simp only [reachBytes] at this
      omega
  have hreach := bytes_reach hsz (j := 0) (t := 24) (e := 5) rfl rfl Try.underlying24 (by kernel_rfl) hd
  clear hA0 hval0 hsz0
  refine (codecReads_any v0 v1 l qs W hl has (by omega) (by omega)).mono fun e W' ⟨he, bel⟩ => ?_
  subst he
  exact ⟨_, rfl, _, _, _, [], _, [], hW', trodAll_mk1 (shut_bool Try.underlying4 _), trodAll_mk2 (Below.trod laidOut (by kernel_rfl) (of_decide_eq_true (by kernel_rfl)) h0 bel lt0) (Below.trod laidOut (by kernel_rfl) (of_decide_eq_true (by kernel_rfl)) h1 bel lt1), rfl, bel.frame _, fun h => by cases h⟩

end CodecReads

theorem codecReads_holds : Rows.CodecReadsSaid :=
  OpenClaim.holds_of_wide 5 Try.f5 rfl rfl rfl rfl rfl rfl rfl ⟨rfl, rfl, rfl, rfl, rfl⟩ rfl rfl rfl rfl rfl (by kernel_rfl) Try.func5 (by kernel_rfl)
    (of_decide_eq_true (by kernel_rfl)) (by unfold Func.isWrapper; first | (rw [if_pos (by decide +kernel)]; kernel_rfl) | (rw [if_neg (by decide +kernel)]; exact ⟨rfl, rfl⟩))
    (fun os started H enc _ => CodecReads.lifted os started H enc)
#print axioms codecReads_holds

end Go.Proofs.Ytmnajmlfioiboaa
