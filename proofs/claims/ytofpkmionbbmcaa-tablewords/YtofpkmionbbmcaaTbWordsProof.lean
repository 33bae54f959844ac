/- Proved: a table whose keys are texts holds what was put last, its keys rise, and it tells as many as there are. No condition. -/
import Derived.Test.YtofpkmionbbmcaaTbWords
import Derived.ProofKit
import Derived.Carry
namespace Go.Proofs.Ytofpkmionbbmcaa
open Go.ChangeShapes Go.WideShapes Go.ChangeAt Go.RowKit

namespace TableWords
theorem own : ownKnob Try.prog.godebug = none := by kernel_rfl
theorem laidOut : laidOutB Try.prog = true := by kernel_rfl

set_option maxRecDepth 100000 in
theorem lifted (os : Os) (started : os.Started) (H : Type) (enc : TypeId × Value → H) :
    ReturnsInHanded {} Try.checked os 5 .any (Rows.tableWordsSpec.pre6 enc Try.prog Try.f5 Rows.tableWordsRow.domain false) (Rows.tableWordsSpec.post enc Try.prog Try.f5 false true false false) := by
  refine returnsInHanded_of_change_sized (C := Try.checked) own started (by kernel_rfl) Try.func5
    (ChangeSpec.witness6 (enc := enc) (C := Try.checked) false ⟨#[], #[.slice none 0 0, .slice none 0 0], []⟩ 8 (by kernel_rfl) (by kernel_rfl) (by kernel_rfl) (by kernel_rfl)) ?_
  intro W base args ds gs before hval0 hW _ hsz0 _
  have hsz : (DataW.weightsEach Try.prog (Try.f5.params.toList ++ Rows.tableWordsSpec.plain.varTypes Try.prog) (ds ++ gs)).all (· ≤ reachBytes) = true := hsz0
  have hval : ∀ (j : Nat) t v, Try.f5.params[j]? = some t → args[j]? = some v → Value.okWide Try.prog W .any base t v := hval0
  have hW' := hW
  obtain ⟨p, q, hA0, hV, rfl, _, _⟩ := hW
  have hA : DataW.TrodAll enc Try.prog W 0 (fun _ => true) true Try.f5.params.toList args.toList ds p := hA0
  rw [Try.params5] at hA hval hsz
  obtain ⟨v0, v1, d0, d1, p0, p1, rfl, rfl, rfl, h0, h1⟩ := trodAll_two hA
  obtain ⟨rfl, rfl⟩ := trodVars_none hV
  have lt0 : ∀ x ∈ p0, x.block < W.heap.size := by obtain ⟨m, hm⟩ := h0; exact DataW.trod_lt m _ _ _ hm
  have lt1 : ∀ x ∈ p1, x.block < W.heap.size := by obtain ⟨m, hm⟩ := h1; exact DataW.trod_lt m _ _ _ hm
  obtain ⟨ks, hs0, hR0, hd0⟩ := open_ws 1 (by omega) cStr _ Try.underlying33 (by kernel_rfl) (ews_str Try.underlying9) (okWide_slice Try.underlying33 (hval 0 33 v0 rfl rfl)) h0
  have hreach0 := len_reach (c := 16) hsz (j := 0) (t := 33) (e := 9) rfl rfl Try.underlying33 (by kernel_rfl) hd0
  obtain ⟨xs, hs1, hR1, hd1⟩ := open_ws 1 (by omega) cInt _ Try.underlying45 (by kernel_rfl) (ews_int Try.underlying3) (okWide_slice Try.underlying45 (hval 1 45 v1 rfl rfl)) h1
  have hreach1 := len_reach (c := 8) hsz (j := 1) (t := 45) (e := 3) rfl rfl Try.underlying45 (by kernel_rfl) hd1
  clear hA0 hval0 hsz0
  refine (tableWords_any ks xs v0 v1 W hs0 hs1).mono fun e W' ⟨he, bel⟩ => ?_
  subst he
  exact ⟨_, rfl, _, _, _, [], _, [], hW', trodAll_mk1 (shut_bool Try.underlying4 _), trodAll_mk2 (Below.trod laidOut (by kernel_rfl) (of_decide_eq_true (by kernel_rfl)) h0 bel lt0) (Below.trod laidOut (by kernel_rfl) (of_decide_eq_true (by kernel_rfl)) h1 bel lt1), rfl, bel.frame _, fun h => by cases h⟩

end TableWords

theorem tableWords_holds : Rows.TableWordsSaid :=
  OpenClaim.holds_of_wide 5 Try.f5 rfl rfl rfl rfl rfl rfl rfl ⟨rfl, rfl, rfl, rfl, rfl⟩ rfl rfl rfl rfl rfl (by kernel_rfl) Try.func5 (by kernel_rfl)
    (of_decide_eq_true (by kernel_rfl)) (by unfold Func.isWrapper; first | (rw [if_pos (by decide +kernel)]; kernel_rfl) | (rw [if_neg (by decide +kernel)]; exact ⟨rfl, rfl⟩))
    (fun os started H enc _ => TableWords.lifted os started H enc)
#print axioms tableWords_holds

end Go.Proofs.Ytofpkmionbbmcaa
