/- Proved: which ticks lie within which drift is as the document says, of any numbers. No condition. -/
import Derived.Test.YtojgaiodbdgehaaCkFair
import Derived.Test.YtojgaiodbdgehaaCkOpen
import Derived.ProofKit
import Derived.Carry
namespace Go.Proofs.Ytojgaiodbdgehaa
open Go.ChangeShapes Go.WideShapes Go.ChangeAt Go.RowKit

namespace ClockFair
theorem own : ownKnob Try.prog.godebug = none := by kernel_rfl
theorem laidOut : laidOutB Try.prog = true := by kernel_rfl

set_option maxRecDepth 100000 in
theorem lifted (os : Os) (started : os.Started) (H : Type) (enc : TypeId × Value → H) :
    ReturnsInHanded {} Try.checked os 7 .any (Rows.clockFairSpec.pre6 enc Try.prog Try.f7 Rows.clockFairRow.domain false) (Rows.clockFairSpec.post enc Try.prog Try.f7 false true false false) := by
  refine returnsInHanded_of_change_sized (C := Try.checked) own started (by kernel_rfl) Try.func7
    (ChangeSpec.witness6 (enc := enc) (C := Try.checked) false ⟨#[], #[.int .u64 0, .int .u64 0, .slice none 0 0], []⟩ 8 (by kernel_rfl) (by kernel_rfl) (by kernel_rfl) (by kernel_rfl)) ?_
  intro W base args ds gs before hval0 hW _ hsz0 _
  have hsz : (DataW.weightsEach Try.prog (Try.f7.params.toList ++ Rows.clockFairSpec.plain.varTypes Try.prog) (ds ++ gs)).all (· ≤ reachBytes) = true := hsz0
  have hval : ∀ (j : Nat) t v, Try.f7.params[j]? = some t → args[j]? = some v → Value.okWide Try.prog W .any base t v := hval0
  have hW' := hW
  obtain ⟨p, q, hA0, hV, rfl, _, _⟩ := hW
  have hA : DataW.TrodAll enc Try.prog W 0 (fun _ => true) true Try.f7.params.toList args.toList ds p := hA0
  rw [Try.params7] at hA hval hsz
  obtain ⟨v0, v1, v2, d0, d1, d2, p0, p1, p2, rfl, rfl, rfl, h0, h1, h2⟩ := trodAll_three hA
  obtain ⟨rfl, rfl⟩ := trodVars_none hV
  have lt0 : ∀ x ∈ p0, x.block < W.heap.size := by obtain ⟨m, hm⟩ := h0; exact DataW.trod_lt m _ _ _ hm
  have lt1 : ∀ x ∈ p1, x.block < W.heap.size := by obtain ⟨m, hm⟩ := h1; exact DataW.trod_lt m _ _ _ hm
  have lt2 : ∀ x ∈ p2, x.block < W.heap.size := by obtain ⟨m, hm⟩ := h2; exact DataW.trod_lt m _ _ _ hm
  obtain ⟨u, rfl, hb0⟩ := open_nat (K := .u64) rfl Try.underlying26 (hval 0 26 v0 rfl rfl) h0
  have hm0 : IntKind.u64.max = 18446744073709551615 := rfl
  have hn0 : u < 18446744073709551616 := by omega
  obtain ⟨d, rfl, hb1⟩ := open_nat (K := .u64) rfl Try.underlying26 (hval 1 26 v1 rfl rfl) h1
  have hm1 : IntKind.u64.max = 18446744073709551615 := rfl
  have hn1 : d < 18446744073709551616 := by omega
  obtain ⟨l, hs2, hx2, hd2⟩ := open_ns (K := .u64) rfl Try.underlying31 Try.underlying26 (by kernel_rfl) (okWide_slice Try.underlying31 (hval 2 31 v2 rfl rfl)) h2 lt2
  have hreach2 := ns_reach (c := 8) hsz (j := 2) (t := 31) (e := 26) rfl rfl Try.underlying31 (by kernel_rfl) hd2
  clear hA0 hval0 hsz0
  refine (clockFair_any u d v2 l W hs2 (by omega)).mono fun e W' ⟨he, bel⟩ => ?_
  subst he
  exact ⟨_, rfl, _, _, _, [], _, [], hW', trodAll_mk1 (shut_bool Try.underlying4 _), trodAll_mk3 (Below.trod laidOut (by kernel_rfl) (of_decide_eq_true (by kernel_rfl)) h0 bel lt0) (Below.trod laidOut (by kernel_rfl) (of_decide_eq_true (by kernel_rfl)) h1 bel lt1) (Below.trod laidOut (by kernel_rfl) (of_decide_eq_true (by kernel_rfl)) h2 bel lt2), rfl, bel.frame _, fun h => by cases h⟩

end ClockFair

theorem clockFair_holds : Rows.ClockFairSaid :=
  OpenClaim.holds_of_wide 7 Try.f7 rfl rfl rfl rfl rfl rfl rfl ⟨rfl, rfl, rfl, rfl, rfl⟩ rfl rfl rfl rfl rfl (by kernel_rfl) Try.func7 (by kernel_rfl)
    (of_decide_eq_true (by kernel_rfl)) (by unfold Func.isWrapper; first | (rw [if_pos (by decide +kernel)]; kernel_rfl) | (rw [if_neg (by decide +kernel)]; exact ⟨rfl, rfl⟩))
    (fun os started H enc _ => ClockFair.lifted os started H enc)
#print axioms clockFair_holds

end Go.Proofs.Ytojgaiodbdgehaa
