/- Proved: what is past stays so, and is past for each lesser span. No condition. -/
import Derived.Test.YtojgaiodbdgehabCkStays
import Derived.Test.YtojgaiodbdgehabCkOpenN
import Derived.ProofKit
import Derived.Carry
namespace Go.Proofs.Ytojgaiodbdgehab
open Go.ChangeShapes Go.WideShapes Go.ChangeAt Go.RowKit

namespace ClockStays
theorem own : ownKnob Try.prog.godebug = none := by kernel_rfl
theorem laidOut : laidOutB Try.prog = true := by kernel_rfl

set_option maxRecDepth 100000 in
theorem lifted (os : Os) (started : os.Started) (H : Type) (enc : TypeId × Value → H) :
    ReturnsInHanded {} Try.checked os 3 .any (Rows.clockStaysSpec.pre6 enc Try.prog Try.f3 Rows.clockStaysRow.domain false) (Rows.clockStaysSpec.post enc Try.prog Try.f3 false true false false) := by
  refine returnsInHanded_of_change_sized (C := Try.checked) own started (by kernel_rfl) Try.func3
    (ChangeSpec.witness6 (enc := enc) (C := Try.checked) false ⟨#[], #[.int .u64 0, .int .u64 0, .int .u64 0, .int .u64 0], []⟩ 8 (by kernel_rfl) (by kernel_rfl) (by kernel_rfl) (by kernel_rfl)) ?_
  intro W base args ds gs before hval0 hW _ hsz0 _
  have hsz : (DataW.weightsEach Try.prog (Try.f3.params.toList ++ Rows.clockStaysSpec.plain.varTypes Try.prog) (ds ++ gs)).all (· ≤ reachBytes) = true := hsz0
  have hval : ∀ (j : Nat) t v, Try.f3.params[j]? = some t → args[j]? = some v → Value.okWide Try.prog W .any base t v := hval0
  have hW' := hW
  obtain ⟨p, q, hA0, hV, rfl, _, _⟩ := hW
  have hA : DataW.TrodAll enc Try.prog W 0 (fun _ => true) true Try.f3.params.toList args.toList ds p := hA0
  rw [Try.params3] at hA hval hsz
  obtain ⟨v0, v1, v2, v3, d0, d1, d2, d3, p0, p1, p2, p3, rfl, rfl, rfl, h0, h1, h2, h3⟩ := trodAll_four hA
  obtain ⟨rfl, rfl⟩ := trodVars_none hV
  have lt0 : ∀ x ∈ p0, x.block < W.heap.size := by obtain ⟨m, hm⟩ := h0; exact DataW.trod_lt m _ _ _ hm
  have lt1 : ∀ x ∈ p1, x.block < W.heap.size := by obtain ⟨m, hm⟩ := h1; exact DataW.trod_lt m _ _ _ hm
  have lt2 : ∀ x ∈ p2, x.block < W.heap.size := by obtain ⟨m, hm⟩ := h2; exact DataW.trod_lt m _ _ _ hm
  have lt3 : ∀ x ∈ p3, x.block < W.heap.size := by obtain ⟨m, hm⟩ := h3; exact DataW.trod_lt m _ _ _ hm
  obtain ⟨a, rfl, hb0⟩ := open_nat (K := .u64) rfl Try.underlying22 (hval 0 22 v0 rfl rfl) h0
  have hm0 : IntKind.u64.max = 18446744073709551615 := rfl
  have hn0 : a < 18446744073709551616 := by omega
  obtain ⟨s, rfl, hb1⟩ := open_nat (K := .u64) rfl Try.underlying22 (hval 1 22 v1 rfl rfl) h1
  have hm1 : IntKind.u64.max = 18446744073709551615 := rfl
  have hn1 : s < 18446744073709551616 := by omega
  obtain ⟨n, rfl, hb2⟩ := open_nat (K := .u64) rfl Try.underlying22 (hval 2 22 v2 rfl rfl) h2
  have hm2 : IntKind.u64.max = 18446744073709551615 := rfl
  have hn2 : n < 18446744073709551616 := by omega
  obtain ⟨m, rfl, hb3⟩ := open_nat (K := .u64) rfl Try.underlying22 (hval 3 22 v3 rfl rfl) h3
  have hm3 : IntKind.u64.max = 18446744073709551615 := rfl
  have hn3 : m < 18446744073709551616 := by omega
  clear hA0 hval0 hsz0
  refine (clockStays_any a s n m hn1 hn2 hn3 W).mono fun e W' ⟨he, bel⟩ => ?_
  subst he
  exact ⟨_, rfl, _, _, _, [], _, [], hW', trodAll_mk1 (shut_bool Try.underlying4 _), trodAll_mk4 (Below.trod laidOut (by kernel_rfl) (of_decide_eq_true (by kernel_rfl)) h0 bel lt0) (Below.trod laidOut (by kernel_rfl) (of_decide_eq_true (by kernel_rfl)) h1 bel lt1) (Below.trod laidOut (by kernel_rfl) (of_decide_eq_true (by kernel_rfl)) h2 bel lt2) (Below.trod laidOut (by kernel_rfl) (of_decide_eq_true (by kernel_rfl)) h3 bel lt3), rfl, bel.frame _, fun h => by cases h⟩

end ClockStays

theorem clockStays_holds : Rows.ClockStaysSaid :=
  OpenClaim.holds_of_wide 3 Try.f3 rfl rfl rfl rfl rfl rfl rfl ⟨rfl, rfl, rfl, rfl, rfl⟩ rfl rfl rfl rfl rfl (by kernel_rfl) Try.func3 (by kernel_rfl)
    (of_decide_eq_true (by kernel_rfl)) (by unfold Func.isWrapper; first | (rw [if_pos (by decide +kernel)]; kernel_rfl) | (rw [if_neg (by decide +kernel)]; exact ⟨rfl, rfl⟩))
    (fun os started H enc _ => ClockStays.lifted os started H enc)
#print axioms clockStays_holds

end Go.Proofs.Ytojgaiodbdgehab
