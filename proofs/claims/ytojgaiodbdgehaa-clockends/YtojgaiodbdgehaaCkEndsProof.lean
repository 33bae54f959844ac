/- Proved: near its end a clock goes on as far as it may, and no further; what is refused changes nothing. No condition. -/
import Derived.Test.YtojgaiodbdgehaaCkEnds
import Derived.Test.YtojgaiodbdgehaaCkOpen
import Derived.ProofKit
import Derived.Carry
namespace Go.Proofs.Ytojgaiodbdgehaa
open Go.ChangeShapes Go.WideShapes Go.ChangeAt Go.RowKit

namespace ClockEnds
theorem own : ownKnob Try.prog.godebug = none := by kernel_rfl
theorem laidOut : laidOutB Try.prog = true := by kernel_rfl

set_option maxRecDepth 100000 in
theorem lifted (os : Os) (started : os.Started) (H : Type) (enc : TypeId × Value → H) :
    ReturnsInHanded {} Try.checked os 5 .any (Rows.clockEndsSpec.pre6 enc Try.prog Try.f5 Rows.clockEndsRow.domain false) (Rows.clockEndsSpec.post enc Try.prog Try.f5 false true false false) := by
  refine returnsInHanded_of_change_sized (C := Try.checked) own started (by kernel_rfl) Try.func5
    (ChangeSpec.witness6 (enc := enc) (C := Try.checked) false ⟨#[], #[.int .u32 0, .slice none 0 0], []⟩ 8 (by kernel_rfl) (by kernel_rfl) (by kernel_rfl) (by kernel_rfl)) ?_
  intro W base args ds gs before hval0 hW _ hsz0 _
  have hsz : (DataW.weightsEach Try.prog (Try.f5.params.toList ++ Rows.clockEndsSpec.plain.varTypes Try.prog) (ds ++ gs)).all (· ≤ reachBytes) = true := hsz0
  have hval : ∀ (j : Nat) t v, Try.f5.params[j]? = some t → args[j]? = some v → Value.okWide Try.prog W .any base t v := hval0
  have hW' := hW
  obtain ⟨p, q, hA0, hV, rfl, _, _⟩ := hW
  have hA : DataW.TrodAll enc Try.prog W 0 (fun _ => true) true Try.f5.params.toList args.toList ds p := hA0
  rw [Try.params5] at hA hval hsz
  obtain ⟨v0, v1, d0, d1, p0, p1, rfl, rfl, rfl, h0, h1⟩ := trodAll_two hA
  obtain ⟨rfl, rfl⟩ := trodVars_none hV
  have lt0 : ∀ x ∈ p0, x.block < W.heap.size := by obtain ⟨m, hm⟩ := h0; exact DataW.trod_lt m _ _ _ hm
  have lt1 : ∀ x ∈ p1, x.block < W.heap.size := by obtain ⟨m, hm⟩ := h1; exact DataW.trod_lt m _ _ _ hm
  obtain ⟨a, rfl, hb0⟩ := open_nat (K := .u32) rfl Try.underlying34 (hval 0 34 v0 rfl rfl) h0
  have hm0 : IntKind.u32.max = 4294967295 := rfl
  have hn0 : a < 4294967296 := by omega
  obtain ⟨l, hs1, hx1, hd1⟩ := open_ns (K := .u32) rfl Try.underlying35 Try.underlying34 (by kernel_rfl) (okWide_slice Try.underlying35 (hval 1 35 v1 rfl rfl)) h1 lt1
  have hreach1 := ns_reach (c := 4) hsz (j := 1) (t := 35) (e := 34) rfl rfl Try.underlying35 (by kernel_rfl) hd1
  clear hA0 hval0 hsz0
  refine (clockEnds_any a v1 l W hn0 hs1 (fun x hx => by have := hx1 x hx; have e : IntKind.u32.max = 4294967295 := rfl; omega) (by omega)).mono fun e W' ⟨he, bel⟩ => ?_
  subst he
  exact ⟨_, rfl, _, _, _, [], _, [], hW', trodAll_mk1 (shut_bool Try.underlying4 _), trodAll_mk2 (Below.trod laidOut (by kernel_rfl) (of_decide_eq_true (by kernel_rfl)) h0 bel lt0) (Below.trod laidOut (by kernel_rfl) (of_decide_eq_true (by kernel_rfl)) h1 bel lt1), rfl, bel.frame _, fun h => by cases h⟩

end ClockEnds

theorem clockEnds_holds : Rows.ClockEndsSaid :=
  OpenClaim.holds_of_wide 5 Try.f5 rfl rfl rfl rfl rfl rfl rfl ⟨rfl, rfl, rfl, rfl, rfl⟩ rfl rfl rfl rfl rfl (by kernel_rfl) Try.func5 (by kernel_rfl)
    (of_decide_eq_true (by kernel_rfl)) (by unfold Func.isWrapper; first | (rw [if_pos (by decide +kernel)]; kernel_rfl) | (rw [if_neg (by decide +kernel)]; exact ⟨rfl, rfl⟩))
    (fun os started H enc _ => ClockEnds.lifted os started H enc)
#print axioms clockEnds_holds

end Go.Proofs.Ytojgaiodbdgehaa
