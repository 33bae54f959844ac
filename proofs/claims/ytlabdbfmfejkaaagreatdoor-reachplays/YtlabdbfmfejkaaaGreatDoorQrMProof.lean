/- Proved: the reacher and the plain one, begun alike and stepped alike beside alike writes into the heaps, say alike whether something was left, tell like rows, and rows once told may be written over -/
import Derived.Test.YtlabdbfmfejkaaaGreatDoorQrM
import Derived.Test.YtlabdbfmfejkaaaGreatDoorWsl
import Derived.Test.YtlabdbfmfejkaaaGreatDoorArL
import Derived.ProofKit
import Derived.Carry
import Derived.Test.YtlabdbfmfejkaaaGreatDoorCards
import Derived.Test.YtlabdbfmfejkaaaGreatDoorTie
import Derived.SevenTiedAt
namespace Go.Proofs.YtlabdbfmfejkaaaGreatDoor
open Go.ChangeShapes Go.WideShapes Go.ChangeAt Go.RowKit

namespace ReachPlays
theorem own : ownKnob Tryz.prog.godebug = none := by kernel_rfl
theorem laidOut : laidOutB Tryz.prog = true := by kernel_rfl

set_option maxRecDepth 100000 in
theorem lifted (os : Os) (started : os.Started) (H : Type) (enc : TypeId × Value → H) :
    ReturnsInHanded {} Tryz.checked os 3 .any (fun w args => (Rows.reachPlaysSpec.pre enc Tryz.prog Tryz.f3 [] false w args ∧ laidMetH Tryz.prog laidL w) ∧ sizedMet enc Tryz.prog Tryz.f3 (OpenSpec.ofChange Rows.reachPlaysSpec) false w args)
      (Rows.reachPlaysSpec.post enc Tryz.prog Tryz.f3 false true false false) := by
  refine returnsInHanded_of_change_and (C := Tryz.checked) (X := fun w _ => laidMetH Tryz.prog laidL w) (fun _ _ _ hh h => h.of_heap hh) own started (by kernel_rfl) Tryz.func3
    (ChangeSpec.witness_shaped (enc := enc) (C := Tryz.checked) (os := os) (X := fun w _ => laidMetH Tryz.prog laidL w) false (World.doorLaid Tryz.prog 400 os) #[.agg #[.slice none 0 0, .slice none 0 0, .slice none 0 0], .slice none 0 0, .int .i64 0, .slice none 0 0] 8 rfl (World.shaped_of_RefB (by kernel_rfl) (by kernel_rfl)) (by kernel_rfl) (by kernel_rfl) (by kernel_rfl) (door_met os _)) ?_
  intro W base args ds gs before hval0 hW _ hsz0 hL _
  have hsz : (DataW.weightsEach Tryz.prog (Tryz.f3.params.toList ++ Rows.reachPlaysSpec.plain.varTypes Tryz.prog) (ds ++ gs)).all (· ≤ reachBytes) = true := hsz0
  have hval : ∀ (j : Nat) t v, Tryz.f3.params[j]? = some t → args[j]? = some v → Value.okWide Tryz.prog W .any base t v := hval0
  have hW' := hW
  obtain ⟨p, q, hA0, hV, rfl, _, _⟩ := hW
  have hA : DataW.TrodAll enc Tryz.prog W 0 (fun _ => true) true Tryz.f3.params.toList args.toList ds p := hA0
  rw [Tryz.params3] at hA hval hsz
  obtain ⟨v0, v1, v2, v3, d0, d1, d2, d3, p0, p1, p2, p3, rfl, rfl, rfl, h0, h1, h2, h3⟩ := trodAll_four hA
  obtain ⟨rfl, rfl⟩ := trodVars_none hV
  have lt0 : ∀ x ∈ p0, x.block < W.heap.size := by obtain ⟨m, hm⟩ := h0; exact DataW.trod_lt m _ _ _ hm
  have lt1 : ∀ x ∈ p1, x.block < W.heap.size := by obtain ⟨m, hm⟩ := h1; exact DataW.trod_lt m _ _ _ hm
  have lt2 : ∀ x ∈ p2, x.block < W.heap.size := by obtain ⟨m, hm⟩ := h2; exact DataW.trod_lt m _ _ _ hm
  have lt3 : ∀ x ∈ p3, x.block < W.heap.size := by obtain ⟨m, hm⟩ := h3; exact DataW.trod_lt m _ _ _ hm
  obtain ⟨vr, vo, vi, g, rfl, hgi⟩ := open_graph ((okWide_struct Tryz.underlying26 (hval 0 26 v0 rfl rfl)).imp (fun _ h => h.1)) h0
  obtain ⟨xs, hs1, hR1, hd1⟩ := open_ws 5 (by omega) cWay _ Tryz.underlying27 (by kernel_rfl) ews_way (okWide_slice Tryz.underlying27 (hval 1 27 v1 rfl rfl)) h1
  have hreach1 := len_reach (c := 40) hsz (j := 1) (t := 27) (e := 57) rfl rfl Tryz.underlying27 (by kernel_rfl) hd1
  obtain ⟨x, rfl, hde2, hpe2, w2⟩ := open_int Tryz.underlying3 (hval 2 3 v2 rfl rfl) h2
  obtain ⟨zs, hs3, hR3, hd3⟩ := open_ws 5 (by omega) cWay _ Tryz.underlying27 (by kernel_rfl) ews_way (okWide_slice Tryz.underlying27 (hval 3 27 v3 rfl rfl)) h3
  have hreach3 := len_reach (c := 40) hsz (j := 3) (t := 27) (e := 57) rfl rfl Tryz.underlying27 (by kernel_rfl) hd3
  clear hA0 hval0 hsz0
  refine (reachPlays_any x hgi (of_laid hL) hs1 hR1 hs3 hR3).mono fun e W' ⟨he, bel⟩ => ?_
  subst he
  exact ⟨_, rfl, _, _, _, [], _, [], hW', trodAll_mk1 (shut_bool Tryz.underlying4 _), trodAll_mk4 (Below.trod laidOut (by kernel_rfl) (of_decide_eq_true (by kernel_rfl)) h0 bel lt0) (Below.trod laidOut (by kernel_rfl) (of_decide_eq_true (by kernel_rfl)) h1 bel lt1) (Below.trod laidOut (by kernel_rfl) (of_decide_eq_true (by kernel_rfl)) h2 bel lt2) (Below.trod laidOut (by kernel_rfl) (of_decide_eq_true (by kernel_rfl)) h3 bel lt3), rfl, bel.frame _, fun h => by cases h⟩

end ReachPlays

theorem reachPlays_row : Rows.ReachPlaysSaid :=
  OpenClaim.holds_of_wide 3 Tryz.f3 rfl rfl rfl rfl rfl rfl rfl ⟨rfl, rfl, rfl, rfl, rfl⟩ rfl rfl rfl rfl rfl (by kernel_rfl) Tryz.func3 (by kernel_rfl)
    (of_decide_eq_true (by kernel_rfl)) (by unfold Func.isWrapper; first | (rw [if_pos (by decide +kernel)]; kernel_rfl) | (rw [if_neg (by decide +kernel)]; exact ⟨rfl, rfl⟩))
    (fun os started H enc _ => ReachPlays.lifted os started H enc)

theorem reachPlays_holds : Rows.ReachPlaysCardSaid :=
  Claim7.holds_tied_plain_at .later [] [.data] true (true, "d7b0ff1d38fb2cd9594dfd86cd44216befd1d82f1c149532253d641a3eb8e25e") false
    reachPlays_row (fun _ h => by cases h) (by kernel_rfl) (fun _ h => by cases h) reachPlays_row_tie rfl ⟨rfl, rfl⟩ (by kernel_rfl) rfl
    (fun f fn hf hfn => by
      obtain rfl : f = 3 := Option.some.inj ((show Tryz.prog.funcNamed "mooring/mooringlaw14.ReachPlays" = some 3 by kernel_rfl).symm.trans hf) |>.symm
      obtain rfl : fn = Tryz.f3 := (Option.some.inj (Tryz.func3.symm.trans hfn)).symm
      exact ⟨by kernel_rfl, fun j t ht => by
        rw [Tryz.params3] at ht
        have hm : t ∈ ([26, 27, 3, 27] : List TypeId) := by simpa using Array.mem_of_getElem? ht
        have hall : (([26, 27, 3, 27] : List TypeId).all fun u => !Tryz.prog.wantsStandIn u) = true := by kernel_rfl
        exact (show Tryz.prog.wantsStandIn t = false by simpa using List.all_eq_true.1 hall t hm)⟩)
    (by kernel_rfl)
#print axioms reachPlays_holds

end Go.Proofs.YtlabdbfmfejkaaaGreatDoor
