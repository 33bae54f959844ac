/- The law's own example. -/
import Derived.Test.YtofpkmionbbmcaaTbTUS
namespace Go.Proofs.Ytofpkmionbbmcaa
open Go.RowKit

set_option maxRecDepth 20000 in
set_option maxHeartbeats 1000000 in
theorem tknown_any (w : World) : Calls Try.prog 11 #[] w fun e w' => e = .returned (.bool true) ∧ Below w.heap.size w w' := by
  go_enter Try.func11, Try.ntmps11
  go_wp2_with fail
  refine (onewUS w.heap.size 2 (by omega) (by omega) w w (Below.refl _ _) (Nat.le_refl _)).mono ?_
  rintro e w1 ⟨rfl, h1, _⟩
  generalize hB : w.heap.size = B at *
  go_wp2_with fail
  refine (oputUS B w w1 B 2 [] 5 ⟨#[97]⟩ h1).mono ?_
  rintro e w2 ⟨rfl, h2⟩
  have e2 : putB ltN 2 ([] : List (Nat × ByteArray)) 5 = true := by decide
  have g2 : putE ltN 2 ([] : List (Nat × ByteArray)) 5 ⟨#[97]⟩ = [(5, ⟨#[97]⟩)] := by rfl
  rw [e2]
  rw [g2] at h2
  clear h1 e2 g2
  go_wp2_with fail
  refine (oputUS B w w2 B 2 _ 3 ⟨#[98]⟩ h2).mono ?_
  rintro e w3 ⟨rfl, h3⟩
  have e2 : putB ltN 2 [(5, (⟨#[97]⟩ : ByteArray))] 3 = true := by decide
  have g2 : putE ltN 2 [(5, (⟨#[97]⟩ : ByteArray))] 3 ⟨#[98]⟩ = [(3, ⟨#[98]⟩), (5, ⟨#[97]⟩)] := by rfl
  rw [e2]
  rw [g2] at h3
  clear h2 e2 g2
  go_wp2_with fail
  refine (oputUS B w w3 B 2 _ 9 ⟨#[99]⟩ h3).mono ?_
  rintro e w4 ⟨rfl, h4⟩
  have e2 : putB ltN 2 [(3, (⟨#[98]⟩ : ByteArray)), (5, ⟨#[97]⟩)] 9 = false := by decide
  have g2 : putE ltN 2 [(3, (⟨#[98]⟩ : ByteArray)), (5, ⟨#[97]⟩)] 9 ⟨#[99]⟩ = [(3, ⟨#[98]⟩), (5, ⟨#[97]⟩)] := by rfl
  rw [e2]
  rw [g2] at h4
  clear h3 e2 g2
  go_wp2_with fail
  refine (oputUS B w w4 B 2 _ 5 ⟨#[100]⟩ h4).mono ?_
  rintro e w5 ⟨rfl, h5⟩
  have e2 : putB ltN 2 [(3, (⟨#[98]⟩ : ByteArray)), (5, ⟨#[97]⟩)] 5 = true := by decide
  have g2 : putE ltN 2 [(3, (⟨#[98]⟩ : ByteArray)), (5, ⟨#[97]⟩)] 5 ⟨#[100]⟩ = [(3, ⟨#[98]⟩), (5, ⟨#[100]⟩)] := by rfl
  rw [e2]
  rw [g2] at h5
  clear h4 e2 g2
  go_wp2_with fail
  refine (ogetUS B w w5 B 2 _ 5 h5).mono ?_
  rintro e w6 ⟨rfl, q, rfl⟩
  have e2 : ovVUS (getE ltN [(3, (⟨#[98]⟩ : ByteArray)), (5, ⟨#[100]⟩)] 5) = .tuple #[.string ⟨#[100]⟩, .bool true] := by rfl
  rw [e2]
  have h6 := h5.drewN q
  clear h5 e2
  generalize w5.drewN q = w6 at *
  go_wp2_with fail
  refine (onextUS B w w6 B 2 _ 3 h6).mono ?_
  rintro e w7 ⟨rfl, q7, rfl⟩
  have e2 : okVUS (nextE ltN [(3, (⟨#[98]⟩ : ByteArray)), (5, ⟨#[100]⟩)] 3) = .tuple #[.int .u64 5, .bool true] := by rfl
  rw [e2]
  have h7 := (h6.drewN q7).bel
  clear h6 e2
  generalize w6.drewN q7 = w7 at *
  go_wp2
  go_ret
  exact ⟨rfl, by rw [hB]; exact h7⟩

end Go.Proofs.Ytofpkmionbbmcaa
