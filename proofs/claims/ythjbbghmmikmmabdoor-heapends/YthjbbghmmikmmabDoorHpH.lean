/- SetVal, SetIn, SetRef. -/
import Derived.Test.YthjbbghmmikmmabDoorHpG
import Derived.Deep.QuietTactic
import Derived.BigQuiet
namespace Go.Proofs.YthjbbghmmikmmabDoor
open Go.RowKit

theorem hBl_mb {hb ab mb : Nat} {L : List Pl} : mb ∈ hBl hb ab mb L := by simp [hBl]
theorem kept_vb {w w' : World} {hb ab mb : Nat} {L : List Pl} {k0 : Nat} (hk : Kept w w' (fun k => k = k0)) (h : k0 ∈ hBl hb ab mb L) : Kept w w' (fun k => k ∈ hBl hb ab mb L) :=
  hk.mono (fun k _ e => by have e' : k = k0 := e; rw [e']; exact h)

theorem pick_fn {α β : Type} {p : α → β → Prop} (h : ∀ a, ∃ b, p a b) : ∃ f : α → β, ∀ a, p a (f a) := ⟨fun a => Classical.choose (h a), fun a => Classical.choose_spec (h a)⟩

section
variable {w : World} {hb ab mb : Nat} {h : HSt} {L : List Pl}

end

end Go.Proofs.YthjbbghmmikmmabDoor
