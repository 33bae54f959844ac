/-
  DERIVED. GIVEN WITH THE SEED: THE CARDS: each row of YtlabdbfmfejkaaaGreatDoorRows.lean that lists a variable, with what it lists TIED to the program's text (the seventh form; the later family's looks); each row that meets fmt, with fmt's text TOLD by the authors' own Lean function (tested against real Go, not proved from fmt's source: count such statements apart). THE CARD IS WHAT COUNTS. Prove the row's statement (the work); the ties are given (YtlabdbfmfejkaaaGreatDoorTie.lean); close each card by the builder's one call (the guide's Derived/Test/ToyasCard.lean, 'card_holds'). Laid BY PROGRAM, IN A SANDBOX (cutbox-door.mjs). By AI agents, Wed Nov 11 2026. No macro, syntax, notation, axiom, sorry.
-/
import Derived.Test.YtlabdbfmfejkaaaGreatDoorRows
import GoSem.ClaimSeven
namespace Go.Proofs.YtlabdbfmfejkaaaGreatDoor
namespace Rows

/-- THE TIED CARD OF 'mooringlaw14.ReachPlays'. -/
def reachPlaysCard : Claim7 := { stood := { row := reachPlaysRow, standIns := [], harness := (true, "d7b0ff1d38fb2cd9594dfd86cd44216befd1d82f1c149532253d641a3eb8e25e"), looks := false }, kinds := [], alts := [], laidByText := true, laidKinds := [.data], laidTests := true, laidLooks := .later }
def ReachPlaysCardSaid : Prop := Claim7.holds Tryz.pinned (.plain (OpenSpec.ofChange reachPlaysSpec)) reachPlaysCard

/-- THE SECOND FORM's CARD OF 'mooringlaw14.ReachPlays'. -/
def reachPlaysUptoCard : Claim7 := { stood := { row := reachPlaysUptoRow, standIns := [], harness := (true, "d7b0ff1d38fb2cd9594dfd86cd44216befd1d82f1c149532253d641a3eb8e25e"), looks := false }, kinds := [], alts := [], laidByText := true, laidKinds := [.data], laidTests := true, laidLooks := .later }
def ReachPlaysUptoCardSaid : Prop := Claim7.holds Tryz.pinned (.plain (OpenSpec.upto reachPlaysSpec)) reachPlaysUptoCard
end Rows
end Go.Proofs.YtlabdbfmfejkaaaGreatDoor
