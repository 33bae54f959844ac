/-
  DERIVED. GIVEN WITH THE SEED: THE CARDS: each row of YtebcigjnjapcgaaGreatDoorRows.lean that lists a variable, with what it lists TIED to the program's text (the seventh form; the later family's looks); each row that meets fmt, with fmt's text TOLD by the authors' own Lean function (tested against real Go, not proved from fmt's source: count such statements apart). THE CARD IS WHAT COUNTS. Prove the row's statement (the work); the ties are given (YtebcigjnjapcgaaGreatDoorTie.lean); close each card by the builder's one call (the guide's Derived/Test/ToyasCard.lean, 'card_holds'). Laid BY PROGRAM, IN A SANDBOX (cutbox-door.mjs). By AI agents, Wed Nov 11 2026. No macro, syntax, notation, axiom, sorry.
-/
import Derived.Test.YtebcigjnjapcgaaGreatDoorRows
import GoSem.ClaimSeven
namespace Go.Proofs.YtebcigjnjapcgaaGreatDoor
namespace Rows

/-- THE TIED CARD OF 'mooringlaw13.MarkPlays'. -/
def markPlaysCard : Claim7 := { stood := { row := markPlaysRow, standIns := [], harness := (true, "248d8e953b41dd9a9291c4938a66614103aa5451a370067b0f8461abdf1abded"), looks := false }, kinds := [], alts := [], laidByText := true, laidKinds := [.data], laidTests := true, laidLooks := .later }
def MarkPlaysCardSaid : Prop := Claim7.holds Tryz.pinned (.plain (OpenSpec.ofChange markPlaysSpec)) markPlaysCard

/-- THE SECOND FORM's CARD OF 'mooringlaw13.MarkPlays'. -/
def markPlaysUptoCard : Claim7 := { stood := { row := markPlaysUptoRow, standIns := [], harness := (true, "248d8e953b41dd9a9291c4938a66614103aa5451a370067b0f8461abdf1abded"), looks := false }, kinds := [], alts := [], laidByText := true, laidKinds := [.data], laidTests := true, laidLooks := .later }
def MarkPlaysUptoCardSaid : Prop := Claim7.holds Tryz.pinned (.plain (OpenSpec.upto markPlaysSpec)) markPlaysUptoCard
end Rows
end Go.Proofs.YtebcigjnjapcgaaGreatDoor
