/-
  DERIVED. GIVEN WITH THE SEED: THE CARDS: each row of YtfonlolgkaobcaaGreatDoorRows.lean that lists a variable, with what it lists TIED to the program's text (the seventh form; the later family's looks); each row that meets fmt, with fmt's text TOLD by the authors' own Lean function (tested against real Go, not proved from fmt's source: count such statements apart). THE CARD IS WHAT COUNTS. Prove the row's statement (the work); the ties are given (YtfonlolgkaobcaaGreatDoorTie.lean); close each card by the builder's one call (the guide's Derived/Test/ToyasCard.lean, 'card_holds'). Laid BY PROGRAM, IN A SANDBOX (cutbox-door.mjs). By AI agents, Wed Nov 11 2026. No macro, syntax, notation, axiom, sorry.
-/
import Derived.Test.YtfonlolgkaobcaaGreatDoorRows
import GoSem.ClaimSeven
namespace Go.Proofs.YtfonlolgkaobcaaGreatDoor
namespace Rows

/-- THE TIED CARD OF 'mooringlaw11.PaintPlays'. -/
def paintPlaysCard : Claim7 := { stood := { row := paintPlaysRow, standIns := [], harness := (true, "5195d5e082c76d79298c237858053e3e3510e06e9fd8ef57fa97f12fd083ffc0"), looks := false }, kinds := [], alts := [], laidByText := true, laidKinds := [.data], laidTests := true, laidLooks := .later }
def PaintPlaysCardSaid : Prop := Claim7.holds Tryz.pinned (.plain (OpenSpec.ofChange paintPlaysSpec)) paintPlaysCard

/-- THE SECOND FORM's CARD OF 'mooringlaw11.PaintPlays'. -/
def paintPlaysUptoCard : Claim7 := { stood := { row := paintPlaysUptoRow, standIns := [], harness := (true, "5195d5e082c76d79298c237858053e3e3510e06e9fd8ef57fa97f12fd083ffc0"), looks := false }, kinds := [], alts := [], laidByText := true, laidKinds := [.data], laidTests := true, laidLooks := .later }
def PaintPlaysUptoCardSaid : Prop := Claim7.holds Tryz.pinned (.plain (OpenSpec.upto paintPlaysSpec)) paintPlaysUptoCard
end Rows
end Go.Proofs.YtfonlolgkaobcaaGreatDoor
