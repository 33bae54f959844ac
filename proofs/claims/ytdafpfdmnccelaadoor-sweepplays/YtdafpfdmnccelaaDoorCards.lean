/-
  DERIVED. GIVEN WITH THE SEED: THE CARDS: each row of YtdafpfdmnccelaaDoorRows.lean that lists a variable, with what it lists TIED to the program's text (the seventh form; the later family's looks); each row that meets fmt, with fmt's text TOLD by the authors' own Lean function (tested against real Go, not proved from fmt's source: count such statements apart). THE CARD IS WHAT COUNTS. Prove the row's statement (the work); the ties are given (YtdafpfdmnccelaaDoorTie.lean); close each card by the builder's one call (the guide's Derived/Test/ToyasCard.lean, 'card_holds'). Laid BY PROGRAM, IN A SANDBOX (cutbox-door.mjs). By AI agents, Wed Nov 11 2026. No macro, syntax, notation, axiom, sorry.
-/
import Derived.Test.YtdafpfdmnccelaaDoorRows
import GoSem.ClaimSeven
namespace Go.Proofs.YtdafpfdmnccelaaDoor
namespace Rows

/-- THE TIED CARD OF 'mooringlaw15.SweepKnown'. -/
def sweepKnownCard : Claim7 := { stood := { row := sweepKnownRow, standIns := [], harness := (true, "cf45bd4b8006f2f9b6707d24899d85b61066241891eef0017bb5ec69d76c97c5"), looks := false }, kinds := [], alts := [], laidByText := true, laidKinds := [.data], laidTests := true, laidLooks := .later }
def SweepKnownCardSaid : Prop := Claim7.holds Tryd.pinned (.plain (OpenSpec.ofChange sweepKnownSpec)) sweepKnownCard

/-- THE TIED CARD OF 'mooringlaw15.SweepPlays'. -/
def sweepPlaysCard : Claim7 := { stood := { row := sweepPlaysRow, standIns := [], harness := (true, "cf45bd4b8006f2f9b6707d24899d85b61066241891eef0017bb5ec69d76c97c5"), looks := false }, kinds := [], alts := [], laidByText := true, laidKinds := [.data], laidTests := true, laidLooks := .later }
def SweepPlaysCardSaid : Prop := Claim7.holds Tryd.pinned (.plain (OpenSpec.ofChange sweepPlaysSpec)) sweepPlaysCard

/-- THE TIED CARD OF 'mooringlaw15.SweepJust'. -/
def sweepJustCard : Claim7 := { stood := { row := sweepJustRow, standIns := [], harness := (true, "cf45bd4b8006f2f9b6707d24899d85b61066241891eef0017bb5ec69d76c97c5"), looks := false }, kinds := [], alts := [], laidByText := true, laidKinds := [.data], laidTests := true, laidLooks := .later }
def SweepJustCardSaid : Prop := Claim7.holds Tryd.pinned (.plain (OpenSpec.ofChange sweepJustSpec)) sweepJustCard

/-- THE SECOND FORM's CARD OF 'mooringlaw15.SweepKnown'. -/
def sweepKnownUptoCard : Claim7 := { stood := { row := sweepKnownUptoRow, standIns := [], harness := (true, "cf45bd4b8006f2f9b6707d24899d85b61066241891eef0017bb5ec69d76c97c5"), looks := false }, kinds := [], alts := [], laidByText := true, laidKinds := [.data], laidTests := true, laidLooks := .later }
def SweepKnownUptoCardSaid : Prop := Claim7.holds Tryd.pinned (.plain (OpenSpec.upto sweepKnownSpec)) sweepKnownUptoCard

/-- THE SECOND FORM's CARD OF 'mooringlaw15.SweepPlays'. -/
def sweepPlaysUptoCard : Claim7 := { stood := { row := sweepPlaysUptoRow, standIns := [], harness := (true, "cf45bd4b8006f2f9b6707d24899d85b61066241891eef0017bb5ec69d76c97c5"), looks := false }, kinds := [], alts := [], laidByText := true, laidKinds := [.data], laidTests := true, laidLooks := .later }
def SweepPlaysUptoCardSaid : Prop := Claim7.holds Tryd.pinned (.plain (OpenSpec.upto sweepPlaysSpec)) sweepPlaysUptoCard

/-- THE SECOND FORM's CARD OF 'mooringlaw15.SweepJust'. -/
def sweepJustUptoCard : Claim7 := { stood := { row := sweepJustUptoRow, standIns := [], harness := (true, "cf45bd4b8006f2f9b6707d24899d85b61066241891eef0017bb5ec69d76c97c5"), looks := false }, kinds := [], alts := [], laidByText := true, laidKinds := [.data], laidTests := true, laidLooks := .later }
def SweepJustUptoCardSaid : Prop := Claim7.holds Tryd.pinned (.plain (OpenSpec.upto sweepJustSpec)) sweepJustUptoCard
end Rows
end Go.Proofs.YtdafpfdmnccelaaDoor
