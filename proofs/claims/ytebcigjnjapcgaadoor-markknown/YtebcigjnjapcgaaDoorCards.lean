/-
  DERIVED. GIVEN WITH THE SEED: THE CARDS: each row of YtebcigjnjapcgaaDoorRows.lean that lists a variable, with what it lists TIED to the program's text (the seventh form; the later family's looks); each row that meets fmt, with fmt's text TOLD by the authors' own Lean function (tested against real Go, not proved from fmt's source: count such statements apart). THE CARD IS WHAT COUNTS. Prove the row's statement (the work); the ties are given (YtebcigjnjapcgaaDoorTie.lean); close each card by the builder's one call (the guide's Derived/Test/ToyasCard.lean, 'card_holds'). Laid BY PROGRAM, IN A SANDBOX (cutbox-door.mjs). By AI agents, Wed Nov 11 2026. No macro, syntax, notation, axiom, sorry.
-/
import Derived.Test.YtebcigjnjapcgaaDoorRows
import GoSem.ClaimSeven
namespace Go.Proofs.YtebcigjnjapcgaaDoor
namespace Rows

/-- THE TIED CARD OF 'mooringlaw13.MarkKnown'. -/
def markKnownCard : Claim7 := { stood := { row := markKnownRow, standIns := [], harness := (true, "5056cf4f2bc7bc965b05c819e46cf67cf23f5a940e6a9c013915c5db7006fa26"), looks := false }, kinds := [], alts := [], laidByText := true, laidKinds := [.data], laidTests := true, laidLooks := .later }
def MarkKnownCardSaid : Prop := Claim7.holds Tryd.pinned (.plain (OpenSpec.ofChange markKnownSpec)) markKnownCard

/-- THE TIED CARD OF 'mooringlaw13.MarkLeast'. -/
def markLeastCard : Claim7 := { stood := { row := markLeastRow, standIns := [], harness := (true, "5056cf4f2bc7bc965b05c819e46cf67cf23f5a940e6a9c013915c5db7006fa26"), looks := false }, kinds := [], alts := [], laidByText := true, laidKinds := [.data], laidTests := true, laidLooks := .later }
def MarkLeastCardSaid : Prop := Claim7.holds Tryd.pinned (.plain (OpenSpec.ofChange markLeastSpec)) markLeastCard

/-- THE TIED CARD OF 'mooringlaw13.MarkSmall'. -/
def markSmallCard : Claim7 := { stood := { row := markSmallRow, standIns := [], harness := (true, "5056cf4f2bc7bc965b05c819e46cf67cf23f5a940e6a9c013915c5db7006fa26"), looks := false }, kinds := [], alts := [], laidByText := true, laidKinds := [.data], laidTests := true, laidLooks := .later }
def MarkSmallCardSaid : Prop := Claim7.holds Tryd.pinned (.plain (OpenSpec.ofChange markSmallSpec)) markSmallCard

/-- THE TIED CARD OF 'mooringlaw13.MarkEnds'. -/
def markEndsCard : Claim7 := { stood := { row := markEndsRow, standIns := [], harness := (true, "5056cf4f2bc7bc965b05c819e46cf67cf23f5a940e6a9c013915c5db7006fa26"), looks := false }, kinds := [], alts := [], laidByText := true, laidKinds := [.data], laidTests := true, laidLooks := .later }
def MarkEndsCardSaid : Prop := Claim7.holds Tryd.pinned (.plain (OpenSpec.ofChange markEndsSpec)) markEndsCard

/-- THE SECOND FORM's CARD OF 'mooringlaw13.MarkKnown'. -/
def markKnownUptoCard : Claim7 := { stood := { row := markKnownUptoRow, standIns := [], harness := (true, "5056cf4f2bc7bc965b05c819e46cf67cf23f5a940e6a9c013915c5db7006fa26"), looks := false }, kinds := [], alts := [], laidByText := true, laidKinds := [.data], laidTests := true, laidLooks := .later }
def MarkKnownUptoCardSaid : Prop := Claim7.holds Tryd.pinned (.plain (OpenSpec.upto markKnownSpec)) markKnownUptoCard

/-- THE SECOND FORM's CARD OF 'mooringlaw13.MarkLeast'. -/
def markLeastUptoCard : Claim7 := { stood := { row := markLeastUptoRow, standIns := [], harness := (true, "5056cf4f2bc7bc965b05c819e46cf67cf23f5a940e6a9c013915c5db7006fa26"), looks := false }, kinds := [], alts := [], laidByText := true, laidKinds := [.data], laidTests := true, laidLooks := .later }
def MarkLeastUptoCardSaid : Prop := Claim7.holds Tryd.pinned (.plain (OpenSpec.upto markLeastSpec)) markLeastUptoCard

/-- THE SECOND FORM's CARD OF 'mooringlaw13.MarkSmall'. -/
def markSmallUptoCard : Claim7 := { stood := { row := markSmallUptoRow, standIns := [], harness := (true, "5056cf4f2bc7bc965b05c819e46cf67cf23f5a940e6a9c013915c5db7006fa26"), looks := false }, kinds := [], alts := [], laidByText := true, laidKinds := [.data], laidTests := true, laidLooks := .later }
def MarkSmallUptoCardSaid : Prop := Claim7.holds Tryd.pinned (.plain (OpenSpec.upto markSmallSpec)) markSmallUptoCard

/-- THE SECOND FORM's CARD OF 'mooringlaw13.MarkEnds'. -/
def markEndsUptoCard : Claim7 := { stood := { row := markEndsUptoRow, standIns := [], harness := (true, "5056cf4f2bc7bc965b05c819e46cf67cf23f5a940e6a9c013915c5db7006fa26"), looks := false }, kinds := [], alts := [], laidByText := true, laidKinds := [.data], laidTests := true, laidLooks := .later }
def MarkEndsUptoCardSaid : Prop := Claim7.holds Tryd.pinned (.plain (OpenSpec.upto markEndsSpec)) markEndsUptoCard
end Rows
end Go.Proofs.YtebcigjnjapcgaaDoor
