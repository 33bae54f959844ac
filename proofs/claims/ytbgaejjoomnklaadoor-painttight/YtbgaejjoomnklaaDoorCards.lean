/-
  DERIVED. GIVEN WITH THE SEED: THE CARDS: each row of YtbgaejjoomnklaaDoorRows.lean that lists a variable, with what it lists TIED to the program's text (the seventh form; the later family's looks); each row that meets fmt, with fmt's text TOLD by the authors' own Lean function (tested against real Go, not proved from fmt's source: count such statements apart). THE CARD IS WHAT COUNTS. Prove the row's statement (the work); the ties are given (YtbgaejjoomnklaaDoorTie.lean); close each card by the builder's one call (the guide's Derived/Test/ToyasCard.lean, 'card_holds'). Laid BY PROGRAM, IN A SANDBOX (cutbox-door.mjs). By AI agents, Wed Nov 11 2026. No macro, syntax, notation, axiom, sorry.
-/
import Derived.Test.YtbgaejjoomnklaaDoorRows
import GoSem.ClaimSeven
namespace Go.Proofs.YtbgaejjoomnklaaDoor
namespace Rows

/-- THE TIED CARD OF 'mooringlaw11.PaintKnown'. -/
def paintKnownCard : Claim7 := { stood := { row := paintKnownRow, standIns := [], harness := (true, "e9b02957a91a9f36207b356e21dd577e38f7b406c8cc8c3630794c30c76b62f6"), looks := false }, kinds := [], alts := [], laidByText := true, laidKinds := [.data], laidTests := true, laidLooks := .later }
def PaintKnownCardSaid : Prop := Claim7.holds Tryd.pinned (.plain (OpenSpec.ofChange paintKnownSpec)) paintKnownCard

/-- THE TIED CARD OF 'mooringlaw11.PaintFalls'. -/
def paintFallsCard : Claim7 := { stood := { row := paintFallsRow, standIns := [], harness := (true, "e9b02957a91a9f36207b356e21dd577e38f7b406c8cc8c3630794c30c76b62f6"), looks := false }, kinds := [], alts := [], laidByText := true, laidKinds := [.data], laidTests := true, laidLooks := .later }
def PaintFallsCardSaid : Prop := Claim7.holds Tryd.pinned (.plain (OpenSpec.ofChange paintFallsSpec)) paintFallsCard

/-- THE TIED CARD OF 'mooringlaw11.PaintTight'. -/
def paintTightCard : Claim7 := { stood := { row := paintTightRow, standIns := [], harness := (true, "e9b02957a91a9f36207b356e21dd577e38f7b406c8cc8c3630794c30c76b62f6"), looks := false }, kinds := [], alts := [], laidByText := true, laidKinds := [.data], laidTests := true, laidLooks := .later }
def PaintTightCardSaid : Prop := Claim7.holds Tryd.pinned (.plain (OpenSpec.ofChange paintTightSpec)) paintTightCard

/-- THE TIED CARD OF 'mooringlaw11.PaintTurns'. -/
def paintTurnsCard : Claim7 := { stood := { row := paintTurnsRow, standIns := [], harness := (true, "e9b02957a91a9f36207b356e21dd577e38f7b406c8cc8c3630794c30c76b62f6"), looks := false }, kinds := [], alts := [], laidByText := true, laidKinds := [.data], laidTests := true, laidLooks := .later }
def PaintTurnsCardSaid : Prop := Claim7.holds Tryd.pinned (.plain (OpenSpec.ofChange paintTurnsSpec)) paintTurnsCard

/-- THE SECOND FORM's CARD OF 'mooringlaw11.PaintKnown'. -/
def paintKnownUptoCard : Claim7 := { stood := { row := paintKnownUptoRow, standIns := [], harness := (true, "e9b02957a91a9f36207b356e21dd577e38f7b406c8cc8c3630794c30c76b62f6"), looks := false }, kinds := [], alts := [], laidByText := true, laidKinds := [.data], laidTests := true, laidLooks := .later }
def PaintKnownUptoCardSaid : Prop := Claim7.holds Tryd.pinned (.plain (OpenSpec.upto paintKnownSpec)) paintKnownUptoCard

/-- THE SECOND FORM's CARD OF 'mooringlaw11.PaintFalls'. -/
def paintFallsUptoCard : Claim7 := { stood := { row := paintFallsUptoRow, standIns := [], harness := (true, "e9b02957a91a9f36207b356e21dd577e38f7b406c8cc8c3630794c30c76b62f6"), looks := false }, kinds := [], alts := [], laidByText := true, laidKinds := [.data], laidTests := true, laidLooks := .later }
def PaintFallsUptoCardSaid : Prop := Claim7.holds Tryd.pinned (.plain (OpenSpec.upto paintFallsSpec)) paintFallsUptoCard

/-- THE SECOND FORM's CARD OF 'mooringlaw11.PaintTight'. -/
def paintTightUptoCard : Claim7 := { stood := { row := paintTightUptoRow, standIns := [], harness := (true, "e9b02957a91a9f36207b356e21dd577e38f7b406c8cc8c3630794c30c76b62f6"), looks := false }, kinds := [], alts := [], laidByText := true, laidKinds := [.data], laidTests := true, laidLooks := .later }
def PaintTightUptoCardSaid : Prop := Claim7.holds Tryd.pinned (.plain (OpenSpec.upto paintTightSpec)) paintTightUptoCard

/-- THE SECOND FORM's CARD OF 'mooringlaw11.PaintTurns'. -/
def paintTurnsUptoCard : Claim7 := { stood := { row := paintTurnsUptoRow, standIns := [], harness := (true, "e9b02957a91a9f36207b356e21dd577e38f7b406c8cc8c3630794c30c76b62f6"), looks := false }, kinds := [], alts := [], laidByText := true, laidKinds := [.data], laidTests := true, laidLooks := .later }
def PaintTurnsUptoCardSaid : Prop := Claim7.holds Tryd.pinned (.plain (OpenSpec.upto paintTurnsSpec)) paintTurnsUptoCard
end Rows
end Go.Proofs.YtbgaejjoomnklaaDoor
