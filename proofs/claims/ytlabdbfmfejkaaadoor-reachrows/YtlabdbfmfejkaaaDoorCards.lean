/-
  DERIVED. GIVEN WITH THE SEED: THE CARDS: each row of YtlabdbfmfejkaaaDoorRows.lean that lists a variable, with what it lists TIED to the program's text (the seventh form; the later family's looks); each row that meets fmt, with fmt's text TOLD by the authors' own Lean function (tested against real Go, not proved from fmt's source: count such statements apart). THE CARD IS WHAT COUNTS. Prove the row's statement (the work); the ties are given (YtlabdbfmfejkaaaDoorTie.lean); close each card by the builder's one call (the guide's Derived/Test/ToyasCard.lean, 'card_holds'). Laid BY PROGRAM, IN A SANDBOX (cutbox-door.mjs). By AI agents, Wed Nov 11 2026. No macro, syntax, notation, axiom, sorry.
-/
import Derived.Test.YtlabdbfmfejkaaaDoorRows
import GoSem.ClaimSeven
namespace Go.Proofs.YtlabdbfmfejkaaaDoor
namespace Rows

/-- THE TIED CARD OF 'mooringlaw13.MarkLeast'. -/
def markLeastCard : Claim7 := { stood := { row := markLeastRow, standIns := [], harness := (true, "d23a399d417e9bf460cae1b2009146e855e1f6744de5b91b5098164b8e456391"), looks := false }, kinds := [], alts := [], laidByText := true, laidKinds := [.data], laidTests := true, laidLooks := .later }
def MarkLeastCardSaid : Prop := Claim7.holds Tryd.pinned (.plain (OpenSpec.ofChange markLeastSpec)) markLeastCard

/-- THE TIED CARD OF 'mooringlaw14.ReachKnown'. -/
def reachKnownCard : Claim7 := { stood := { row := reachKnownRow, standIns := [], harness := (true, "d23a399d417e9bf460cae1b2009146e855e1f6744de5b91b5098164b8e456391"), looks := false }, kinds := [], alts := [], laidByText := true, laidKinds := [.data], laidTests := true, laidLooks := .later }
def ReachKnownCardSaid : Prop := Claim7.holds Tryd.pinned (.plain (OpenSpec.ofChange reachKnownSpec)) reachKnownCard

/-- THE TIED CARD OF 'mooringlaw14.ReachRows'. -/
def reachRowsCard : Claim7 := { stood := { row := reachRowsRow, standIns := [], harness := (true, "d23a399d417e9bf460cae1b2009146e855e1f6744de5b91b5098164b8e456391"), looks := false }, kinds := [], alts := [], laidByText := true, laidKinds := [.data], laidTests := true, laidLooks := .later }
def ReachRowsCardSaid : Prop := Claim7.holds Tryd.pinned (.plain (OpenSpec.ofChange reachRowsSpec)) reachRowsCard

/-- THE TIED CARD OF 'mooringlaw14.ReachEnds'. -/
def reachEndsCard : Claim7 := { stood := { row := reachEndsRow, standIns := [], harness := (true, "d23a399d417e9bf460cae1b2009146e855e1f6744de5b91b5098164b8e456391"), looks := false }, kinds := [], alts := [], laidByText := true, laidKinds := [.data], laidTests := true, laidLooks := .later }
def ReachEndsCardSaid : Prop := Claim7.holds Tryd.pinned (.plain (OpenSpec.ofChange reachEndsSpec)) reachEndsCard

/-- THE TIED CARD OF 'mooringlaw14.ReachAgain'. -/
def reachAgainCard : Claim7 := { stood := { row := reachAgainRow, standIns := [], harness := (true, "d23a399d417e9bf460cae1b2009146e855e1f6744de5b91b5098164b8e456391"), looks := false }, kinds := [], alts := [], laidByText := true, laidKinds := [.data], laidTests := true, laidLooks := .later }
def ReachAgainCardSaid : Prop := Claim7.holds Tryd.pinned (.plain (OpenSpec.ofChange reachAgainSpec)) reachAgainCard

/-- THE SECOND FORM's CARD OF 'mooringlaw13.MarkLeast'. -/
def markLeastUptoCard : Claim7 := { stood := { row := markLeastUptoRow, standIns := [], harness := (true, "d23a399d417e9bf460cae1b2009146e855e1f6744de5b91b5098164b8e456391"), looks := false }, kinds := [], alts := [], laidByText := true, laidKinds := [.data], laidTests := true, laidLooks := .later }
def MarkLeastUptoCardSaid : Prop := Claim7.holds Tryd.pinned (.plain (OpenSpec.upto markLeastSpec)) markLeastUptoCard

/-- THE SECOND FORM's CARD OF 'mooringlaw14.ReachKnown'. -/
def reachKnownUptoCard : Claim7 := { stood := { row := reachKnownUptoRow, standIns := [], harness := (true, "d23a399d417e9bf460cae1b2009146e855e1f6744de5b91b5098164b8e456391"), looks := false }, kinds := [], alts := [], laidByText := true, laidKinds := [.data], laidTests := true, laidLooks := .later }
def ReachKnownUptoCardSaid : Prop := Claim7.holds Tryd.pinned (.plain (OpenSpec.upto reachKnownSpec)) reachKnownUptoCard

/-- THE SECOND FORM's CARD OF 'mooringlaw14.ReachRows'. -/
def reachRowsUptoCard : Claim7 := { stood := { row := reachRowsUptoRow, standIns := [], harness := (true, "d23a399d417e9bf460cae1b2009146e855e1f6744de5b91b5098164b8e456391"), looks := false }, kinds := [], alts := [], laidByText := true, laidKinds := [.data], laidTests := true, laidLooks := .later }
def ReachRowsUptoCardSaid : Prop := Claim7.holds Tryd.pinned (.plain (OpenSpec.upto reachRowsSpec)) reachRowsUptoCard

/-- THE SECOND FORM's CARD OF 'mooringlaw14.ReachEnds'. -/
def reachEndsUptoCard : Claim7 := { stood := { row := reachEndsUptoRow, standIns := [], harness := (true, "d23a399d417e9bf460cae1b2009146e855e1f6744de5b91b5098164b8e456391"), looks := false }, kinds := [], alts := [], laidByText := true, laidKinds := [.data], laidTests := true, laidLooks := .later }
def ReachEndsUptoCardSaid : Prop := Claim7.holds Tryd.pinned (.plain (OpenSpec.upto reachEndsSpec)) reachEndsUptoCard

/-- THE SECOND FORM's CARD OF 'mooringlaw14.ReachAgain'. -/
def reachAgainUptoCard : Claim7 := { stood := { row := reachAgainUptoRow, standIns := [], harness := (true, "d23a399d417e9bf460cae1b2009146e855e1f6744de5b91b5098164b8e456391"), looks := false }, kinds := [], alts := [], laidByText := true, laidKinds := [.data], laidTests := true, laidLooks := .later }
def ReachAgainUptoCardSaid : Prop := Claim7.holds Tryd.pinned (.plain (OpenSpec.upto reachAgainSpec)) reachAgainUptoCard
end Rows
end Go.Proofs.YtlabdbfmfejkaaaDoor
