/-
  DERIVED. GIVEN WITH THE SEED: THE CARDS: each row of YthjbbghmmikmmaaDoorRows.lean that lists a variable, with what it lists TIED to the program's text (the seventh form; the later family's looks); each row that meets fmt, with fmt's text TOLD by the authors' own Lean function (tested against real Go, not proved from fmt's source: count such statements apart). THE CARD IS WHAT COUNTS. Prove the row's statement (the work); the ties are given (YthjbbghmmikmmaaDoorTie.lean); close each card by the builder's one call (the guide's Derived/Test/ToyasCard.lean, 'card_holds'). Laid BY PROGRAM, IN A SANDBOX (cutbox-door.mjs). By AI agents, Wed Nov 11 2026. No macro, syntax, notation, axiom, sorry.
-/
import Derived.Test.YthjbbghmmikmmaaDoorRows
import GoSem.ClaimSeven
namespace Go.Proofs.YthjbbghmmikmmaaDoor
namespace Rows

/-- THE TIED CARD OF 'mooringlaw8.HeapKnown'. -/
def heapKnownCard : Claim7 := { stood := { row := heapKnownRow, standIns := [], harness := (true, "41d9d9384d3858dd7b2da893e65a7e98cc90d7bc37d595befbcd673d3cb7f56a"), looks := false }, kinds := [], alts := [], laidByText := true, laidKinds := [.data], laidTests := true, laidLooks := .later }
def HeapKnownCardSaid : Prop := Claim7.holds Tryd.pinned (.plain (OpenSpec.ofChange heapKnownSpec)) heapKnownCard

/-- THE TIED CARD OF 'mooringlaw8.HeapPlays'. -/
def heapPlaysCard : Claim7 := { stood := { row := heapPlaysRow, standIns := [], harness := (true, "41d9d9384d3858dd7b2da893e65a7e98cc90d7bc37d595befbcd673d3cb7f56a"), looks := false }, kinds := [], alts := [], laidByText := true, laidKinds := [.data], laidTests := true, laidLooks := .later }
def HeapPlaysCardSaid : Prop := Claim7.holds Tryd.pinned (.plain (OpenSpec.ofChange heapPlaysSpec)) heapPlaysCard

/-- THE TIED CARD OF 'mooringlaw8.HeapSmall'. -/
def heapSmallCard : Claim7 := { stood := { row := heapSmallRow, standIns := [], harness := (true, "41d9d9384d3858dd7b2da893e65a7e98cc90d7bc37d595befbcd673d3cb7f56a"), looks := false }, kinds := [], alts := [], laidByText := true, laidKinds := [.data], laidTests := true, laidLooks := .later }
def HeapSmallCardSaid : Prop := Claim7.holds Tryd.pinned (.plain (OpenSpec.ofChange heapSmallSpec)) heapSmallCard

/-- THE TIED CARD OF 'mooringlaw8.HeapOwn'. -/
def heapOwnCard : Claim7 := { stood := { row := heapOwnRow, standIns := [], harness := (true, "41d9d9384d3858dd7b2da893e65a7e98cc90d7bc37d595befbcd673d3cb7f56a"), looks := false }, kinds := [], alts := [], laidByText := true, laidKinds := [.data], laidTests := true, laidLooks := .later }
def HeapOwnCardSaid : Prop := Claim7.holds Tryd.pinned (.plain (OpenSpec.ofChange heapOwnSpec)) heapOwnCard

/-- THE TIED CARD OF 'mooringlaw8.HeapOnce'. -/
def heapOnceCard : Claim7 := { stood := { row := heapOnceRow, standIns := [], harness := (true, "41d9d9384d3858dd7b2da893e65a7e98cc90d7bc37d595befbcd673d3cb7f56a"), looks := false }, kinds := [], alts := [], laidByText := true, laidKinds := [.data], laidTests := true, laidLooks := .later }
def HeapOnceCardSaid : Prop := Claim7.holds Tryd.pinned (.plain (OpenSpec.ofChange heapOnceSpec)) heapOnceCard

/-- THE TIED CARD OF 'mooringlaw8.HeapApart'. -/
def heapApartCard : Claim7 := { stood := { row := heapApartRow, standIns := [], harness := (true, "41d9d9384d3858dd7b2da893e65a7e98cc90d7bc37d595befbcd673d3cb7f56a"), looks := false }, kinds := [], alts := [], laidByText := true, laidKinds := [.data], laidTests := true, laidLooks := .later }
def HeapApartCardSaid : Prop := Claim7.holds Tryd.pinned (.plain (OpenSpec.ofChange heapApartSpec)) heapApartCard

/-- THE SECOND FORM's CARD OF 'mooringlaw8.HeapKnown'. -/
def heapKnownUptoCard : Claim7 := { stood := { row := heapKnownUptoRow, standIns := [], harness := (true, "41d9d9384d3858dd7b2da893e65a7e98cc90d7bc37d595befbcd673d3cb7f56a"), looks := false }, kinds := [], alts := [], laidByText := true, laidKinds := [.data], laidTests := true, laidLooks := .later }
def HeapKnownUptoCardSaid : Prop := Claim7.holds Tryd.pinned (.plain (OpenSpec.upto heapKnownSpec)) heapKnownUptoCard

/-- THE SECOND FORM's CARD OF 'mooringlaw8.HeapPlays'. -/
def heapPlaysUptoCard : Claim7 := { stood := { row := heapPlaysUptoRow, standIns := [], harness := (true, "41d9d9384d3858dd7b2da893e65a7e98cc90d7bc37d595befbcd673d3cb7f56a"), looks := false }, kinds := [], alts := [], laidByText := true, laidKinds := [.data], laidTests := true, laidLooks := .later }
def HeapPlaysUptoCardSaid : Prop := Claim7.holds Tryd.pinned (.plain (OpenSpec.upto heapPlaysSpec)) heapPlaysUptoCard

/-- THE SECOND FORM's CARD OF 'mooringlaw8.HeapSmall'. -/
def heapSmallUptoCard : Claim7 := { stood := { row := heapSmallUptoRow, standIns := [], harness := (true, "41d9d9384d3858dd7b2da893e65a7e98cc90d7bc37d595befbcd673d3cb7f56a"), looks := false }, kinds := [], alts := [], laidByText := true, laidKinds := [.data], laidTests := true, laidLooks := .later }
def HeapSmallUptoCardSaid : Prop := Claim7.holds Tryd.pinned (.plain (OpenSpec.upto heapSmallSpec)) heapSmallUptoCard

/-- THE SECOND FORM's CARD OF 'mooringlaw8.HeapOwn'. -/
def heapOwnUptoCard : Claim7 := { stood := { row := heapOwnUptoRow, standIns := [], harness := (true, "41d9d9384d3858dd7b2da893e65a7e98cc90d7bc37d595befbcd673d3cb7f56a"), looks := false }, kinds := [], alts := [], laidByText := true, laidKinds := [.data], laidTests := true, laidLooks := .later }
def HeapOwnUptoCardSaid : Prop := Claim7.holds Tryd.pinned (.plain (OpenSpec.upto heapOwnSpec)) heapOwnUptoCard

/-- THE SECOND FORM's CARD OF 'mooringlaw8.HeapOnce'. -/
def heapOnceUptoCard : Claim7 := { stood := { row := heapOnceUptoRow, standIns := [], harness := (true, "41d9d9384d3858dd7b2da893e65a7e98cc90d7bc37d595befbcd673d3cb7f56a"), looks := false }, kinds := [], alts := [], laidByText := true, laidKinds := [.data], laidTests := true, laidLooks := .later }
def HeapOnceUptoCardSaid : Prop := Claim7.holds Tryd.pinned (.plain (OpenSpec.upto heapOnceSpec)) heapOnceUptoCard

/-- THE SECOND FORM's CARD OF 'mooringlaw8.HeapApart'. -/
def heapApartUptoCard : Claim7 := { stood := { row := heapApartUptoRow, standIns := [], harness := (true, "41d9d9384d3858dd7b2da893e65a7e98cc90d7bc37d595befbcd673d3cb7f56a"), looks := false }, kinds := [], alts := [], laidByText := true, laidKinds := [.data], laidTests := true, laidLooks := .later }
def HeapApartUptoCardSaid : Prop := Claim7.holds Tryd.pinned (.plain (OpenSpec.upto heapApartSpec)) heapApartUptoCard
end Rows
end Go.Proofs.YthjbbghmmikmmaaDoor
