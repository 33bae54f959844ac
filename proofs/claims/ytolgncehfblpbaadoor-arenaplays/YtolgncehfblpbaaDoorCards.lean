/-
  DERIVED. GIVEN WITH THE SEED: THE CARDS: each row of YtolgncehfblpbaaDoorRows.lean that lists a variable, with what it lists TIED to the program's text (the seventh form; the later family's looks); each row that meets fmt, with fmt's text TOLD by the authors' own Lean function (tested against real Go, not proved from fmt's source: count such statements apart). THE CARD IS WHAT COUNTS. Prove the row's statement (the work); the ties are given (YtolgncehfblpbaaDoorTie.lean); close each card by the builder's one call (the guide's Derived/Test/ToyasCard.lean, 'card_holds'). Laid BY PROGRAM, IN A SANDBOX (cutbox-door.mjs). By AI agents, Wed Nov 11 2026. No macro, syntax, notation, axiom, sorry.
-/
import Derived.Test.YtolgncehfblpbaaDoorRows
import GoSem.ClaimSeven
namespace Go.Proofs.YtolgncehfblpbaaDoor
namespace Rows

/-- THE TIED CARD OF 'mooringlaw7.ArenaKnown'. -/
def arenaKnownCard : Claim7 := { stood := { row := arenaKnownRow, standIns := [], harness := (true, "c4cf12c34459d0a466a66242aca0b1dd027754972c66d1ccdf54d3ab9ab2acf4"), looks := false }, kinds := [], alts := [], laidByText := true, laidKinds := [.data], laidTests := true, laidLooks := .later }
def ArenaKnownCardSaid : Prop := Claim7.holds Tryd.pinned (.plain (OpenSpec.ofChange arenaKnownSpec)) arenaKnownCard

/-- THE TIED CARD OF 'mooringlaw7.ArenaClasses'. -/
def arenaClassesCard : Claim7 := { stood := { row := arenaClassesRow, standIns := [], harness := (true, "c4cf12c34459d0a466a66242aca0b1dd027754972c66d1ccdf54d3ab9ab2acf4"), looks := false }, kinds := [], alts := [], laidByText := true, laidKinds := [.data], laidTests := true, laidLooks := .later }
def ArenaClassesCardSaid : Prop := Claim7.holds Tryd.pinned (.plain (OpenSpec.ofChange arenaClassesSpec)) arenaClassesCard

/-- THE TIED CARD OF 'mooringlaw7.ArenaPlays'. -/
def arenaPlaysCard : Claim7 := { stood := { row := arenaPlaysRow, standIns := [], harness := (true, "c4cf12c34459d0a466a66242aca0b1dd027754972c66d1ccdf54d3ab9ab2acf4"), looks := false }, kinds := [], alts := [], laidByText := true, laidKinds := [.data], laidTests := true, laidLooks := .later }
def ArenaPlaysCardSaid : Prop := Claim7.holds Tryd.pinned (.plain (OpenSpec.ofChange arenaPlaysSpec)) arenaPlaysCard

/-- THE TIED CARD OF 'mooringlaw7.ArenaApart'. -/
def arenaApartCard : Claim7 := { stood := { row := arenaApartRow, standIns := [], harness := (true, "c4cf12c34459d0a466a66242aca0b1dd027754972c66d1ccdf54d3ab9ab2acf4"), looks := false }, kinds := [], alts := [], laidByText := true, laidKinds := [.data], laidTests := true, laidLooks := .later }
def ArenaApartCardSaid : Prop := Claim7.holds Tryd.pinned (.plain (OpenSpec.ofChange arenaApartSpec)) arenaApartCard

/-- THE TIED CARD OF 'mooringlaw7.ArenaAll'. -/
def arenaAllCard : Claim7 := { stood := { row := arenaAllRow, standIns := [], harness := (true, "c4cf12c34459d0a466a66242aca0b1dd027754972c66d1ccdf54d3ab9ab2acf4"), looks := false }, kinds := [], alts := [], laidByText := true, laidKinds := [.data], laidTests := true, laidLooks := .later }
def ArenaAllCardSaid : Prop := Claim7.holds Tryd.pinned (.plain (OpenSpec.ofChange arenaAllSpec)) arenaAllCard

/-- THE TIED CARD OF 'mooringlaw7.ArenaRoom'. -/
def arenaRoomCard : Claim7 := { stood := { row := arenaRoomRow, standIns := [], harness := (true, "c4cf12c34459d0a466a66242aca0b1dd027754972c66d1ccdf54d3ab9ab2acf4"), looks := false }, kinds := [], alts := [], laidByText := true, laidKinds := [.data], laidTests := true, laidLooks := .later }
def ArenaRoomCardSaid : Prop := Claim7.holds Tryd.pinned (.plain (OpenSpec.ofChange arenaRoomSpec)) arenaRoomCard

/-- THE SECOND FORM's CARD OF 'mooringlaw7.ArenaKnown'. -/
def arenaKnownUptoCard : Claim7 := { stood := { row := arenaKnownUptoRow, standIns := [], harness := (true, "c4cf12c34459d0a466a66242aca0b1dd027754972c66d1ccdf54d3ab9ab2acf4"), looks := false }, kinds := [], alts := [], laidByText := true, laidKinds := [.data], laidTests := true, laidLooks := .later }
def ArenaKnownUptoCardSaid : Prop := Claim7.holds Tryd.pinned (.plain (OpenSpec.upto arenaKnownSpec)) arenaKnownUptoCard

/-- THE SECOND FORM's CARD OF 'mooringlaw7.ArenaClasses'. -/
def arenaClassesUptoCard : Claim7 := { stood := { row := arenaClassesUptoRow, standIns := [], harness := (true, "c4cf12c34459d0a466a66242aca0b1dd027754972c66d1ccdf54d3ab9ab2acf4"), looks := false }, kinds := [], alts := [], laidByText := true, laidKinds := [.data], laidTests := true, laidLooks := .later }
def ArenaClassesUptoCardSaid : Prop := Claim7.holds Tryd.pinned (.plain (OpenSpec.upto arenaClassesSpec)) arenaClassesUptoCard

/-- THE SECOND FORM's CARD OF 'mooringlaw7.ArenaPlays'. -/
def arenaPlaysUptoCard : Claim7 := { stood := { row := arenaPlaysUptoRow, standIns := [], harness := (true, "c4cf12c34459d0a466a66242aca0b1dd027754972c66d1ccdf54d3ab9ab2acf4"), looks := false }, kinds := [], alts := [], laidByText := true, laidKinds := [.data], laidTests := true, laidLooks := .later }
def ArenaPlaysUptoCardSaid : Prop := Claim7.holds Tryd.pinned (.plain (OpenSpec.upto arenaPlaysSpec)) arenaPlaysUptoCard

/-- THE SECOND FORM's CARD OF 'mooringlaw7.ArenaApart'. -/
def arenaApartUptoCard : Claim7 := { stood := { row := arenaApartUptoRow, standIns := [], harness := (true, "c4cf12c34459d0a466a66242aca0b1dd027754972c66d1ccdf54d3ab9ab2acf4"), looks := false }, kinds := [], alts := [], laidByText := true, laidKinds := [.data], laidTests := true, laidLooks := .later }
def ArenaApartUptoCardSaid : Prop := Claim7.holds Tryd.pinned (.plain (OpenSpec.upto arenaApartSpec)) arenaApartUptoCard

/-- THE SECOND FORM's CARD OF 'mooringlaw7.ArenaAll'. -/
def arenaAllUptoCard : Claim7 := { stood := { row := arenaAllUptoRow, standIns := [], harness := (true, "c4cf12c34459d0a466a66242aca0b1dd027754972c66d1ccdf54d3ab9ab2acf4"), looks := false }, kinds := [], alts := [], laidByText := true, laidKinds := [.data], laidTests := true, laidLooks := .later }
def ArenaAllUptoCardSaid : Prop := Claim7.holds Tryd.pinned (.plain (OpenSpec.upto arenaAllSpec)) arenaAllUptoCard

/-- THE SECOND FORM's CARD OF 'mooringlaw7.ArenaRoom'. -/
def arenaRoomUptoCard : Claim7 := { stood := { row := arenaRoomUptoRow, standIns := [], harness := (true, "c4cf12c34459d0a466a66242aca0b1dd027754972c66d1ccdf54d3ab9ab2acf4"), looks := false }, kinds := [], alts := [], laidByText := true, laidKinds := [.data], laidTests := true, laidLooks := .later }
def ArenaRoomUptoCardSaid : Prop := Claim7.holds Tryd.pinned (.plain (OpenSpec.upto arenaRoomSpec)) arenaRoomUptoCard
end Rows
end Go.Proofs.YtolgncehfblpbaaDoor
