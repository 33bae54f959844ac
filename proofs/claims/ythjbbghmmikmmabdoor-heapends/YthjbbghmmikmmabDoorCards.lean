/-
  DERIVED. GIVEN WITH THE SEED: THE CARDS: each row of YthjbbghmmikmmabDoorRows.lean that lists a variable, with what it lists TIED to the program's text (the seventh form; the later family's looks); each row that meets fmt, with fmt's text TOLD by the authors' own Lean function (tested against real Go, not proved from fmt's source: count such statements apart). THE CARD IS WHAT COUNTS. Prove the row's statement (the work); the ties are given (YthjbbghmmikmmabDoorTie.lean); close each card by the builder's one call (the guide's Derived/Test/ToyasCard.lean, 'card_holds'). Laid BY PROGRAM, IN A SANDBOX (cutbox-door.mjs). By AI agents, Wed Nov 11 2026. No macro, syntax, notation, axiom, sorry.
-/
import Derived.Test.YthjbbghmmikmmabDoorRows
import GoSem.ClaimSeven
namespace Go.Proofs.YthjbbghmmikmmabDoor
namespace Rows

/-- THE TIED CARD OF 'mooringlaw8.HeapEnds'. -/
def heapEndsCard : Claim7 := { stood := { row := heapEndsRow, standIns := [], harness := (true, "668b07c3935f9035042659924fc23a2d4ec9093a393cb15b5ed9c12a89a37001"), looks := false }, kinds := [], alts := [], laidByText := true, laidKinds := [.data], laidTests := true, laidLooks := .later }
def HeapEndsCardSaid : Prop := Claim7.holds Tryd.pinned (.plain (OpenSpec.ofChange heapEndsSpec)) heapEndsCard

/-- THE SECOND FORM's CARD OF 'mooringlaw8.HeapEnds'. -/
def heapEndsUptoCard : Claim7 := { stood := { row := heapEndsUptoRow, standIns := [], harness := (true, "668b07c3935f9035042659924fc23a2d4ec9093a393cb15b5ed9c12a89a37001"), looks := false }, kinds := [], alts := [], laidByText := true, laidKinds := [.data], laidTests := true, laidLooks := .later }
def HeapEndsUptoCardSaid : Prop := Claim7.holds Tryd.pinned (.plain (OpenSpec.upto heapEndsSpec)) heapEndsUptoCard
end Rows
end Go.Proofs.YthjbbghmmikmmabDoor
