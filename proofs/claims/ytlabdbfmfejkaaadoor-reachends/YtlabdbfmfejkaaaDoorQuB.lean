/- A region that draws its order, whose operations only read, and whose callees read, too, or make blocks of their own: walked once, in the class of all worlds that are below as it was. -/
import Derived.Test.YtlabdbfmfejkaaaDoorGrMP
import Derived.Test.YtlabdbfmfejkaaaDoorPick
import Derived.Deep.QuietTactic
import Derived.BigQuiet
namespace Go.Proofs.YtlabdbfmfejkaaaDoor
open Go.RowKit

/-- A world that is below as w was. -/
structure BelW (w : World) where
  W : World
  h : Below w.heap.size w W
instance (w : World) : Inhabited (BelW w) := ⟨⟨w, Below.refl _ _⟩⟩
theorem wp_region_below {P : Program} {id : Nat} {Q : Exit → Act → World → Prop} {a : Act} {w : World} {l : List Oper} (hm : P.follows .mixedOrders = true) (hB : Region.lexB .any l.toArray = true)
    (h : wpQuiet P l.toArray (fun w' => ∃ p : BelW w, w' = p.W) (fun a' => ∀ w', (∃ p : BelW w, w' = p.W) → Q .normal a' w') l a) : (Code.region id l.toArray true).wp P Q a w :=
  wp_region_quiet (C := fun w' => ∃ p : BelW w, w' = p.W) hm hB ⟨⟨w.drew, (Below.refl _ _).drew⟩, rfl⟩ (by simpa using h)
theorem calls_below_of {P : Program} {f : FuncId} {args : Array Value} {w : World} {p : BelW w} {v : Value}
    (h : Calls P f args p.W fun e w' => e = .returned v ∧ Below p.W.heap.size p.W w') : Calls P f args p.W fun e w'' => e = .returned v ∧ ∃ q : BelW w, w'' = q.W :=
  h.mono fun _ w' ⟨he, hb⟩ => ⟨he, ⟨w', p.h.trans (hb.mono p.h.size)⟩, rfl⟩
theorem BelW.cell {w : World} {a : Addr} {v : Value} (h : w.cell? a = some v) (p : BelW w) : p.W.cell? a = some v := (p.h.cell (cell_lt h)).trans h
end Go.Proofs.YtlabdbfmfejkaaaDoor
