/-
  No cell of these rows narrows 'for every input' (looked for: loops, veiled, ifaces, maps, wideKeys, modest, calm, conditions, laid).
  DERIVED. THE GIVEN ROWS OF THIS SEAT. 3 by the template 'for every input the law returns true; each argument reads behind the call as it read before'; 0 by the template 'total and deterministic' (their statements: YtjbhlfoaklfpeaaTotals.lean).
  GIVEN WITH THE SEED: the statements are not yours to turn. If you find one false, say at which input.
  Laid BY PROGRAM, IN A SANDBOX (cutbox-rows.mjs): the forced cells as the released guide's own fill.sh prints them over the translation c8fa7ced2bfc5cd6… (all of the seat's roots in one cut). By AI agents, Wed Nov 11 2026. No macro, syntax, notation, axiom, sorry.
-/
import Derived.Test.YtjbhlfoaklfpeaaChecked
import GoSem.Claim
import GoSem.ClaimJoined
import GoSem.ClaimMapViews
import Derived.JoinedTies
import Derived.KernelRfl
namespace Go.Proofs.Ytjbhlfoaklfpeaa
/- THE CELL 'sum', in the pinned program and in every row, IS THE sha256 OF THE DUMP (.gsa) THAT YtjbhlfoaklfpeaaProg.lean LOADS. Nothing in Lean hashes anything: it is a label: what it is worth is what the hold of that sum in a sandbox is worth. -/
noncomputable def Try.pinned : Pinned := { name := "ytjbhlfoaklfpeaa", sum := "c8fa7ced2bfc5cd685a9ec6b90d105d247d120e7c5e189351008b4d56fbd6da7", checked := Try.checked }
namespace Rows
def none {H : Type} : Left H := { results := [], args := [] }

/-- 'mooringlaw10.GreyKnown': WHATEVER THE INPUT: true; the input reads as it did. -/
def greyKnownSpec : ChangeSpec := { name := "greyKnown", fn := fun _ => fun
  | [] => { results := [.lit (.bool true)], args := [] }
  | _ => none }
def greyKnownRow : OpenClaim := { program := "ytjbhlfoaklfpeaa", sum := "c8fa7ced2bfc5cd685a9ec6b90d105d247d120e7c5e189351008b4d56fbd6da7", func := "mooring/mooringlaw10.GreyKnown", spec := "greyKnown", apart := false }
def GreyKnownSaid : Prop := greyKnownRow.holds Try.pinned (OpenSpec.ofChange greyKnownSpec)

/-- ITS FALSE NEIGHBOUR: 'it returns false'. Refute it at one input. -/
def greyKnownWrong : ChangeSpec := { name := "greyKnown", fn := fun _ => fun
  | [] => { results := [.lit (.bool false)], args := [] }
  | _ => none }
def GreyKnownWrongFalsely : Prop := greyKnownRow.holds Try.pinned (OpenSpec.ofChange greyKnownWrong)

/-- 'mooringlaw10.GreyPlays': WHATEVER THE INPUT: true; the input reads as it did. -/
def greyPlaysSpec : ChangeSpec := { name := "greyPlays", fn := fun _ => fun
  | [d1, d2] => { results := [.lit (.bool true)], args := [d1, d2] }
  | _ => none }
def greyPlaysRow : OpenClaim := { program := "ytjbhlfoaklfpeaa", sum := "c8fa7ced2bfc5cd685a9ec6b90d105d247d120e7c5e189351008b4d56fbd6da7", func := "mooring/mooringlaw10.GreyPlays", spec := "greyPlays", apart := false }
def GreyPlaysSaid : Prop := greyPlaysRow.holds Try.pinned (OpenSpec.ofChange greyPlaysSpec)

/-- ITS FALSE NEIGHBOUR: 'it returns false'. Refute it at one input. -/
def greyPlaysWrong : ChangeSpec := { name := "greyPlays", fn := fun _ => fun
  | [d1, d2] => { results := [.lit (.bool false)], args := [d1, d2] }
  | _ => none }
def GreyPlaysWrongFalsely : Prop := greyPlaysRow.holds Try.pinned (OpenSpec.ofChange greyPlaysWrong)

/-- 'mooringlaw10.GreyBack': WHATEVER THE INPUT: true; the input reads as it did. -/
def greyBackSpec : ChangeSpec := { name := "greyBack", fn := fun _ => fun
  | [d1, d2] => { results := [.lit (.bool true)], args := [d1, d2] }
  | _ => none }
def greyBackRow : OpenClaim := { program := "ytjbhlfoaklfpeaa", sum := "c8fa7ced2bfc5cd685a9ec6b90d105d247d120e7c5e189351008b4d56fbd6da7", func := "mooring/mooringlaw10.GreyBack", spec := "greyBack", apart := false }
def GreyBackSaid : Prop := greyBackRow.holds Try.pinned (OpenSpec.ofChange greyBackSpec)

/-- ITS FALSE NEIGHBOUR: 'it returns false'. Refute it at one input. -/
def greyBackWrong : ChangeSpec := { name := "greyBack", fn := fun _ => fun
  | [d1, d2] => { results := [.lit (.bool false)], args := [d1, d2] }
  | _ => none }
def GreyBackWrongFalsely : Prop := greyBackRow.holds Try.pinned (OpenSpec.ofChange greyBackWrong)

/- THE SECOND FORM. 'bulk': how many values and letters a reading holds, each counted each time it is reached (what is shared counts as often as it is met; a slice's spare places count too). A statement '..UptoSaid' is the law's where the arguments, and the package variables that the reading takes, are together of bulk at most 1048576: NARROWER than '..Said'. Prove '..Said' where nothing that the law and all that it calls make is longer than what came in: it says more and counts as full. Else prove '..UptoSaid'. A law counts once. -/
mutual
def uptoBulk {H : Type} : DataW H → Nat
  | .lit (.string bytes) => bytes.length + 1
  | .lit _ => 1
  | .nil => 1
  | .ptr d => uptoBulk d + 1
  | .slice elems spare => uptoBulkAll elems + uptoBulkAll spare + 1
  | .agg parts => uptoBulkAll parts + 1
  | .iface _ d => uptoBulk d + 1
  | .map entries => uptoBulkEntries entries + 1
  | .held _ => 1
def uptoBulkAll {H : Type} : List (DataW H) → Nat
  | [] => 0
  | d :: r => uptoBulk d + uptoBulkAll r
def uptoBulkEntries {H : Type} : List (Lit × DataW H) → Nat
  | [] => 0
  | x :: r => uptoBulkEntry x + uptoBulkEntries r
def uptoBulkEntry {H : Type} : Lit × DataW H → Nat
  | (.string bytes, d) => bytes.length + uptoBulk d + 1
  | (_, d) => uptoBulk d + 1
 end
def uptoSmall : (H : Type) → List (DataW H) → Bool := fun _ ds => decide (uptoBulkAll ds ≤ 1048576)
def OpenSpec.upto (s : _root_.Go.ChangeSpec) : _root_.Go.OpenSpec := { _root_.Go.OpenSpec.ofChange s with cond := some uptoSmall }

/-- 'mooringlaw10.GreyKnown', WHERE WHAT IT READS IS OF BULK AT MOST 1048576: true; the input reads as it did. -/
def greyKnownUptoRow : OpenClaim := { program := "ytjbhlfoaklfpeaa", sum := "c8fa7ced2bfc5cd685a9ec6b90d105d247d120e7c5e189351008b4d56fbd6da7", func := "mooring/mooringlaw10.GreyKnown", spec := "greyKnown", apart := false, narrowed := true }
def GreyKnownUptoSaid : Prop := greyKnownUptoRow.holds Try.pinned (OpenSpec.upto greyKnownSpec)

/-- 'mooringlaw10.GreyPlays', WHERE WHAT IT READS IS OF BULK AT MOST 1048576: true; the input reads as it did. -/
def greyPlaysUptoRow : OpenClaim := { program := "ytjbhlfoaklfpeaa", sum := "c8fa7ced2bfc5cd685a9ec6b90d105d247d120e7c5e189351008b4d56fbd6da7", func := "mooring/mooringlaw10.GreyPlays", spec := "greyPlays", apart := false, narrowed := true }
def GreyPlaysUptoSaid : Prop := greyPlaysUptoRow.holds Try.pinned (OpenSpec.upto greyPlaysSpec)

/-- 'mooringlaw10.GreyBack', WHERE WHAT IT READS IS OF BULK AT MOST 1048576: true; the input reads as it did. -/
def greyBackUptoRow : OpenClaim := { program := "ytjbhlfoaklfpeaa", sum := "c8fa7ced2bfc5cd685a9ec6b90d105d247d120e7c5e189351008b4d56fbd6da7", func := "mooring/mooringlaw10.GreyBack", spec := "greyBack", apart := false, narrowed := true }
def GreyBackUptoSaid : Prop := greyBackUptoRow.holds Try.pinned (OpenSpec.upto greyBackSpec)

end Rows
end Go.Proofs.Ytjbhlfoaklfpeaa
