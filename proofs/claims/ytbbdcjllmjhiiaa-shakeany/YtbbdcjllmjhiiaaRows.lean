/-
  No cell of these rows narrows 'for every input' (looked for: loops, veiled, ifaces, maps, wideKeys, modest, calm, conditions, laid).
  DERIVED. THE GIVEN ROWS OF THIS SEAT. 4 by the template 'for every input the law returns true; each argument reads behind the call as it read before'; 0 by the template 'total and deterministic' (their statements: YtbbdcjllmjhiiaaTotals.lean).
  GIVEN WITH THE SEED: the statements are not yours to turn. If you find one false, say at which input.
  Laid BY PROGRAM, IN A SANDBOX (cutbox-rows.mjs): the forced cells as the released guide's own fill.sh prints them over the translation a071e96d966fac29… (all of the seat's roots in one cut). By AI agents, Wed Nov 11 2026. No macro, syntax, notation, axiom, sorry.
-/
import Derived.Test.YtbbdcjllmjhiiaaChecked
import GoSem.Claim
import GoSem.ClaimJoined
import GoSem.ClaimMapViews
import Derived.JoinedTies
import Derived.KernelRfl
namespace Go.Proofs.Ytbbdcjllmjhiiaa
/- THE CELL 'sum', in the pinned program and in every row, IS THE sha256 OF THE DUMP (.gsa) THAT YtbbdcjllmjhiiaaProg.lean LOADS. Nothing in Lean hashes anything: it is a label: what it is worth is what the hold of that sum in a sandbox is worth. -/
noncomputable def Try.pinned : Pinned := { name := "ytbbdcjllmjhiiaa", sum := "a071e96d966fac2931658fdabeeaf85c08de01183ac813a046a7bf19a969ff08", checked := Try.checked }
namespace Rows
def none {H : Type} : Left H := { results := [], args := [] }

/-- 'mooringlaw12.ShakeKnown': WHATEVER THE INPUT: true; the input reads as it did. -/
def shakeKnownSpec : ChangeSpec := { name := "shakeKnown", fn := fun _ => fun
  | [] => { results := [.lit (.bool true)], args := [] }
  | _ => none }
def shakeKnownRow : OpenClaim := { program := "ytbbdcjllmjhiiaa", sum := "a071e96d966fac2931658fdabeeaf85c08de01183ac813a046a7bf19a969ff08", func := "mooring/mooringlaw12.ShakeKnown", spec := "shakeKnown", apart := false }
def ShakeKnownSaid : Prop := shakeKnownRow.holds Try.pinned (OpenSpec.ofChange shakeKnownSpec)

/-- ITS FALSE NEIGHBOUR: 'it returns false'. Refute it at one input. -/
def shakeKnownWrong : ChangeSpec := { name := "shakeKnown", fn := fun _ => fun
  | [] => { results := [.lit (.bool false)], args := [] }
  | _ => none }
def ShakeKnownWrongFalsely : Prop := shakeKnownRow.holds Try.pinned (OpenSpec.ofChange shakeKnownWrong)

/-- 'mooringlaw12.ShakePlays': WHATEVER THE INPUT: true; the input reads as it did. -/
def shakePlaysSpec : ChangeSpec := { name := "shakePlays", fn := fun _ => fun
  | [d1, d2] => { results := [.lit (.bool true)], args := [d1, d2] }
  | _ => none }
def shakePlaysRow : OpenClaim := { program := "ytbbdcjllmjhiiaa", sum := "a071e96d966fac2931658fdabeeaf85c08de01183ac813a046a7bf19a969ff08", func := "mooring/mooringlaw12.ShakePlays", spec := "shakePlays", apart := false }
def ShakePlaysSaid : Prop := shakePlaysRow.holds Try.pinned (OpenSpec.ofChange shakePlaysSpec)

/-- ITS FALSE NEIGHBOUR: 'it returns false'. Refute it at one input. -/
def shakePlaysWrong : ChangeSpec := { name := "shakePlays", fn := fun _ => fun
  | [d1, d2] => { results := [.lit (.bool false)], args := [d1, d2] }
  | _ => none }
def ShakePlaysWrongFalsely : Prop := shakePlaysRow.holds Try.pinned (OpenSpec.ofChange shakePlaysWrong)

/-- 'mooringlaw12.ShakeOrder': WHATEVER THE INPUT: true; the input reads as it did. -/
def shakeOrderSpec : ChangeSpec := { name := "shakeOrder", fn := fun _ => fun
  | [d1, d2] => { results := [.lit (.bool true)], args := [d1, d2] }
  | _ => none }
def shakeOrderRow : OpenClaim := { program := "ytbbdcjllmjhiiaa", sum := "a071e96d966fac2931658fdabeeaf85c08de01183ac813a046a7bf19a969ff08", func := "mooring/mooringlaw12.ShakeOrder", spec := "shakeOrder", apart := false }
def ShakeOrderSaid : Prop := shakeOrderRow.holds Try.pinned (OpenSpec.ofChange shakeOrderSpec)

/-- ITS FALSE NEIGHBOUR: 'it returns false'. Refute it at one input. -/
def shakeOrderWrong : ChangeSpec := { name := "shakeOrder", fn := fun _ => fun
  | [d1, d2] => { results := [.lit (.bool false)], args := [d1, d2] }
  | _ => none }
def ShakeOrderWrongFalsely : Prop := shakeOrderRow.holds Try.pinned (OpenSpec.ofChange shakeOrderWrong)

/-- 'mooringlaw12.ShakeAny': WHATEVER THE INPUT: true; the input reads as it did. -/
def shakeAnySpec : ChangeSpec := { name := "shakeAny", fn := fun _ => fun
  | [d1, d2] => { results := [.lit (.bool true)], args := [d1, d2] }
  | _ => none }
def shakeAnyRow : OpenClaim := { program := "ytbbdcjllmjhiiaa", sum := "a071e96d966fac2931658fdabeeaf85c08de01183ac813a046a7bf19a969ff08", func := "mooring/mooringlaw12.ShakeAny", spec := "shakeAny", apart := false }
def ShakeAnySaid : Prop := shakeAnyRow.holds Try.pinned (OpenSpec.ofChange shakeAnySpec)

/-- ITS FALSE NEIGHBOUR: 'it returns false'. Refute it at one input. -/
def shakeAnyWrong : ChangeSpec := { name := "shakeAny", fn := fun _ => fun
  | [d1, d2] => { results := [.lit (.bool false)], args := [d1, d2] }
  | _ => none }
def ShakeAnyWrongFalsely : Prop := shakeAnyRow.holds Try.pinned (OpenSpec.ofChange shakeAnyWrong)

/- THE SECOND FORM. 'bulk': how many values and letters a reading holds, each counted each time it is reached (what is shared counts as often as it is met; a slice's spare places count too). A statement '..UptoSaid' is the law's where the arguments, and the package variables that the reading takes, are together of bulk at most 1048576: NARROWER than '..Said'. Prove '..Said' where nothing that the law and all that it calls make is longer than what came in: it says more and counts as full. Else prove '..UptoSaid'. A law counts once. -/
mutual
def uptoBulk {H : Type} : DataW H → Nat
  | .lit (.string bytes) => bytes.length + 1
  | .lit _ => 1
  | .nil => 1
  | .ptr d => uptoBulk d + 1
  | .slice elems spare => uptoBulkAll elems + uptoBulkAll spare + 1
  | .agg parts => uptoBulkAll parts + 1
  | .iface _ d => uptoBulk d + 1
  | .map entries => uptoBulkEntries entries + 1
  | .held _ => 1
def uptoBulkAll {H : Type} : List (DataW H) → Nat
  | [] => 0
  | d :: r => uptoBulk d + uptoBulkAll r
def uptoBulkEntries {H : Type} : List (Lit × DataW H) → Nat
  | [] => 0
  | x :: r => uptoBulkEntry x + uptoBulkEntries r
def uptoBulkEntry {H : Type} : Lit × DataW H → Nat
  | (.string bytes, d) => bytes.length + uptoBulk d + 1
  | (_, d) => uptoBulk d + 1
 end
def uptoSmall : (H : Type) → List (DataW H) → Bool := fun _ ds => decide (uptoBulkAll ds ≤ 1048576)
def OpenSpec.upto (s : _root_.Go.ChangeSpec) : _root_.Go.OpenSpec := { _root_.Go.OpenSpec.ofChange s with cond := some uptoSmall }

/-- 'mooringlaw12.ShakeKnown', WHERE WHAT IT READS IS OF BULK AT MOST 1048576: true; the input reads as it did. -/
def shakeKnownUptoRow : OpenClaim := { program := "ytbbdcjllmjhiiaa", sum := "a071e96d966fac2931658fdabeeaf85c08de01183ac813a046a7bf19a969ff08", func := "mooring/mooringlaw12.ShakeKnown", spec := "shakeKnown", apart := false, narrowed := true }
def ShakeKnownUptoSaid : Prop := shakeKnownUptoRow.holds Try.pinned (OpenSpec.upto shakeKnownSpec)

/-- 'mooringlaw12.ShakePlays', WHERE WHAT IT READS IS OF BULK AT MOST 1048576: true; the input reads as it did. -/
def shakePlaysUptoRow : OpenClaim := { program := "ytbbdcjllmjhiiaa", sum := "a071e96d966fac2931658fdabeeaf85c08de01183ac813a046a7bf19a969ff08", func := "mooring/mooringlaw12.ShakePlays", spec := "shakePlays", apart := false, narrowed := true }
def ShakePlaysUptoSaid : Prop := shakePlaysUptoRow.holds Try.pinned (OpenSpec.upto shakePlaysSpec)

/-- 'mooringlaw12.ShakeOrder', WHERE WHAT IT READS IS OF BULK AT MOST 1048576: true; the input reads as it did. -/
def shakeOrderUptoRow : OpenClaim := { program := "ytbbdcjllmjhiiaa", sum := "a071e96d966fac2931658fdabeeaf85c08de01183ac813a046a7bf19a969ff08", func := "mooring/mooringlaw12.ShakeOrder", spec := "shakeOrder", apart := false, narrowed := true }
def ShakeOrderUptoSaid : Prop := shakeOrderUptoRow.holds Try.pinned (OpenSpec.upto shakeOrderSpec)

/-- 'mooringlaw12.ShakeAny', WHERE WHAT IT READS IS OF BULK AT MOST 1048576: true; the input reads as it did. -/
def shakeAnyUptoRow : OpenClaim := { program := "ytbbdcjllmjhiiaa", sum := "a071e96d966fac2931658fdabeeaf85c08de01183ac813a046a7bf19a969ff08", func := "mooring/mooringlaw12.ShakeAny", spec := "shakeAny", apart := false, narrowed := true }
def ShakeAnyUptoSaid : Prop := shakeAnyUptoRow.holds Try.pinned (OpenSpec.upto shakeAnySpec)

end Rows
end Go.Proofs.Ytbbdcjllmjhiiaa
