/-
  NARROWER THAN 'FOR EVERY INPUT', by the rows' own cells (each row's printed sentence says how): MarkLeast: laid · ReachKnown: laid · ReachRows: laid · ReachEnds: laid · ReachAgain: laid.
  DERIVED. THE GIVEN ROWS OF THIS SEAT. 5 by the template 'for every input the law returns true; each argument reads behind the call as it read before'; 0 by the template 'total and deterministic' (their statements: YtlabdbfmfejkaaaDoorTotals.lean).
  GIVEN WITH THE SEED: the statements are not yours to turn. If you find one false, say at which input.
  Laid BY PROGRAM, IN A SANDBOX (cutbox-rows.mjs): the forced cells as the released guide's own fill.sh prints them over the translation ad340b24060f91f5… (all of the seat's roots in one cut). By AI agents, Wed Nov 11 2026. No macro, syntax, notation, axiom, sorry.
-/
import Derived.Test.YtlabdbfmfejkaaaDoorChecked
import GoSem.Claim
import GoSem.ClaimJoined
import GoSem.ClaimMapViews
import Derived.JoinedTies
import Derived.KernelRfl
namespace Go.Proofs.YtlabdbfmfejkaaaDoor
/- THE CELL 'sum', in the pinned program and in every row, IS THE sha256 OF THE DUMP (.gsa) THAT YtlabdbfmfejkaaaDoorProg.lean LOADS. Nothing in Lean hashes anything: it is a label: what it is worth is what the hold of that sum in a sandbox is worth. -/
noncomputable def Tryd.pinned : Pinned := { name := "ytlabdbfmfejkaaadoor", sum := "ad340b24060f91f5b5d20c1f2b614914730de4df31240fd4310d82c29c662916", checked := Tryd.checked }
namespace Rows
def none {H : Type} : Left H := { results := [], args := [] }

/- WHAT THE LISTED PACKAGE-LEVEL VARIABLES READ AS WHEN THE CALL BEGINS. Each datum BY PROGRAM (the guide's laid-datum.mjs) off the statement by which the dump's own 'gosem.cut.vars' lays the variable. In a bare row this is a premise. The card (YtlabdbfmfejkaaaDoorCards.lean) ties it to the program's text. -/
def laid_math_bits_deBruijn32tab {H : Type} : DataW H := .agg [.lit (.int .u8 0), .lit (.int .u8 1), .lit (.int .u8 28), .lit (.int .u8 2), .lit (.int .u8 29), .lit (.int .u8 14), .lit (.int .u8 24), .lit (.int .u8 3), .lit (.int .u8 30), .lit (.int .u8 22), .lit (.int .u8 20), .lit (.int .u8 15), .lit (.int .u8 25), .lit (.int .u8 17), .lit (.int .u8 4), .lit (.int .u8 8), .lit (.int .u8 31), .lit (.int .u8 27), .lit (.int .u8 13), .lit (.int .u8 23), .lit (.int .u8 21), .lit (.int .u8 19), .lit (.int .u8 16), .lit (.int .u8 7), .lit (.int .u8 26), .lit (.int .u8 12), .lit (.int .u8 18), .lit (.int .u8 6), .lit (.int .u8 11), .lit (.int .u8 5), .lit (.int .u8 10), .lit (.int .u8 9)]

/-- 'mooringlaw13.MarkLeast': WHATEVER THE INPUT: true; the input reads as it did. -/
def markLeastSpec : ChangeSpec := { name := "markLeast", fn := fun _ => fun
  | [d1, d2, d3] => { results := [.lit (.bool true)], args := [d1, d2, d3] }
  | _ => none }
def markLeastRow : OpenClaim := { program := "ytlabdbfmfejkaaadoor", sum := "ad340b24060f91f5b5d20c1f2b614914730de4df31240fd4310d82c29c662916", func := "mooring/mooringlaw13.MarkLeast", spec := "markLeast", unfollowed := true, recurses := true, named := ["math/bits.deBruijn32tab"], plainKeys := false, apart := false, laid := [("math/bits.deBruijn32tab", laid_math_bits_deBruijn32tab)] }
def MarkLeastSaid : Prop := markLeastRow.holds Tryd.pinned (OpenSpec.ofChange markLeastSpec)

/-- ITS FALSE NEIGHBOUR: 'it returns false'. Refute it at one input. -/
def markLeastWrong : ChangeSpec := { name := "markLeast", fn := fun _ => fun
  | [d1, d2, d3] => { results := [.lit (.bool false)], args := [d1, d2, d3] }
  | _ => none }
def MarkLeastWrongFalsely : Prop := markLeastRow.holds Tryd.pinned (OpenSpec.ofChange markLeastWrong)

/-- 'mooringlaw14.ReachKnown': WHATEVER THE INPUT: true; the input reads as it did. -/
def reachKnownSpec : ChangeSpec := { name := "reachKnown", fn := fun _ => fun
  | [] => { results := [.lit (.bool true)], args := [] }
  | _ => none }
def reachKnownRow : OpenClaim := { program := "ytlabdbfmfejkaaadoor", sum := "ad340b24060f91f5b5d20c1f2b614914730de4df31240fd4310d82c29c662916", func := "mooring/mooringlaw14.ReachKnown", spec := "reachKnown", inPlace := ["slices.overlaps[mooring/api.ID]"], unfollowed := true, recurses := true, named := ["math/bits.deBruijn32tab"], plainKeys := false, apart := false, laid := [("math/bits.deBruijn32tab", laid_math_bits_deBruijn32tab)] }
def ReachKnownSaid : Prop := reachKnownRow.holds Tryd.pinned (OpenSpec.ofChange reachKnownSpec)

/-- ITS FALSE NEIGHBOUR: 'it returns false'. Refute it at one input. -/
def reachKnownWrong : ChangeSpec := { name := "reachKnown", fn := fun _ => fun
  | [] => { results := [.lit (.bool false)], args := [] }
  | _ => none }
def ReachKnownWrongFalsely : Prop := reachKnownRow.holds Tryd.pinned (OpenSpec.ofChange reachKnownWrong)

/-- 'mooringlaw14.ReachRows': WHATEVER THE INPUT: true; the input reads as it did. -/
def reachRowsSpec : ChangeSpec := { name := "reachRows", fn := fun _ => fun
  | [d1, d2, d3] => { results := [.lit (.bool true)], args := [d1, d2, d3] }
  | _ => none }
def reachRowsRow : OpenClaim := { program := "ytlabdbfmfejkaaadoor", sum := "ad340b24060f91f5b5d20c1f2b614914730de4df31240fd4310d82c29c662916", func := "mooring/mooringlaw14.ReachRows", spec := "reachRows", inPlace := ["slices.overlaps[mooring/api.ID]"], unfollowed := true, recurses := true, named := ["math/bits.deBruijn32tab"], plainKeys := false, apart := false, laid := [("math/bits.deBruijn32tab", laid_math_bits_deBruijn32tab)] }
def ReachRowsSaid : Prop := reachRowsRow.holds Tryd.pinned (OpenSpec.ofChange reachRowsSpec)

/-- ITS FALSE NEIGHBOUR: 'it returns false'. Refute it at one input. -/
def reachRowsWrong : ChangeSpec := { name := "reachRows", fn := fun _ => fun
  | [d1, d2, d3] => { results := [.lit (.bool false)], args := [d1, d2, d3] }
  | _ => none }
def ReachRowsWrongFalsely : Prop := reachRowsRow.holds Tryd.pinned (OpenSpec.ofChange reachRowsWrong)

/-- 'mooringlaw14.ReachEnds': WHATEVER THE INPUT: true; the input reads as it did. -/
def reachEndsSpec : ChangeSpec := { name := "reachEnds", fn := fun _ => fun
  | [d1, d2] => { results := [.lit (.bool true)], args := [d1, d2] }
  | _ => none }
def reachEndsRow : OpenClaim := { program := "ytlabdbfmfejkaaadoor", sum := "ad340b24060f91f5b5d20c1f2b614914730de4df31240fd4310d82c29c662916", func := "mooring/mooringlaw14.ReachEnds", spec := "reachEnds", inPlace := ["slices.overlaps[mooring/api.ID]"], unfollowed := true, recurses := true, named := ["math/bits.deBruijn32tab"], plainKeys := false, apart := false, laid := [("math/bits.deBruijn32tab", laid_math_bits_deBruijn32tab)] }
def ReachEndsSaid : Prop := reachEndsRow.holds Tryd.pinned (OpenSpec.ofChange reachEndsSpec)

/-- ITS FALSE NEIGHBOUR: 'it returns false'. Refute it at one input. -/
def reachEndsWrong : ChangeSpec := { name := "reachEnds", fn := fun _ => fun
  | [d1, d2] => { results := [.lit (.bool false)], args := [d1, d2] }
  | _ => none }
def ReachEndsWrongFalsely : Prop := reachEndsRow.holds Tryd.pinned (OpenSpec.ofChange reachEndsWrong)

/-- 'mooringlaw14.ReachAgain': WHATEVER THE INPUT: true; the input reads as it did. -/
def reachAgainSpec : ChangeSpec := { name := "reachAgain", fn := fun _ => fun
  | [d1, d2, d3, d4] => { results := [.lit (.bool true)], args := [d1, d2, d3, d4] }
  | _ => none }
def reachAgainRow : OpenClaim := { program := "ytlabdbfmfejkaaadoor", sum := "ad340b24060f91f5b5d20c1f2b614914730de4df31240fd4310d82c29c662916", func := "mooring/mooringlaw14.ReachAgain", spec := "reachAgain", inPlace := ["slices.overlaps[mooring/api.ID]"], unfollowed := true, recurses := true, named := ["math/bits.deBruijn32tab"], plainKeys := false, apart := false, laid := [("math/bits.deBruijn32tab", laid_math_bits_deBruijn32tab)] }
def ReachAgainSaid : Prop := reachAgainRow.holds Tryd.pinned (OpenSpec.ofChange reachAgainSpec)

/-- ITS FALSE NEIGHBOUR: 'it returns false'. Refute it at one input. -/
def reachAgainWrong : ChangeSpec := { name := "reachAgain", fn := fun _ => fun
  | [d1, d2, d3, d4] => { results := [.lit (.bool false)], args := [d1, d2, d3, d4] }
  | _ => none }
def ReachAgainWrongFalsely : Prop := reachAgainRow.holds Tryd.pinned (OpenSpec.ofChange reachAgainWrong)

/- THE SECOND FORM. 'bulk': how many values and letters a reading holds, each counted each time it is reached (what is shared counts as often as it is met; a slice's spare places count too). A statement '..UptoSaid' is the law's where the arguments, and the package variables that the reading takes, are together of bulk at most 1048576: NARROWER than '..Said'. Prove '..Said' where nothing that the law and all that it calls make is longer than what came in: it says more and counts as full. Else prove '..UptoSaid'. A law counts once. -/
mutual
def uptoBulk {H : Type} : DataW H → Nat
  | .lit (.string bytes) => bytes.length + 1
  | .lit _ => 1
  | .nil => 1
  | .ptr d => uptoBulk d + 1
  | .slice elems spare => uptoBulkAll elems + uptoBulkAll spare + 1
  | .agg parts => uptoBulkAll parts + 1
  | .iface _ d => uptoBulk d + 1
  | .map entries => uptoBulkEntries entries + 1
  | .held _ => 1
def uptoBulkAll {H : Type} : List (DataW H) → Nat
  | [] => 0
  | d :: r => uptoBulk d + uptoBulkAll r
def uptoBulkEntries {H : Type} : List (Lit × DataW H) → Nat
  | [] => 0
  | x :: r => uptoBulkEntry x + uptoBulkEntries r
def uptoBulkEntry {H : Type} : Lit × DataW H → Nat
  | (.string bytes, d) => bytes.length + uptoBulk d + 1
  | (_, d) => uptoBulk d + 1
 end
def uptoSmall : (H : Type) → List (DataW H) → Bool := fun _ ds => decide (uptoBulkAll ds ≤ 1048576)
def OpenSpec.upto (s : _root_.Go.ChangeSpec) : _root_.Go.OpenSpec := { _root_.Go.OpenSpec.ofChange s with cond := some uptoSmall }

/-- 'mooringlaw13.MarkLeast', WHERE WHAT IT READS IS OF BULK AT MOST 1048576: true; the input reads as it did. -/
def markLeastUptoRow : OpenClaim := { program := "ytlabdbfmfejkaaadoor", sum := "ad340b24060f91f5b5d20c1f2b614914730de4df31240fd4310d82c29c662916", func := "mooring/mooringlaw13.MarkLeast", spec := "markLeast", unfollowed := true, recurses := true, named := ["math/bits.deBruijn32tab"], plainKeys := false, apart := false, laid := [("math/bits.deBruijn32tab", laid_math_bits_deBruijn32tab)], narrowed := true }
def MarkLeastUptoSaid : Prop := markLeastUptoRow.holds Tryd.pinned (OpenSpec.upto markLeastSpec)

/-- 'mooringlaw14.ReachKnown', WHERE WHAT IT READS IS OF BULK AT MOST 1048576: true; the input reads as it did. -/
def reachKnownUptoRow : OpenClaim := { program := "ytlabdbfmfejkaaadoor", sum := "ad340b24060f91f5b5d20c1f2b614914730de4df31240fd4310d82c29c662916", func := "mooring/mooringlaw14.ReachKnown", spec := "reachKnown", inPlace := ["slices.overlaps[mooring/api.ID]"], unfollowed := true, recurses := true, named := ["math/bits.deBruijn32tab"], plainKeys := false, apart := false, laid := [("math/bits.deBruijn32tab", laid_math_bits_deBruijn32tab)], narrowed := true }
def ReachKnownUptoSaid : Prop := reachKnownUptoRow.holds Tryd.pinned (OpenSpec.upto reachKnownSpec)

/-- 'mooringlaw14.ReachRows', WHERE WHAT IT READS IS OF BULK AT MOST 1048576: true; the input reads as it did. -/
def reachRowsUptoRow : OpenClaim := { program := "ytlabdbfmfejkaaadoor", sum := "ad340b24060f91f5b5d20c1f2b614914730de4df31240fd4310d82c29c662916", func := "mooring/mooringlaw14.ReachRows", spec := "reachRows", inPlace := ["slices.overlaps[mooring/api.ID]"], unfollowed := true, recurses := true, named := ["math/bits.deBruijn32tab"], plainKeys := false, apart := false, laid := [("math/bits.deBruijn32tab", laid_math_bits_deBruijn32tab)], narrowed := true }
def ReachRowsUptoSaid : Prop := reachRowsUptoRow.holds Tryd.pinned (OpenSpec.upto reachRowsSpec)

/-- 'mooringlaw14.ReachEnds', WHERE WHAT IT READS IS OF BULK AT MOST 1048576: true; the input reads as it did. -/
def reachEndsUptoRow : OpenClaim := { program := "ytlabdbfmfejkaaadoor", sum := "ad340b24060f91f5b5d20c1f2b614914730de4df31240fd4310d82c29c662916", func := "mooring/mooringlaw14.ReachEnds", spec := "reachEnds", inPlace := ["slices.overlaps[mooring/api.ID]"], unfollowed := true, recurses := true, named := ["math/bits.deBruijn32tab"], plainKeys := false, apart := false, laid := [("math/bits.deBruijn32tab", laid_math_bits_deBruijn32tab)], narrowed := true }
def ReachEndsUptoSaid : Prop := reachEndsUptoRow.holds Tryd.pinned (OpenSpec.upto reachEndsSpec)

/-- 'mooringlaw14.ReachAgain', WHERE WHAT IT READS IS OF BULK AT MOST 1048576: true; the input reads as it did. -/
def reachAgainUptoRow : OpenClaim := { program := "ytlabdbfmfejkaaadoor", sum := "ad340b24060f91f5b5d20c1f2b614914730de4df31240fd4310d82c29c662916", func := "mooring/mooringlaw14.ReachAgain", spec := "reachAgain", inPlace := ["slices.overlaps[mooring/api.ID]"], unfollowed := true, recurses := true, named := ["math/bits.deBruijn32tab"], plainKeys := false, apart := false, laid := [("math/bits.deBruijn32tab", laid_math_bits_deBruijn32tab)], narrowed := true }
def ReachAgainUptoSaid : Prop := reachAgainUptoRow.holds Tryd.pinned (OpenSpec.upto reachAgainSpec)

end Rows
end Go.Proofs.YtlabdbfmfejkaaaDoor
