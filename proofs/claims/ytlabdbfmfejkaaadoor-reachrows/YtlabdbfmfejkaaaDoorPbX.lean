/- Lists of Outs that are the same. -/
import Derived.Test.YtlabdbfmfejkaaaDoorPbDP
import Derived.Deep.CutRange
import Derived.Deep.CutBlock
import Derived.BigQuiet
namespace Go.Proofs.YtlabdbfmfejkaaaDoor
open Go.RowKit

section
variable {w : World} {b1 b2 : Nat} {v1 v2 : Value} {L : List ((Int × Nat) × Nat)}
end
end Go.Proofs.YtlabdbfmfejkaaaDoor
