/- Numbers that came in. -/
import Derived.Test.YtojgaiodbdgehabCkB
import Derived.ProofKit
import Derived.SizedLaws
namespace Go.Proofs.Ytojgaiodbdgehab
open Go.ChangeShapes Go.WideShapes Go.ChangeAt Go.RowKit

theorem wf_nat {K : IntKind} {z : Int} (h0 : K.min = 0) (h : (Lit.int K z).wf = true) : ∃ n : Nat, z = (n : Int) ∧ (n : Int) ≤ K.max := by
  simp only [Lit.wf, Bool.and_eq_true, decide_eq_true_eq] at h
  exact ⟨z.toNat, by omega, by omega⟩

theorem open_nat {H : Type} {enc : TypeId × Value → H} {P : Program} {W : World} {base : Nat} {K : IntKind} {t : TypeId} {v : Value} {d : DataW H} {p : List MemPlace} (h0 : K.min = 0) (ht : P.underlying t = some (.int K)) (hval : Value.okWide P W .any base t v)
    (h : DataW.Trod enc P W 0 (fun _ => true) true t v d p) : ∃ n : Nat, v = .int K (n : Int) ∧ (n : Int) ≤ K.max := by
  obtain ⟨z, rfl, _, _, hw⟩ := open_int ht hval h
  obtain ⟨n, rfl, hn⟩ := wf_nat h0 hw
  exact ⟨n, rfl, hn⟩

end Go.Proofs.Ytojgaiodbdgehab
