/- The ends of a number that came in. No program's text is in it. -/
import Derived.Test.YtolgncehfblpbaaDoorWsl
namespace Go.Proofs.YtolgncehfblpbaaDoor

theorem wf_i64 {n : Int} (h : (Lit.int .i64 n).wf = true) : -9223372036854775808 ≤ n ∧ n ≤ 9223372036854775807 := by
  simp only [Lit.wf, Bool.and_eq_true, decide_eq_true_eq] at h
  have h1 : IntKind.i64.max = 9223372036854775807 := rfl
  have h2 : IntKind.i64.min = -9223372036854775808 := rfl
  omega

end Go.Proofs.YtolgncehfblpbaaDoor
