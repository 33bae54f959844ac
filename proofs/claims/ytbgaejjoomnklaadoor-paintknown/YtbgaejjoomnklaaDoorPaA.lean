/- names, has, Mark, Met. -/
import Derived.Test.YtbgaejjoomnklaaDoorPaD
import Derived.Deep.CutRange
import Derived.Deep.CutBlock
import Derived.Deep.QuietTactic
import Derived.BigQuiet
namespace Go.Proofs.YtbgaejjoomnklaaDoor
open Go.RowKit

set_option maxRecDepth 20000 in
set_option maxHeartbeats 1000000 in
theorem names_any (a : Int) (n : Nat) (w : World) :
    Calls Tryd.prog 29 #[.agg #[.int .i64 a, .int .u64 (n : Int)]] w fun e w' => e = .returned (.bool (namesB (a, n))) ∧ Below w.heap.size w w' := by
  by_cases h1 : 1 ≤ a
  · by_cases h2 : a ≤ 64
    · by_cases h3 : 1 ≤ n
      · have h3i : (1 : Int) ≤ (n : Int) := by omega
        by_cases h4 : n ≤ 72057594037927935
        · have h4i : (n : Int) ≤ 72057594037927935 := by omega
          have e : namesB (a, n) = true := by simp [namesB, h1, h2, h3, h4]
          rw [e]
          clear e h3 h4
          go_enter Tryd.func29, Tryd.ntmps29
          go_wp2
          go_ret
          exact ⟨rfl, bel_alloc _ _⟩
        · have h4i : ¬ (n : Int) ≤ 72057594037927935 := by omega
          have h4d : decide ((n : Int) ≤ 72057594037927935) = false := decide_eq_false h4i
          have e : namesB (a, n) = false := by
            have : decide (n ≤ 72057594037927935) = false := decide_eq_false h4
            simp [namesB, this]
          rw [e]
          clear e h3 h4 h4i
          go_enter Tryd.func29, Tryd.ntmps29
          go_wp2
          go_ret
          exact ⟨rfl, bel_alloc _ _⟩
      · have h3i : ¬ (1 : Int) ≤ (n : Int) := by omega
        have e : namesB (a, n) = false := by simp [namesB, h3]
        rw [e]
        clear e h3
        go_enter Tryd.func29, Tryd.ntmps29
        go_wp2
        go_ret
        exact ⟨rfl, bel_alloc _ _⟩
    · have e : namesB (a, n) = false := by simp [namesB, h2]
      rw [e]
      clear e
      go_enter Tryd.func29, Tryd.ntmps29
      go_wp2
      go_ret
      exact ⟨rfl, bel_alloc _ _⟩
  · have e : namesB (a, n) = false := by simp [namesB, h1]
    rw [e]
    clear e
    go_enter Tryd.func29, Tryd.ntmps29
    go_wp2
    go_ret
    exact ⟨rfl, bel_alloc _ _⟩

section
variable {w : World} {pb hb base sb mb tb : Nat} {v : Value} {p : PSt} {F : Nat → Prop} {h : HSt}
set_option maxRecDepth 20000 in
set_option maxHeartbeats 1000000 in
theorem phas_any (x : PX w pb hb base sb mb tb v p) (y : HP w hb F h) (s : Nat) (hs : s < 18446744073709551616) :
    Calls Tryd.prog 33 #[.pointer (some ⟨pb, 0, none⟩), .int .u64 (s : Int)] w fun e w' => e = .returned (.bool (getC h.cs s).isSome) ∧ Below w.heap.size w w' := by
  have c0 := x.c0
  cases hg : getC h.cs s with
  | none =>
    have hO := y.objNo s hs hg
    unfold zO at hO
    clear x y hg
    go_enter Tryd.func33, Tryd.ntmps33
    go_wp2_with fail
    refine hO.mono ?_
    rintro e w1 ⟨rfl, hb1⟩
    clear hO c0
    go_wp2
    go_ret
    exact ⟨rfl, hb1.trans ((bel_alloc _ _).mono hb1.size)⟩
  | some o =>
    have hO := y.objOk s hs o hg
    unfold Pl.v at hO
    clear x y hg
    go_enter Tryd.func33, Tryd.ntmps33
    go_wp2_with fail
    refine hO.mono ?_
    rintro e w1 ⟨g1, g2, rfl, _, _, _, _, hb1⟩
    clear hO c0
    go_wp2
    go_ret
    exact ⟨rfl, hb1.trans ((bel_alloc _ _).mono hb1.size)⟩
end

end Go.Proofs.YtbgaejjoomnklaaDoor
