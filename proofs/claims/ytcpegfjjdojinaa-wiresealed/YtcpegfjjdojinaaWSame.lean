/- The plain Same, of two messages that are the same: its walk. -/
import Derived.Test.YtcpegfjjdojinaaWStore
import Derived.Test.YtcpegfjjdojinaaWFitC
import Derived.Deep.QuietTactic
import Derived.BigQuiet
namespace Go.Proofs.Ytcpegfjjdojinaa
open Go.RowKit

theorem bel_drewN (w : World) (n : Nat) : Below w.heap.size w (w.drewN n) := ⟨rfl, rfl, rfl, Nat.le_refl _, fun _ _ => rfl⟩

set_option maxRecDepth 20000 in
set_option maxHeartbeats 2000000 in
theorem idsEq_any (xs : List (Int × Nat)) (ao bo : Option Addr) (ac bc : Nat) (w : World) (ha : IDs w ao xs) (hb : IDs w bo xs) (hl : xs.length ≤ 140737488355328) :
    Calls Try.prog 30 #[.slice ao xs.length ac, .slice bo xs.length bc] w fun e w' => e = .returned (.bool true) ∧ Below w.heap.size w w' := by
  go_enter Try.func30, Try.ntmps30
  go_wp2
  go_loopw [5] (fun i wr => ∃ k : Nat, k ≤ xs.length ∧ i = .int .i64 (k : Int) ∧ Below w.heap.size w wr) (fun i _ => xs.length - (intOf i).toNat)
  case atStart => exact ⟨0, Nat.zero_le _, rfl, Below.refl _ _⟩
  case round =>
    obtain ⟨k, hk, rfl, hbr⟩ := hrel
    have hzr := hbr.size
    by_cases hlt : k < xs.length
    · have hne : xs ≠ [] := by intro e; subst e; simp at hlt
      obtain ⟨b1, o1, rfl, hb1, hat1⟩ := ha hne
      obtain ⟨b2, o2, rfl, hb2, hat2⟩ := hb hne
      have a0 := (hbr.cell (p := ⟨b1, o1 + k * 2, none⟩) hb1).trans (hat1 k hlt).1
      have a1 := (hbr.cell (p := ⟨b1, o1 + k * 2 + 1, none⟩) hb1).trans (hat1 k hlt).2
      have c0 := (hbr.cell (p := ⟨b2, o2 + k * 2, none⟩) hb2).trans (hat2 k hlt).1
      have c1 := (hbr.cell (p := ⟨b2, o2 + k * 2 + 1, none⟩) hb2).trans (hat2 k hlt).2
      clear hat1 hat2 ha hb
      generalize xs[k] = x at *
      go_wp2
      go_quiet (fail)
      go_wp2
      go_roundw
      case rel => exact ⟨k + 1, by omega, by go_num, hbr.trans ((bel_drewN _ _).mono hzr)⟩
      case measure => simp [intOf]; omega
    · go_wp2
      go_ret
      exact ⟨rfl, hbr⟩

set_option maxRecDepth 20000 in
set_option maxHeartbeats 2000000 in
theorem usEq_any (xs : List Nat) (ao bo : Option Addr) (ac bc : Nat) (w : World) (ha : Us w ao xs) (hb : Us w bo xs) (hl : xs.length ≤ 140737488355328) :
    Calls Try.prog 31 #[.slice ao xs.length ac, .slice bo xs.length bc] w fun e w' => e = .returned (.bool true) ∧ Below w.heap.size w w' := by
  go_enter Try.func31, Try.ntmps31
  go_wp2
  go_loopw [5] (fun i wr => ∃ k : Nat, k ≤ xs.length ∧ i = .int .i64 (k : Int) ∧ Below w.heap.size w wr) (fun i _ => xs.length - (intOf i).toNat)
  case atStart => exact ⟨0, Nat.zero_le _, rfl, Below.refl _ _⟩
  case round =>
    obtain ⟨k, hk, rfl, hbr⟩ := hrel
    have hzr := hbr.size
    by_cases hlt : k < xs.length
    · have hne : xs ≠ [] := by intro e; subst e; simp at hlt
      obtain ⟨b1, o1, rfl, hb1, hat1⟩ := ha hne
      obtain ⟨b2, o2, rfl, hb2, hat2⟩ := hb hne
      have a0 := (hbr.cell (p := ⟨b1, o1 + k, none⟩) hb1).trans (hat1 k hlt)
      have c0 := (hbr.cell (p := ⟨b2, o2 + k, none⟩) hb2).trans (hat2 k hlt)
      clear hat1 hat2 ha hb
      generalize xs[k] = x at *
      go_wp2
      go_quiet (fail)
      go_wp2
      go_roundw
      case rel => exact ⟨k + 1, by omega, by go_num, hbr.trans ((bel_drewN _ _).mono hzr)⟩
      case measure => simp [intOf]; omega
    · go_wp2
      go_ret
      exact ⟨rfl, hbr⟩

end Go.Proofs.Ytcpegfjjdojinaa
