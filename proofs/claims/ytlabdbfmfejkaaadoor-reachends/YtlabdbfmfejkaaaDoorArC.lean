/- Class, plain Class, and the calls of one block. -/
import Derived.Test.YtlabdbfmfejkaaaDoorArB
namespace Go.Proofs.YtlabdbfmfejkaaaDoor
open Go.RowKit

set_option maxRecDepth 20000 in
set_option maxHeartbeats 400000 in
theorem class_any (s : Int) (w : World) : Calls Tryd.prog 90 #[.int .i64 s] w fun e w' => e = .returned (.int .i64 (classN s : Nat)) ∧ w = w' := by
  by_cases h1 : s < 1
  · rw [classN_no (Or.inl h1)]
    go_enter Tryd.func90, Tryd.ntmps90
    go_wp2
    go_ret
    exact ⟨rfl, rfl⟩
  by_cases h2 : 16 < s
  · rw [classN_no (Or.inr h2)]
    go_enter Tryd.func90, Tryd.ntmps90
    go_wp2
    go_ret
    exact ⟨rfl, rfl⟩
  go_enter Tryd.func90, Tryd.ntmps90
  go_wp2
  go_loop [3] (fun i => ∃ k : Nat, i = .int .i64 k ∧ IsC k ∧ (k = 1 ∨ (k : Int) < 2 * s)) (fun i => 32 - (intOf i).toNat)
  case atStart => exact ⟨1, rfl, Or.inl rfl, Or.inl rfl⟩
  case round =>
    obtain ⟨k, rfl, hk, hks⟩ := hrel
    have hk16 : k ≤ 16 ∧ 1 ≤ k := by rcases hk with h | h | h | h | h <;> omega
    obtain ⟨hk16, hk1⟩ := hk16
    have HK : Hid (IsC k) := hk
    have HS : Hid (k = 1 ∨ (k : Int) < 2 * s) := hks
    clear hk hks
    by_cases hlt : (k : Int) < s
    · go_wp2
      go_round
      case rel =>
        have hk := HK.out
        refine ⟨2 * k, by go_num, ?_, Or.inr (by omega)⟩
        unfold IsC at hk ⊢
        omega
      case measure => simp [intOf]; omega
    · go_wp2
      go_ret
      exact ⟨congrArg (fun x : Nat => Ending.returned (.int .i64 (x : Int))) (classN_eq HK.out (by omega) (by omega) HS.out).symm, rfl⟩

set_option maxRecDepth 20000 in
set_option maxHeartbeats 400000 in
theorem rclass_any (s : Int) (w : World) : Calls Tryd.prog 93 #[.int .i64 s] w fun e w' => e = .returned (.int .i64 (classN s : Nat)) ∧ w = w' := by
  go_enter Tryd.func93, Tryd.ntmps93
  go_wp2
  go_loop [3] (fun i => ∃ k : Nat, i = .int .i64 k ∧ (IsC k ∨ k = 32) ∧ (s < 1 ∨ k = 1 ∨ (k : Int) < 2 * s)) (fun i => 64 - (intOf i).toNat)
  case atStart => exact ⟨1, rfl, Or.inl (Or.inl rfl), Or.inr (Or.inl rfl)⟩
  case round =>
    obtain ⟨k, rfl, hk, hks⟩ := hrel
    have hk16 : k ≤ 32 ∧ 1 ≤ k := by rcases hk with (h | h | h | h | h) | h <;> omega
    obtain ⟨hk16, hk1⟩ := hk16
    have HK : Hid (IsC k ∨ k = 32) := hk
    have HS : Hid (s < 1 ∨ k = 1 ∨ (k : Int) < 2 * s) := hks
    clear hk hks
    by_cases h16 : (k : Int) ≤ 16
    · have HC : Hid (IsC k) := by
        have e : IsC k := by rcases HK.out with h | h; { exact h }; { omega }
        exact e
      by_cases h1 : (1 : Int) ≤ s
      · by_cases hlt : s ≤ (k : Int)
        · go_wp2
          go_ret
          exact ⟨congrArg (fun x : Nat => Ending.returned (.int .i64 (x : Int))) (classN_eq HC.out h1 hlt (by have := HS.out; omega)).symm, rfl⟩
        · go_wp2
          go_round
          case rel =>
            have hk := HC.out
            refine ⟨2 * k, by go_num, ?_, Or.inr (Or.inr (by omega))⟩
            unfold IsC at hk ⊢
            omega
          case measure => simp [intOf]; omega
      · go_wp2
        go_round
        case rel =>
          have hk := HC.out
          refine ⟨2 * k, by go_num, ?_, Or.inl (by omega)⟩
          unfold IsC at hk ⊢
          omega
        case measure => simp [intOf]; omega
    · have HE : Hid (classN s = 0) := by
        have e : classN s = 0 := classN_no (by
          have hk := HK.out
          have hs := HS.out
          unfold IsC at hk
          omega)
        exact e
      go_wp2
      go_ret
      exact ⟨congrArg (fun x : Nat => Ending.returned (.int .i64 (x : Int))) HE.out.symm, rfl⟩

/-- A block as a value. -/
@[reducible] def bkV (x : Bk) : Value := .agg #[.int .i64 (x.c : Int), .int .u32 (x.t : Int)]

theorem below_drewN0 (w : World) (n : Nat) : Below w.heap.size w (w.drewN n) := ⟨rfl, rfl, rfl, Nat.le_refl _, fun _ _ => rfl⟩

set_option maxRecDepth 20000 in
set_option maxHeartbeats 400000 in
theorem broom_no (x : Bk) (k : Nat) (h0 : x.c ≠ 0) (h1 : x.c ≠ k) (w : World) :
    Calls Tryd.prog 116 #[bkV x, .int .i64 (k : Int)] w fun e w' => e = .returned (.int .i64 0) ∧ Below w.heap.size w w' := by
  have e0 : ((x.c : Int) == 0) = false := by rw [beq_eq_false_iff_ne]; omega
  have e1 : ((x.c : Int) == (k : Int)) = false := by rw [beq_eq_false_iff_ne]; omega
  go_enter Tryd.func116, Tryd.ntmps116
  go_wp2
  go_ret
  exact ⟨rfl, (Below.refl _ _).alloc (Nat.le_refl _) _⟩

set_option maxRecDepth 20000 in
set_option maxHeartbeats 400000 in
theorem broom_yes (x : Bk) (k : Nat) (hk : IsC k) (ht : x.t < 65536) (h : x.c = 0 ∨ x.c = k) (hp : pc x.t ≤ 16 / k) (w : World) :
    Calls Tryd.prog 116 #[bkV x, .int .i64 (k : Int)] w fun e w' => e = .returned (.int .i64 (16 / k - pc x.t : Nat)) ∧ Below w.heap.size w w' := by
  rcases hk with rfl | rfl | rfl | rfl | rfl
  · have hw : IntKind.i64.wrap (16 - (pc x.t : Int)) = ((16 / 1 - pc x.t : Nat) : Int) := by rw [IntKind.wrap_i64]; omega
    have hp' : pc x.t ≤ 16 := by omega
    clear hp
    generalize (16 / 1 - pc x.t : Nat) = R at *
    by_cases h0 : x.c = 0
    · have e0 : ((x.c : Int) == 0) = true := by rw [beq_iff_eq]; omega
      go_enter Tryd.func116, Tryd.ntmps116
      go_wp2
      go_quiet ((go_at_call 128; exact Calls.quiet_of (ones_any x.t ht _)))
      go_wp2
      go_ret
      exact ⟨rfl, ((Below.refl _ _).alloc (Nat.le_refl _) _).trans ((below_drewN0 _ _).mono (by simp))⟩
    · have h1 : x.c = 1 := by omega
      have e0 : ((x.c : Int) == 0) = false := by rw [beq_eq_false_iff_ne]; omega
      have e1 : ((x.c : Int) == 1) = true := by rw [beq_iff_eq]; omega
      clear h h0 h1
      go_enter Tryd.func116, Tryd.ntmps116
      go_wp2
      go_quiet ((go_at_call 128; exact Calls.quiet_of (ones_any x.t ht _)))
      go_wp2
      go_ret
      exact ⟨rfl, ((Below.refl _ _).alloc (Nat.le_refl _) _).trans ((below_drewN0 _ _).mono (by simp))⟩
  · have hw : IntKind.i64.wrap (8 - (pc x.t : Int)) = ((16 / 2 - pc x.t : Nat) : Int) := by rw [IntKind.wrap_i64]; omega
    have hp' : pc x.t ≤ 8 := by omega
    clear hp
    generalize (16 / 2 - pc x.t : Nat) = R at *
    by_cases h0 : x.c = 0
    · have e0 : ((x.c : Int) == 0) = true := by rw [beq_iff_eq]; omega
      go_enter Tryd.func116, Tryd.ntmps116
      go_wp2
      go_quiet ((go_at_call 128; exact Calls.quiet_of (ones_any x.t ht _)))
      go_wp2
      go_ret
      exact ⟨rfl, ((Below.refl _ _).alloc (Nat.le_refl _) _).trans ((below_drewN0 _ _).mono (by simp))⟩
    · have h1 : x.c = 2 := by omega
      have e0 : ((x.c : Int) == 0) = false := by rw [beq_eq_false_iff_ne]; omega
      have e1 : ((x.c : Int) == 2) = true := by rw [beq_iff_eq]; omega
      clear h h0 h1
      go_enter Tryd.func116, Tryd.ntmps116
      go_wp2
      go_quiet ((go_at_call 128; exact Calls.quiet_of (ones_any x.t ht _)))
      go_wp2
      go_ret
      exact ⟨rfl, ((Below.refl _ _).alloc (Nat.le_refl _) _).trans ((below_drewN0 _ _).mono (by simp))⟩
  · have hw : IntKind.i64.wrap (4 - (pc x.t : Int)) = ((16 / 4 - pc x.t : Nat) : Int) := by rw [IntKind.wrap_i64]; omega
    have hp' : pc x.t ≤ 4 := by omega
    clear hp
    generalize (16 / 4 - pc x.t : Nat) = R at *
    by_cases h0 : x.c = 0
    · have e0 : ((x.c : Int) == 0) = true := by rw [beq_iff_eq]; omega
      go_enter Tryd.func116, Tryd.ntmps116
      go_wp2
      go_quiet ((go_at_call 128; exact Calls.quiet_of (ones_any x.t ht _)))
      go_wp2
      go_ret
      exact ⟨rfl, ((Below.refl _ _).alloc (Nat.le_refl _) _).trans ((below_drewN0 _ _).mono (by simp))⟩
    · have h1 : x.c = 4 := by omega
      have e0 : ((x.c : Int) == 0) = false := by rw [beq_eq_false_iff_ne]; omega
      have e1 : ((x.c : Int) == 4) = true := by rw [beq_iff_eq]; omega
      clear h h0 h1
      go_enter Tryd.func116, Tryd.ntmps116
      go_wp2
      go_quiet ((go_at_call 128; exact Calls.quiet_of (ones_any x.t ht _)))
      go_wp2
      go_ret
      exact ⟨rfl, ((Below.refl _ _).alloc (Nat.le_refl _) _).trans ((below_drewN0 _ _).mono (by simp))⟩
  · have hw : IntKind.i64.wrap (2 - (pc x.t : Int)) = ((16 / 8 - pc x.t : Nat) : Int) := by rw [IntKind.wrap_i64]; omega
    have hp' : pc x.t ≤ 2 := by omega
    clear hp
    generalize (16 / 8 - pc x.t : Nat) = R at *
    by_cases h0 : x.c = 0
    · have e0 : ((x.c : Int) == 0) = true := by rw [beq_iff_eq]; omega
      go_enter Tryd.func116, Tryd.ntmps116
      go_wp2
      go_quiet ((go_at_call 128; exact Calls.quiet_of (ones_any x.t ht _)))
      go_wp2
      go_ret
      exact ⟨rfl, ((Below.refl _ _).alloc (Nat.le_refl _) _).trans ((below_drewN0 _ _).mono (by simp))⟩
    · have h1 : x.c = 8 := by omega
      have e0 : ((x.c : Int) == 0) = false := by rw [beq_eq_false_iff_ne]; omega
      have e1 : ((x.c : Int) == 8) = true := by rw [beq_iff_eq]; omega
      clear h h0 h1
      go_enter Tryd.func116, Tryd.ntmps116
      go_wp2
      go_quiet ((go_at_call 128; exact Calls.quiet_of (ones_any x.t ht _)))
      go_wp2
      go_ret
      exact ⟨rfl, ((Below.refl _ _).alloc (Nat.le_refl _) _).trans ((below_drewN0 _ _).mono (by simp))⟩
  · have hw : IntKind.i64.wrap (1 - (pc x.t : Int)) = ((16 / 16 - pc x.t : Nat) : Int) := by rw [IntKind.wrap_i64]; omega
    have hp' : pc x.t ≤ 1 := by omega
    clear hp
    generalize (16 / 16 - pc x.t : Nat) = R at *
    by_cases h0 : x.c = 0
    · have e0 : ((x.c : Int) == 0) = true := by rw [beq_iff_eq]; omega
      go_enter Tryd.func116, Tryd.ntmps116
      go_wp2
      go_quiet ((go_at_call 128; exact Calls.quiet_of (ones_any x.t ht _)))
      go_wp2
      go_ret
      exact ⟨rfl, ((Below.refl _ _).alloc (Nat.le_refl _) _).trans ((below_drewN0 _ _).mono (by simp))⟩
    · have h1 : x.c = 16 := by omega
      have e0 : ((x.c : Int) == 0) = false := by rw [beq_eq_false_iff_ne]; omega
      have e1 : ((x.c : Int) == 16) = true := by rw [beq_iff_eq]; omega
      clear h h0 h1
      go_enter Tryd.func116, Tryd.ntmps116
      go_wp2
      go_quiet ((go_at_call 128; exact Calls.quiet_of (ones_any x.t ht _)))
      go_wp2
      go_ret
      exact ⟨rfl, ((Below.refl _ _).alloc (Nat.le_refl _) _).trans ((below_drewN0 _ _).mono (by simp))⟩

/-- How many places can be taken in a block. -/
theorem broom_any (x : Bk) (k : Nat) (hk : IsC k) (ht : x.t < 65536) (hp : x.c = 0 ∨ x.c = k → pc x.t ≤ 16 / k) (w : World) :
    Calls Tryd.prog 116 #[bkV x, .int .i64 (k : Int)] w fun e w' => e = .returned (.int .i64 (roomN x k : Nat)) ∧ Below w.heap.size w w' := by
  unfold roomN
  by_cases h : x.c = 0 ∨ x.c = k
  · rw [if_pos h]
    exact broom_yes x k hk ht h (hp h) w
  · rw [if_neg h]
    exact broom_no x k (fun e => h (Or.inl e)) (fun e => h (Or.inr e)) w

theorem bit_test (t q : Nat) (ht : t < 65536) : (bits BinOp.and IntKind.u32 ((t : Int) / 2 ^ q) 1 == 0) = !t.testBit q := by
  have e1 : (t : Int) / 2 ^ q = ((t / 2 ^ q : Nat) : Int) := by simp
  have hle : t / 2 ^ q ≤ t := Nat.div_le_self _ _
  rw [e1, show (1 : Int) = ((1 : Nat) : Int) from rfl, u32_and_nat _ 1 (by omega) (by omega), Nat.and_one_is_mod, Nat.testBit_eq_decide_div_mod_eq]
  have := Nat.mod_two_eq_zero_or_one (t / 2 ^ q)
  rcases this with h | h <;> rw [h] <;> decide

end Go.Proofs.YtlabdbfmfejkaaaDoor
