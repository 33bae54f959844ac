/- row, has, right, Get, Set. -/
import Derived.Test.YtfoodmlgknckgaaRoM
namespace Go.Proofs.Ytfoodmlgknckgaa
open Go.RowKit

section
variable {w : World} {rb tb cap K : Nat} {gs : List Nat} {S : List Rw}
set_option maxRecDepth 20000 in
set_option maxHeartbeats 400000 in
theorem row_no (x : RX w rb tb cap gs K S) (m : Int) (h : m < 0 ∨ (S.length : Int) ≤ m) :
    Calls Try.prog 24 #[.pointer (some ⟨rb, 0, none⟩), .int .i64 m] w fun e w' => e = .returned (.slice none 0 0) ∧ w = w' := by
  have c0 := x.box
  have hf := x.few
  unfold maxLen at hf
  clear x
  generalize S.length = n at *
  by_cases h1 : m < 0
  · clear h
    go_enter Try.func24, Try.ntmps24
    go_wp2
    go_ret
    exact ⟨rfl, rfl⟩
  · have h2 : (n : Int) ≤ m := by omega
    clear h
    go_enter Try.func24, Try.ntmps24
    go_wp2
    go_ret
    exact ⟨rfl, rfl⟩
set_option maxRecDepth 20000 in
set_option maxHeartbeats 400000 in
theorem row_ok (x : RX w rb tb cap gs K S) (m g : Nat) (h : m < S.length) (hg : gs[m]? = some g) :
    Calls Try.prog 24 #[.pointer (some ⟨rb, 0, none⟩), .int .i64 (m : Int)] w fun e w' => e = .returned (.slice (some ⟨g, 0, none⟩) K K) ∧ w = w' := by
  have c0 := x.box
  have c1 := x.tab m g hg
  have hf := x.few
  unfold maxLen at hf
  clear x hg
  generalize S.length = n at *
  go_enter Try.func24, Try.ntmps24
  go_wp2
  go_ret
  exact ⟨rfl, rfl⟩

set_option maxRecDepth 20000 in
set_option maxHeartbeats 400000 in
theorem has_any (x : RX w rb tb cap gs K S) (m s : Int) :
    Calls Try.prog 22 #[.pointer (some ⟨rb, 0, none⟩), .int .i64 m, .int .i64 s] w fun e w' => e = .returned (.bool (hasB S m s)) ∧ w = w' := by
  unfold hasB
  by_cases hs : 0 ≤ s
  · by_cases hm : m < 0 ∨ (S.length : Int) ≤ m
    · rw [rowR_no S m hm]
      have hR := row_no x m hm
      clear x hm
      go_enter Try.func22, Try.ntmps22
      go_wp2_with (go_at_call 24; refine hR.mono ?_; rintro e _ ⟨rfl, rfl⟩)
      go_ret
      refine ⟨congrArg (fun b => Ending.returned (.bool b)) ?_, rfl⟩
      simp
      omega
    · obtain ⟨i, rfl⟩ : ∃ i : Nat, m = (i : Int) := ⟨m.toNat, by omega⟩
      have hi : i < S.length := by omega
      obtain ⟨g, hg, _, _, hl⟩ := x.at i hi
      have hR := row_ok x i g hi hg
      rw [rowR_nat S i hi, hl]
      have hf := x.few
      clear x hm hl hg
      go_enter Try.func22, Try.ntmps22
      go_wp2_with (go_at_call 24; refine hR.mono ?_; rintro e _ ⟨rfl, rfl⟩)
      go_ret
      exact ⟨congrArg (fun b => Ending.returned (.bool b)) (by simp [hs]), rfl⟩
  · clear x
    go_enter Try.func22, Try.ntmps22
    go_wp2
    go_ret
    exact ⟨congrArg (fun b => Ending.returned (.bool b)) (by simp; omega), rfl⟩
end

set_option maxRecDepth 20000 in
set_option maxHeartbeats 400000 in
theorem right_zero (w : World) :
    Calls Try.prog 23 #[.agg #[.int .i64 0, .int .u64 0]] w fun e w' => e = .returned (.bool true) ∧ Below w.heap.size w w' := by
  have hg := guardID
  have he := eqID
  go_enter Try.func23, Try.ntmps23
  go_wp2
  go_ret
  exact ⟨rfl, (Below.refl _ _).alloc (Nat.le_refl _) _⟩
theorem rightI_no {a : Int} {n : Nat} (h0 : ¬ (a = 0 ∧ n = 0)) (h : ¬ (1 ≤ a ∧ a ≤ 64 ∧ 1 ≤ n ∧ n ≤ 72057594037927935)) : rightI (a, n) = false := by
  have h1 : rightI (a, n) = decide ((a = 0 ∧ n = 0) ∨ (1 ≤ a ∧ a ≤ 64 ∧ 1 ≤ n ∧ n ≤ 72057594037927935)) := by
    unfold rightI
    rw [Bool.eq_iff_iff]
    simp only [Bool.or_eq_true, Bool.and_eq_true, decide_eq_true_eq, beq_iff_eq]
    omega
  rw [h1]
  exact decide_eq_false (fun e => e.elim h0 h)
theorem rightI_yes {a : Int} {n : Nat} (h : (a = 0 ∧ n = 0) ∨ (1 ≤ a ∧ a ≤ 64 ∧ 1 ≤ n ∧ n ≤ 72057594037927935)) : rightI (a, n) = true := by
  unfold rightI
  simp only [Bool.or_eq_true, Bool.and_eq_true, decide_eq_true_eq, beq_iff_eq]
  omega
set_option maxRecDepth 20000 in
set_option maxHeartbeats 400000 in
theorem right_any (a : Int) (n : Nat) (w : World) :
    Calls Try.prog 23 #[.agg #[.int .i64 a, .int .u64 (n : Int)]] w fun e w' => e = .returned (.bool (rightI (a, n))) ∧ Below w.heap.size w w' := by
  by_cases hz : a = 0 ∧ n = 0
  · rw [rightI_yes (Or.inl hz), hz.1, hz.2]
    exact right_zero w
  have hE : (a == 0 && ((n : Int) == 0)) = false := by
    rw [Bool.eq_false_iff]
    intro e
    simp only [Bool.and_eq_true, beq_iff_eq] at e
    omega
  have hg := guardID
  have he := fun W => eqID a 0 (n : Int) 0 W
  rw [hE] at he
  clear hE
  by_cases h1 : 1 ≤ a
  · by_cases h4 : a ≤ 64
    · by_cases h2 : 1 ≤ n
      · have h2i : (1 : Int) ≤ (n : Int) := by omega
        by_cases h3 : n ≤ 72057594037927935
        · have h3i : (n : Int) ≤ 72057594037927935 := by omega
          rw [rightI_yes (Or.inr ⟨h1, h4, h2, h3⟩)]
          clear h2 h3 hz
          go_enter Try.func23, Try.ntmps23
          go_wp2
          go_ret
          exact ⟨rfl, (Below.refl _ _).alloc (Nat.le_refl _) _⟩
        · have h3i : decide ((n : Int) ≤ 72057594037927935) = false := decide_eq_false (by omega)
          rw [rightI_no hz (fun e => h3 e.2.2.2)]
          clear h2 h3 hz
          go_enter Try.func23, Try.ntmps23
          go_wp2
          go_ret
          exact ⟨rfl, (Below.refl _ _).alloc (Nat.le_refl _) _⟩
      · have h2i : decide ((1 : Int) ≤ (n : Int)) = false := decide_eq_false (by omega)
        rw [rightI_no hz (fun e => h2 e.2.2.1)]
        clear h2 hz
        go_enter Try.func23, Try.ntmps23
        go_wp2
        go_ret
        exact ⟨rfl, (Below.refl _ _).alloc (Nat.le_refl _) _⟩
    · have h4i : decide (a ≤ 64) = false := decide_eq_false h4
      rw [rightI_no hz (fun e => h4 e.2.1)]
      clear h4 hz
      go_enter Try.func23, Try.ntmps23
      go_wp2
      go_ret
      exact ⟨rfl, (Below.refl _ _).alloc (Nat.le_refl _) _⟩
  · have h1i : decide (1 ≤ a) = false := decide_eq_false h1
    rw [rightI_no hz (fun e => h1 e.1)]
    clear h1 hz
    go_enter Try.func23, Try.ntmps23
    go_wp2
    go_ret
    exact ⟨rfl, (Below.refl _ _).alloc (Nat.le_refl _) _⟩

end Go.Proofs.Ytfoodmlgknckgaa
