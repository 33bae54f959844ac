/- right. -/
import Derived.Test.YtdafpfdmnccelaaDoorHpDP
import Derived.Laws.StructEq
namespace Go.Proofs.YtdafpfdmnccelaaDoor
open Go.RowKit

theorem guardID : Tryd.prog.eqGuardType Tryd.prog.depth 51 = false := by kernel_rfl
theorem stoodID : Tryd.prog.stoodInHeld 51 = false := by kernel_rfl
set_option maxRecDepth 20000 in
theorem eqID (a c : Int) (b d : Int) (W : World) : (Op.equalIn 10000 51 (.agg #[.int .i64 a, .int .u64 b]) (.agg #[.int .i64 c, .int .u64 d])).run Tryd.prog W = .ok (a == c && b == d) W := by
  have hu : Tryd.prog.underlying 51 = some (.struct (Tryd.prog.fieldsOf 51)) := by kernel_rfl
  rw [show (10000 : Nat) = 9998 + 1 + 1 from rfl, run_equalIn_struct (P := Tryd.prog) W (9998 + 1) 51 _ _ hu stoodID]
  obtain ⟨f0, f1, hf, n0, n1, t0, t1, o0, o1⟩ : ∃ f0 f1, (Tryd.prog.fieldsOf 51).toList = [f0, f1] ∧ ¬ f0.name = "_" ∧ ¬ f1.name = "_" ∧ f0.type = 3 ∧ f1.type = 39 ∧ f0.offset = 0 ∧ f1.offset = 1 := ⟨_, _, rfl, by decide, by decide, rfl, rfl, rfl, rfl⟩
  rw [hf]
  have p0 : ∀ x y : Value, (part 3 #[x, y] 0).run Tryd.prog W = .ok x W := fun x y => rfl
  have p1 : ∀ x y : Value, (part 39 #[x, y] 1).run Tryd.prog W = .ok y W := fun x y => rfl
  have e0 := fun n => run_equalIn_int (P := Tryd.prog) W n 3 .i64 .i64 a c Tryd.underlying3
  have e1 := fun n => run_equalIn_int (P := Tryd.prog) W n 39 .u64 .u64 b d Tryd.underlying39
  simp [Op.eqFields, Result.andThen, n0, n1, t0, t1, o0, o1, p0, p1, e0, e1]
  by_cases h1 : a = c
  · by_cases h2 : b = d <;> simp [h1, h2]
  · simp [h1]

set_option maxRecDepth 20000 in
set_option maxHeartbeats 400000 in
theorem right_zero (w : World) :
    Calls Tryd.prog 63 #[.agg #[.int .i64 0, .int .u64 0]] w fun e w' => e = .returned (.bool true) ∧ Below w.heap.size w w' := by
  have hg := guardID
  have he := eqID
  go_enter Tryd.func63, Tryd.ntmps63
  go_wp2
  go_ret
  exact ⟨rfl, (Below.refl _ _).alloc (Nat.le_refl _) _⟩

theorem rightI_no {a : Int} {n : Nat} (h0 : ¬ (a = 0 ∧ n = 0)) (h : ¬ (1 ≤ a ∧ a ≤ 64 ∧ 1 ≤ n ∧ n ≤ 72057594037927935)) : rightI (a, n) = false := by
  have h1 : rightI (a, n) = decide ((a = 0 ∧ n = 0) ∨ (1 ≤ a ∧ a ≤ 64 ∧ 1 ≤ n ∧ n ≤ 72057594037927935)) := by
    unfold rightI
    rw [Bool.eq_iff_iff]
    simp only [Bool.or_eq_true, Bool.and_eq_true, decide_eq_true_eq, beq_iff_eq]
    omega
  rw [h1]
  exact decide_eq_false (fun e => e.elim h0 h)
theorem rightI_yes {a : Int} {n : Nat} (h : (a = 0 ∧ n = 0) ∨ (1 ≤ a ∧ a ≤ 64 ∧ 1 ≤ n ∧ n ≤ 72057594037927935)) : rightI (a, n) = true := by
  unfold rightI
  simp only [Bool.or_eq_true, Bool.and_eq_true, decide_eq_true_eq, beq_iff_eq]
  omega

set_option maxRecDepth 20000 in
set_option maxHeartbeats 400000 in
theorem right_any (a : Int) (n : Nat) (w : World) :
    Calls Tryd.prog 63 #[.agg #[.int .i64 a, .int .u64 (n : Int)]] w fun e w' => e = .returned (.bool (rightI (a, n))) ∧ Below w.heap.size w w' := by
  by_cases hz : a = 0 ∧ n = 0
  · rw [rightI_yes (Or.inl hz), hz.1, hz.2]
    exact right_zero w
  have hE : (a == 0 && ((n : Int) == 0)) = false := by
    rw [Bool.eq_false_iff]
    intro e
    simp only [Bool.and_eq_true, beq_iff_eq] at e
    omega
  have hg := guardID
  have he := fun W => eqID a 0 (n : Int) 0 W
  rw [hE] at he
  clear hE
  by_cases h1 : 1 ≤ a ∧ a ≤ 64
  · have hW := fun w => within_yes a 1 64 h1.1 h1.2 w
    by_cases h2 : 1 ≤ n
    · have h2i : (1 : Int) ≤ (n : Int) := by omega
      by_cases h3 : n ≤ 72057594037927935
      · have h3i : (n : Int) ≤ 72057594037927935 := by omega
        rw [rightI_yes (Or.inr ⟨h1.1, h1.2, h2, h3⟩)]
        clear h1 h2 h3 hz
        go_enter Tryd.func63, Tryd.ntmps63
        go_wp2_with (go_at_call 51; refine (hW _).mono ?_; rintro e _ ⟨rfl, rfl⟩)
        go_ret
        exact ⟨rfl, (Below.refl _ _).alloc (Nat.le_refl _) _⟩
      · have h3i : decide ((n : Int) ≤ 72057594037927935) = false := decide_eq_false (by omega)
        rw [rightI_no hz (fun e => h3 e.2.2.2)]
        clear h1 h2 h3 hz
        go_enter Tryd.func63, Tryd.ntmps63
        go_wp2_with (go_at_call 51; refine (hW _).mono ?_; rintro e _ ⟨rfl, rfl⟩)
        go_ret
        exact ⟨rfl, (Below.refl _ _).alloc (Nat.le_refl _) _⟩
    · have h2i : decide ((1 : Int) ≤ (n : Int)) = false := decide_eq_false (by omega)
      rw [rightI_no hz (fun e => h2 e.2.2.1)]
      clear h1 h2 hz
      go_enter Tryd.func63, Tryd.ntmps63
      go_wp2_with (go_at_call 51; refine (hW _).mono ?_; rintro e _ ⟨rfl, rfl⟩)
      go_ret
      exact ⟨rfl, (Below.refl _ _).alloc (Nat.le_refl _) _⟩
  · have hW := fun w => within_no a 1 64 (by omega) w
    rw [rightI_no hz (fun e => h1 ⟨e.1, e.2.1⟩)]
    clear h1 hz
    go_enter Tryd.func63, Tryd.ntmps63
    go_wp2_with (go_at_call 51; refine (hW _).mono ?_; rintro e _ ⟨rfl, rfl⟩)
    go_ret
    exact ⟨rfl, (Below.refl _ _).alloc (Nat.le_refl _) _⟩

end Go.Proofs.YtdafpfdmnccelaaDoor
