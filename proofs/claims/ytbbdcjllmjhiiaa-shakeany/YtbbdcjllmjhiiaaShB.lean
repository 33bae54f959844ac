/- The methods of a shake. -/
import Derived.Test.YtbbdcjllmjhiiaaShA
namespace Go.Proofs.Ytbbdcjllmjhiiaa
open Go.RowKit

/-- The program's shake. -/
abbrev PX (w : World) (sb ga gs N : Nat) (s : St) : Prop := SX w [] sb 41 4 ga gs N s
section
variable {w w' : World} {sb ga gs N : Nat} {s : St}
theorem PX.c0 (x : PX w sb ga gs N s) : w.cell? ⟨sb, 0, none⟩ = some (.int .i64 (s.ph : Int)) := x.phase
theorem PX.c1 (x : PX w sb ga gs N s) : w.cell? ⟨sb, 1, none⟩ = some (.slice (some ⟨ga, 0, none⟩) N N) := x.armed
theorem PX.c2 (x : PX w sb ga gs N s) : w.cell? ⟨sb, 2, none⟩ = some (.slice (some ⟨gs, 0, none⟩) N N) := x.scanned
theorem PX.bA (x : PX w sb ga gs N s) : BL w ga N s.A := ⟨x.ra, x.la⟩
theorem PX.bS (x : PX w sb ga gs N s) : BL w gs N s.S := ⟨x.rs, x.ls⟩

set_option maxRecDepth 20000 in
theorem phase_any (x : PX w sb ga gs N s) :
    Calls Try.prog 18 #[.pointer (some ⟨sb, 0, none⟩)] w fun e w' => e = .returned (.int .i64 (s.ph : Int)) ∧ w = w' := by
  have c0 := x.c0
  clear x
  generalize s.ph = p at *
  go_enter Try.func18, Try.ntmps18
  go_wp2
  go_ret
  exact ⟨rfl, rfl⟩
set_option maxRecDepth 20000 in
theorem port_any (x : PX w sb ga gs N s) (n : Nat) (hn : N = n + 1) :
    Calls Try.prog 22 #[.pointer (some ⟨sb, 0, none⟩)] w fun e w' => e = .returned (.int .i64 (n : Int)) ∧ w = w' := by
  have c1 := x.c1
  have hf := x.few
  have hm : (N : Int) - 1 = (n : Int) := by omega
  have hm2 : n ≤ 4 := by omega
  clear x hn
  go_enter Try.func22, Try.ntmps22
  go_wp2
  go_ret
  exact ⟨by simp [go_sem], rfl⟩
set_option maxRecDepth 20000 in
set_option maxHeartbeats 400000 in
theorem isArmed_any (x : PX w sb ga gs N s) (m : Int) :
    Calls Try.prog 11 #[.pointer (some ⟨sb, 0, none⟩), .int .i64 m] w fun e w' => e = .returned (.bool (isB s.A m)) ∧ w = w' := by
  have c1 := x.c1
  have hH := has_any ga N m w
  have hf := x.few
  by_cases h1 : 0 ≤ m ∧ m < (N : Int)
  · rw [decide_eq_true h1] at hH
    obtain ⟨i, rfl⟩ := Int.eq_ofNat_of_zero_le h1.1
    have hi : i < s.A.length := by have := x.la; omega
    rw [isB_at hi]
    have hc := x.bA.cell i hi
    have hlt := h1.2
    generalize s.A[i] = b at *
    clear x hi h1
    go_enter Try.func11, Try.ntmps11
    go_wp2_with (go_at_call 23; refine hH.mono ?_; rintro e _ ⟨rfl, rfl⟩)
    go_ret
    exact ⟨rfl, rfl⟩
  · rw [decide_eq_false h1] at hH
    rw [isB_off (by have := x.la; omega)]
    clear x h1
    go_enter Try.func11, Try.ntmps11
    go_wp2_with (go_at_call 23; refine hH.mono ?_; rintro e _ ⟨rfl, rfl⟩)
    go_ret
    exact ⟨rfl, rfl⟩
set_option maxRecDepth 20000 in
set_option maxHeartbeats 400000 in
theorem hasScanned_any (x : PX w sb ga gs N s) (m : Int) :
    Calls Try.prog 20 #[.pointer (some ⟨sb, 0, none⟩), .int .i64 m] w fun e w' => e = .returned (.bool (isB s.S m)) ∧ w = w' := by
  have c1 := x.c2
  have hH := has_any gs N m w
  have hf := x.few
  by_cases h1 : 0 ≤ m ∧ m < (N : Int)
  · rw [decide_eq_true h1] at hH
    obtain ⟨i, rfl⟩ := Int.eq_ofNat_of_zero_le h1.1
    have hi : i < s.S.length := by have := x.ls; omega
    rw [isB_at hi]
    have hc := x.bS.cell i hi
    have hlt := h1.2
    generalize s.S[i] = b at *
    clear x hi h1
    go_enter Try.func20, Try.ntmps20
    go_wp2_with (go_at_call 23; refine hH.mono ?_; rintro e _ ⟨rfl, rfl⟩)
    go_ret
    exact ⟨rfl, rfl⟩
  · rw [decide_eq_false h1] at hH
    rw [isB_off (by have := x.ls; omega)]
    clear x h1
    go_enter Try.func20, Try.ntmps20
    go_wp2_with (go_at_call 23; refine hH.mono ?_; rintro e _ ⟨rfl, rfl⟩)
    go_ret
    exact ⟨rfl, rfl⟩

set_option maxRecDepth 20000 in
set_option maxHeartbeats 400000 in
theorem begin_no (x : PX w sb ga gs N s) (h : s.ph ≠ 0) :
    Calls Try.prog 10 #[.pointer (some ⟨sb, 0, none⟩)] w fun e w' => e = .returned (.int .i64 10) ∧ w = w' := by
  have c0 := x.c0
  have hp : ¬ (s.ph : Int) = 0 := by omega
  clear x h
  generalize s.ph = p at *
  go_enter Try.func10, Try.ntmps10
  go_wp2
  go_ret
  exact ⟨rfl, rfl⟩
set_option maxRecDepth 20000 in
set_option maxHeartbeats 400000 in
theorem begin_ok (x : PX w sb ga gs N s) (n : Nat) (hn : N = n + 1) (h : s.ph = 0) :
    Calls Try.prog 10 #[.pointer (some ⟨sb, 0, none⟩)] w fun e w' => e = .returned (.int .i64 0) ∧ PX w' sb ga gs N ⟨1, s.A.set n true, s.S⟩ ∧ Kept w w' (xBl sb ga gs) := by
  have c0 := x.c0
  rw [h] at c0
  have f0 := x.box.frozen 0
  have hf := x.few
  have hx1 : PX (w.setCell ⟨sb, 0, none⟩ (.int .i64 1)) sb ga gs N ⟨1, s.A, s.S⟩ := x.turn 1
  have hk1 := Kept.setCell w ⟨sb, 0, none⟩ (.int .i64 1)
  have hla := x.la
  have HX1 : Hid _ := hidden hx1
  have HK1 : Hid _ := hidden hk1
  clear hx1 hk1
  have hl0 := x.box.lt
  clear x h
  go_enter Try.func10, Try.ntmps10
  go_wp2
  generalize w.setCell ⟨sb, 0, none⟩ (.int .i64 1) = w1 at *
  have x1 := HX1.out
  have c1 := x1.c1
  have hP := fun W (hb : Below w1.heap.size w1 W) => port_any (x1.below hb) n hn
  have hnl : n < s.A.length := by omega
  obtain ⟨b0, hc⟩ : ∃ b, w1.cell? ⟨ga, n, none⟩ = some (.bool b) := ⟨_, x1.bA.cell n hnl⟩
  have fa := x1.ra.frozen n
  have hla := x1.ra.lt
  have hlt : (n : Int) < (N : Int) := by omega
  have hn0 : (0 : Int) ≤ (n : Int) := by omega
  have HX2 : Hid (∀ W, Below (w1.setCell ⟨ga, n, none⟩ (.bool true)).heap.size (w1.setCell ⟨ga, n, none⟩ (.bool true)) W → PX W sb ga gs N ⟨1, s.A.set n true, s.S⟩ ∧ Kept w W (xBl sb ga gs)) :=
    fun W hb => ⟨(HX1.out.setA n).below hb, ((HK1.out.mono (fun i _ e => Or.inl e)).trans (Kept.setCell w1 ⟨ga, n, none⟩ (.bool true)) (fun i _ e => Or.inr (Or.inl e))).trans (kept_of_below hb _) (fun _ _ => id)⟩
  clear x1 hnl
  go_region_with (go_at_call 22; refine (hP _ (by first | exact Below.refl _ _ | exact (Below.refl _ _).drew)).mono ?_; rintro e _ ⟨rfl, rfl⟩)
  all_goals go_wp2
  all_goals go_ret
  all_goals exact ⟨rfl, HX2.out _ (by first | exact Below.refl _ _ | exact (Below.refl _ _).drew)⟩
theorem begin_any (x : PX w sb ga gs N s) (n : Nat) (hn : N = n + 1) :
    Calls Try.prog 10 #[.pointer (some ⟨sb, 0, none⟩)] w fun e w' => e = .returned (.int .i64 (if s.ph = 0 then 0 else 10)) ∧ PX w' sb ga gs N (s.begin n) ∧ Kept w w' (xBl sb ga gs) := by
  unfold St.begin
  by_cases h : s.ph = 0
  · rw [if_pos h, if_pos h]
    exact begin_ok x n hn h
  · rw [if_neg h, if_neg h]
    exact (begin_no x h).mono (fun e w' ⟨h1, h2⟩ => by subst h2; exact ⟨h1, x, Kept.refl _ _⟩)

set_option maxRecDepth 20000 in
set_option maxHeartbeats 400000 in
theorem arm_no (x : PX w sb ga gs N s) (m : Int) (h : newB s.A m = false) :
    Calls Try.prog 24 #[.pointer (some ⟨sb, 0, none⟩), .int .i64 m] w fun e w' => e = .returned (.int .i64 0) ∧ w = w' := by
  have c1 := x.c1
  have hE := enter_no x.bA m h
  clear x h
  go_enter Try.func24, Try.ntmps24
  go_wp2_with (go_at_call 27; refine hE.mono ?_; rintro e _ ⟨rfl, rfl⟩)
  go_ret
  exact ⟨rfl, rfl⟩
set_option maxRecDepth 20000 in
set_option maxHeartbeats 400000 in
theorem arm_ok (x : PX w sb ga gs N s) (hp : s.ph = 1) (i : Nat) (hi : i < s.A.length) (hf : s.A[i] = false) :
    Calls Try.prog 24 #[.pointer (some ⟨sb, 0, none⟩), .int .i64 (i : Int)] w fun e w' => e = .returned (.int .i64 1) ∧ PX w' sb ga gs N ⟨if fullB (s.A.set i true) then 2 else 1, s.A.set i true, s.S⟩ ∧ Kept w w' (xBl sb ga gs) := by
  have c1 := x.c1
  have hE := enter_ok x.bA i hi hf
  have x1 : PX (w.setCell ⟨ga, i, none⟩ (.bool true)) sb ga gs N ⟨s.ph, s.A.set i true, s.S⟩ := x.setA i
  have k1 : Kept w (w.setCell ⟨ga, i, none⟩ (.bool true)) (xBl sb ga gs) := (Kept.setCell w ⟨ga, i, none⟩ (.bool true)).mono (fun k _ e => Or.inr (Or.inl e))
  have hF := full_any x1.bA x1.few.2
  rw [hp] at x1
  generalize w.setCell ⟨ga, i, none⟩ (.bool true) = w1 at *
  have d1 := x1.c1
  have d0 := x1.c0
  have f0 := x1.box.frozen 0
  have hl := x1.box.lt
  have HX : Hid _ := hidden x1
  have HK : Hid _ := hidden k1
  have HX2 : Hid (PX (w1.setCell ⟨sb, 0, none⟩ (.int .i64 2)) sb ga gs N ⟨2, s.A.set i true, s.S⟩ ∧ Kept w (w1.setCell ⟨sb, 0, none⟩ (.int .i64 2)) (xBl sb ga gs)) :=
    ⟨x1.turn 2, k1.trans (Kept.setCell w1 ⟨sb, 0, none⟩ (.int .i64 2)) (fun i _ e => Or.inl e)⟩
  clear x x1 k1 hp hi hf
  generalize s.A.set i true = A' at *
  cases hb : fullB A' with
  | true =>
    rw [hb] at hF
    clear hb
    go_enter Try.func24, Try.ntmps24
    go_wp2_with (first
      | (go_at_call 27; refine hE.mono ?_; rintro e _ ⟨rfl, rfl⟩)
      | (go_at_call 28; refine hF.mono ?_; rintro e _ ⟨rfl, rfl⟩))
    go_ret
    exact ⟨rfl, HX2.out⟩
  | false =>
    rw [hb] at hF
    clear hb
    go_enter Try.func24, Try.ntmps24
    go_wp2_with (first
      | (go_at_call 27; refine hE.mono ?_; rintro e _ ⟨rfl, rfl⟩)
      | (go_at_call 28; refine hF.mono ?_; rintro e _ ⟨rfl, rfl⟩))
    go_ret
    exact ⟨rfl, HX.out, HK.out⟩
set_option maxRecDepth 20000 in
set_option maxHeartbeats 400000 in
theorem scan_no (x : PX w sb ga gs N s) (m : Int) (h : newB s.S m = false) :
    Calls Try.prog 25 #[.pointer (some ⟨sb, 0, none⟩), .int .i64 m] w fun e w' => e = .returned (.int .i64 0) ∧ w = w' := by
  have c1 := x.c2
  have hE := enter_no x.bS m h
  clear x h
  go_enter Try.func25, Try.ntmps25
  go_wp2_with (go_at_call 27; refine hE.mono ?_; rintro e _ ⟨rfl, rfl⟩)
  go_ret
  exact ⟨rfl, rfl⟩
set_option maxRecDepth 20000 in
set_option maxHeartbeats 400000 in
theorem scan_ok (x : PX w sb ga gs N s) (hp : s.ph = 2) (i : Nat) (hi : i < s.S.length) (hf : s.S[i] = false) :
    Calls Try.prog 25 #[.pointer (some ⟨sb, 0, none⟩), .int .i64 (i : Int)] w fun e w' => e = .returned (.int .i64 2) ∧ PX w' sb ga gs N ⟨if fullB (s.S.set i true) then 3 else 2, s.A, s.S.set i true⟩ ∧ Kept w w' (xBl sb ga gs) := by
  have c1 := x.c2
  have hE := enter_ok x.bS i hi hf
  have x1 : PX (w.setCell ⟨gs, i, none⟩ (.bool true)) sb ga gs N ⟨s.ph, s.A, s.S.set i true⟩ := x.setS i
  have k1 : Kept w (w.setCell ⟨gs, i, none⟩ (.bool true)) (xBl sb ga gs) := (Kept.setCell w ⟨gs, i, none⟩ (.bool true)).mono (fun k _ e => Or.inr (Or.inr e))
  have hF := full_any x1.bS x1.few.2
  rw [hp] at x1
  generalize w.setCell ⟨gs, i, none⟩ (.bool true) = w1 at *
  have d1 := x1.c2
  have d0 := x1.c0
  have f0 := x1.box.frozen 0
  have hl := x1.box.lt
  have HX : Hid _ := hidden x1
  have HK : Hid _ := hidden k1
  have HX2 : Hid (PX (w1.setCell ⟨sb, 0, none⟩ (.int .i64 3)) sb ga gs N ⟨3, s.A, s.S.set i true⟩ ∧ Kept w (w1.setCell ⟨sb, 0, none⟩ (.int .i64 3)) (xBl sb ga gs)) :=
    ⟨x1.turn 3, k1.trans (Kept.setCell w1 ⟨sb, 0, none⟩ (.int .i64 3)) (fun i _ e => Or.inl e)⟩
  clear x x1 k1 hp hi hf
  generalize s.S.set i true = A' at *
  cases hb : fullB A' with
  | true =>
    rw [hb] at hF
    clear hb
    go_enter Try.func25, Try.ntmps25
    go_wp2_with (first
      | (go_at_call 27; refine hE.mono ?_; rintro e _ ⟨rfl, rfl⟩)
      | (go_at_call 28; refine hF.mono ?_; rintro e _ ⟨rfl, rfl⟩))
    go_ret
    exact ⟨rfl, HX2.out⟩
  | false =>
    rw [hb] at hF
    clear hb
    go_enter Try.func25, Try.ntmps25
    go_wp2_with (first
      | (go_at_call 27; refine hE.mono ?_; rintro e _ ⟨rfl, rfl⟩)
      | (go_at_call 28; refine hF.mono ?_; rintro e _ ⟨rfl, rfl⟩))
    go_ret
    exact ⟨rfl, HX.out, HK.out⟩
theorem arm_any (x : PX w sb ga gs N s) (hp : s.ph = 1) (m : Int) :
    Calls Try.prog 24 #[.pointer (some ⟨sb, 0, none⟩), .int .i64 m] w fun e w' => e = .returned (.int .i64 (ansR s m : Int)) ∧ PX w' sb ga gs N (s.ans m) ∧ Kept w w' (xBl sb ga gs) := by
  unfold ansR St.ans
  rw [if_pos hp, if_pos hp]
  cases h : newB s.A m with
  | false => exact (arm_no x m h).mono (fun e w' ⟨h1, h2⟩ => by subst h2; exact ⟨h1, x, Kept.refl _ _⟩)
  | true =>
    obtain ⟨i, rfl, hi, hf⟩ := newB_nat h
    exact arm_ok x hp i hi hf
theorem scan_any (x : PX w sb ga gs N s) (hp : s.ph = 2) (m : Int) :
    Calls Try.prog 25 #[.pointer (some ⟨sb, 0, none⟩), .int .i64 m] w fun e w' => e = .returned (.int .i64 (ansR s m : Int)) ∧ PX w' sb ga gs N (s.ans m) ∧ Kept w w' (xBl sb ga gs) := by
  unfold ansR St.ans
  have h1 : ¬ s.ph = 1 := by omega
  rw [if_neg h1, if_neg h1, if_pos hp, if_pos hp]
  cases h : newB s.S m with
  | false => exact (scan_no x m h).mono (fun e w' ⟨h1, h2⟩ => by subst h2; exact ⟨h1, x, Kept.refl _ _⟩)
  | true =>
    obtain ⟨i, rfl, hi, hf⟩ := newB_nat h
    exact scan_ok x hp i hi hf
set_option maxRecDepth 20000 in
set_option maxHeartbeats 400000 in
theorem answer_any (x : PX w sb ga gs N s) (m : Int) :
    Calls Try.prog 12 #[.pointer (some ⟨sb, 0, none⟩), .int .i64 m] w fun e w' => e = .returned (.int .i64 (ansR s m : Int)) ∧ PX w' sb ga gs N (s.ans m) ∧ Kept w w' (xBl sb ga gs) := by
  have c0 := x.c0
  by_cases h1 : s.ph = 1
  · have hA := arm_any x h1 m
    rw [h1] at c0
    clear x h1
    generalize ansR s m = r at *
    generalize s.ans m = s' at *
    go_enter Try.func12, Try.ntmps12
    go_wp2_with (go_at_call 24; refine hA.mono ?_; rintro e w1 ⟨rfl, hx, hk⟩)
    go_ret
    exact ⟨rfl, hx, hk⟩
  · by_cases h2 : s.ph = 2
    · have hA := scan_any x h2 m
      rw [h2] at c0
      clear x h1 h2
      generalize ansR s m = r at *
      generalize s.ans m = s' at *
      go_enter Try.func12, Try.ntmps12
      go_wp2_with (go_at_call 25; refine hA.mono ?_; rintro e w1 ⟨rfl, hx, hk⟩)
      go_ret
      exact ⟨rfl, hx, hk⟩
    · have e1 : ansR s m = 0 := by unfold ansR; rw [if_neg h1, if_neg h2]
      have e2 : s.ans m = s := by unfold St.ans; rw [if_neg h1, if_neg h2]
      rw [e1, e2]
      have HX : Hid _ := hidden x
      have h1' : ¬ (s.ph : Int) = 1 := by omega
      have h2' : ¬ (s.ph : Int) = 2 := by omega
      clear x e1 e2 h1 h2
      generalize s.ph = p at *
      go_enter Try.func12, Try.ntmps12
      go_wp2
      go_ret
      exact ⟨rfl, HX.out, Kept.refl _ _⟩
end
end Go.Proofs.Ytbbdcjllmjhiiaa
