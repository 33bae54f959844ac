/- RootsCount: plain facts. No program's text is in it but the roots' reckoning. -/
import Derived.Test.YtfoodmlgknckgaaRoM
namespace Go.Proofs.Ytfoodmlgknckgaa
open Go.RowKit

/-- What a slot of the law's may hold. -/
def vOk (y : Int × Nat) : Prop := y = (0, 0) ∨ y = (1, 1) ∨ y = (1, 2) ∨ y = (2, 1) ∨ y = (2, 2)
structure Good (S : List Rw) : Prop where
  len : S.length = 4
  wid : ∀ r ∈ S, r.length = 8
  ok : ∀ r ∈ S, ∀ y ∈ r, vOk y
theorem good0 : Good (List.replicate 4 (List.replicate 8 (0, 0))) :=
  ⟨by simp, fun r hr => by rw [List.eq_of_mem_replicate hr]; simp, fun r hr y hy => by rw [List.eq_of_mem_replicate hr] at hy; exact Or.inl (List.eq_of_mem_replicate hy)⟩
theorem all0 : allR (List.replicate 4 (List.replicate 8 (0, 0))) = [] := by decide

theorem good_set {S : List Rw} (h : Good S) {i j : Nat} (hi : i < 4) (hj : j < 8) {x : Int × Nat} (hx : vOk x) : setB S (i : Int) (j : Int) x = true ∧ Good (setS S (i : Int) (j : Int) x) := by
  have hi' : i < S.length := by rw [h.len]; exact hi
  have hj' : j < S[i].length := by rw [h.wid _ (List.getElem_mem hi')]; exact hj
  have hr : rightI x = true := by
    rcases hx with rfl | rfl | rfl | rfl | rfl <;> decide
  refine ⟨by unfold setB; rw [hasB_at hi' hj', hr]; rfl, ?_⟩
  rw [setS_at hi' hj' hr]
  refine ⟨by rw [List.length_set]; exact h.len, fun r hm => ?_, fun r hm y hy => ?_⟩
  · rcases List.mem_or_eq_of_mem_set hm with h1 | rfl
    · exact h.wid r h1
    · rw [List.length_set]; exact h.wid _ (List.getElem_mem hi')
  · rcases List.mem_or_eq_of_mem_set hm with h1 | rfl
    · exact h.ok r h1 y hy
    · rcases List.mem_or_eq_of_mem_set hy with h2 | rfl
      · exact h.ok _ (List.getElem_mem hi') y h2
      · exact hx
/-- A mutator's slots are its own. -/
theorem of_other {S : List Rw} {i j : Nat} {x : Int × Nat} {m : Nat} (hm : m ≠ i) : ofR (setS S (i : Int) (j : Int) x) (m : Int) = ofR S (m : Int) := by
  have hrow : ∀ T : List Rw, rowR T (m : Int) = T[m]?.getD [] := fun T => by
    unfold rowR
    rw [if_pos (by omega), Int.toNat_natCast, List.getD_eq_getElem?_getD]
  unfold setS
  split
  · unfold ofR
    rw [hrow, hrow, Int.toNat_natCast, List.getElem?_set, if_neg (by omega)]
  · rfl

theorem keep_cnt (r : Rw) : (keepR r).length + r.countP (fun y => sameI y (0, 0)) = r.length := by
  induction r with
  | nil => rfl
  | cons y r ih =>
    unfold keepR at ih ⊢
    rw [List.filter_cons, List.countP_cons, List.length_cons, noneI_same]
    cases sameI y (0, 0)
    · simp; omega
    · simp; omega
theorem all_cnt : ∀ (S : List Rw), (∀ r ∈ S, r.length = 8) → (allR S).length + cntR S (0, 0) = S.length * 8
  | [], _ => rfl
  | r :: S, h => by
    have h1 := all_cnt S (fun r hr => h r (List.mem_cons_of_mem _ hr))
    have h2 := keep_cnt r
    have h3 := h r List.mem_cons_self
    unfold allR cntR at h1 ⊢
    rw [List.flatMap_cons, List.length_append, List.map_cons, List.sum_cons, List.length_cons]
    omega
theorem row_cnt : ∀ (r : Rw), (∀ y ∈ r, vOk y) → r.countP (fun y => sameI y (0, 0)) + r.countP (fun y => sameI y (1, 1)) + r.countP (fun y => sameI y (1, 2)) + r.countP (fun y => sameI y (2, 1)) + r.countP (fun y => sameI y (2, 2)) = r.length
  | [], _ => rfl
  | y :: r, h => by
    have h1 := row_cnt r (fun y hy => h y (List.mem_cons_of_mem _ hy))
    have h2 := h y List.mem_cons_self
    simp only [List.countP_cons, List.length_cons]
    have e : (if sameI y (0, 0) = true then 1 else 0) + (if sameI y (1, 1) = true then 1 else 0) + (if sameI y (1, 2) = true then 1 else 0) + (if sameI y (2, 1) = true then 1 else 0) + (if sameI y (2, 2) = true then 1 else 0) = 1 := by
      rcases h2 with rfl | rfl | rfl | rfl | rfl <;> decide
    omega
theorem cnt_cnt : ∀ (S : List Rw), (∀ r ∈ S, r.length = 8) → (∀ r ∈ S, ∀ y ∈ r, vOk y) → cntR S (0, 0) + cntR S (1, 1) + cntR S (1, 2) + cntR S (2, 1) + cntR S (2, 2) = S.length * 8
  | [], _, _ => rfl
  | r :: S, h, h' => by
    have h1 := cnt_cnt S (fun r hr => h r (List.mem_cons_of_mem _ hr)) (fun r hr => h' r (List.mem_cons_of_mem _ hr))
    have h2 := row_cnt r (h' r List.mem_cons_self)
    have h3 := h r List.mem_cons_self
    unfold cntR at h1 ⊢
    simp only [List.map_cons, List.sum_cons, List.length_cons]
    omega
/-- What is counted ahead of the pair a, b. -/
def totN (S : List Rw) (a b : Nat) : Nat :=
  cntR S (0, 0) + (if 1 < a ∨ a = 1 ∧ 1 < b then cntR S (1, 1) else 0) + (if 1 < a ∨ a = 1 ∧ 2 < b then cntR S (1, 2) else 0) + (if 2 < a ∨ a = 2 ∧ 1 < b then cntR S (2, 1) else 0) + (if 2 < a ∨ a = 2 ∧ 2 < b then cntR S (2, 2) else 0)
theorem tot_start (S : List Rw) : totN S 1 1 = cntR S (0, 0) := by simp [totN]
theorem tot_step (S : List Rw) (a b : Nat) (ha : 1 ≤ a ∧ a ≤ 2) (hb : 1 ≤ b ∧ b ≤ 2) : totN S a (b + 1) = totN S a b + cntR S ((a : Int), b) := by
  rcases (show a = 1 ∨ a = 2 by omega) with rfl | rfl <;> rcases (show b = 1 ∨ b = 2 by omega) with rfl | rfl <;> simp [totN]
theorem tot_next (S : List Rw) (a : Nat) (ha : 1 ≤ a ∧ a ≤ 2) : totN S (a + 1) 1 = totN S a 3 := by
  rcases (show a = 1 ∨ a = 2 by omega) with rfl | rfl <;> simp [totN]
theorem tot_end {S : List Rw} (h : Good S) : totN S 3 1 = 32 := by
  have := cnt_cnt S h.wid h.ok
  rw [h.len] at this
  simp [totN]
  omega
theorem tot_le (S : List Rw) (h : Good S) (a b : Nat) : totN S a b ≤ 32 := by
  have := cnt_cnt S h.wid h.ok
  rw [h.len] at this
  unfold totN
  repeat' split
  all_goals omega
theorem all_end {S : List Rw} (h : Good S) : (allR S).length + cntR S (0, 0) = 32 := by
  have := all_cnt S h.wid
  rw [h.len] at this
  omega

end Go.Proofs.Ytfoodmlgknckgaa
