/- Next. -/
import Derived.Test.YtfonlolgkaobcaaGreatDoorHpN
import Derived.Test.YtfonlolgkaobcaaGreatDoorWsl
namespace Go.Proofs.YtfonlolgkaobcaaGreatDoor
open Go.RowKit

/-- Of the keys ks that are not to come any more: the least above s, or none. -/
def Best (ks : List Nat) (left : Lit → Bool) (s lo : Nat) (fb : Bool) : Prop :=
  (fb = false ∧ lo = 0 ∧ ∀ k ∈ ks, left (kL k) = false → k ≤ s) ∨ (fb = true ∧ lo ∈ ks ∧ s < lo ∧ ∀ k ∈ ks, left (kL k) = false → s < k → lo ≤ k)
theorem strike_at {left : Lit → Bool} {k j : Nat} (h : (left (kL j) && !(kL j).sameKey (kL k)) = false) : left (kL j) = false ∨ j = k := by
  cases hl : left (kL j)
  · exact Or.inl rfl
  · rw [hl] at h
    simp only [Bool.true_and, Bool.not_eq_false'] at h
    exact Or.inr (kL_inj (WideAt.sameKey_eq h))
theorem Best.skip {ks : List Nat} {left : Lit → Bool} {s lo k : Nat} {fb : Bool} (h : Best ks left s lo fb) (hk : k ≤ s ∨ (fb = true ∧ lo ≤ k)) : Best ks (fun z => left z && !z.sameKey (kL k)) s lo fb := by
  rcases h with ⟨h1, h2, h3⟩ | ⟨h1, h2, h3, h4⟩
  · refine Or.inl ⟨h1, h2, fun j hj hl => ?_⟩
    rcases strike_at hl with e | e
    · exact h3 j hj e
    · rcases hk with hk | hk
      · omega
      · rw [h1] at hk; cases hk.1
  · refine Or.inr ⟨h1, h2, h3, fun j hj hl hs => ?_⟩
    rcases strike_at hl with e | e
    · exact h4 j hj e hs
    · omega
theorem Best.take {ks : List Nat} {left : Lit → Bool} {s lo k : Nat} {fb : Bool} (h : Best ks left s lo fb) (hm : k ∈ ks) (hk : s < k) (hf : fb = false ∨ k < lo) : Best ks (fun z => left z && !z.sameKey (kL k)) s k true := by
  refine Or.inr ⟨rfl, hm, hk, fun j hj hl hs => ?_⟩
  rcases strike_at hl with e | e
  · rcases h with ⟨h1, h2, h3⟩ | ⟨h1, h2, h3, h4⟩
    · have := h3 j hj e
      omega
    · have := h4 j hj e hs
      rcases hf with hf | hf
      · rw [h1] at hf; cases hf
      · omega
  · omega
theorem nextR_none {cs : List Oc} {s : Nat} (h : ∀ o ∈ cs, o.s ≤ s) : nextR cs s = (0, false) := by
  unfold nextR
  have : cs.find? (fun o => decide (s < o.s)) = none := by
    rw [List.find?_eq_none]
    intro o ho
    have := h o ho
    simp
    omega
  rw [this]
theorem nextR_some {cs : List Oc} (hs : cs.Pairwise (fun a b => a.s < b.s)) {s : Nat} {o : Oc} (ho : o ∈ cs) (h1 : s < o.s) (h2 : ∀ p ∈ cs, s < p.s → o.s ≤ p.s) : nextR cs s = (o.s, true) := by
  unfold nextR
  cases hf : cs.find? (fun o => decide (s < o.s)) with
  | none =>
    rw [List.find?_eq_none] at hf
    have := hf o ho
    simp at this
    omega
  | some p =>
    have hp := List.mem_of_find?_eq_some hf
    have hps : s < p.s := by simpa using List.find?_some hf
    have h3 := h2 p hp hps
    have h4 : p.s ≤ o.s := by
      rw [List.find?_eq_some_iff_append] at hf
      obtain ⟨_, la, lb, e, ha⟩ := hf
      rw [e] at hs ho
      rw [List.pairwise_append, List.pairwise_cons] at hs
      rcases List.mem_append.1 ho with ho | ho
      · have := ha o ho
        simp at this
        omega
      · rcases List.mem_cons.1 ho with rfl | ho
        · exact Nat.le_refl _
        · have := hs.2.1.1 o ho
          omega
    have : p.s = o.s := by omega
    simp only [this]
theorem Best.end {cs : List Oc} (hs : cs.Pairwise (fun a b => a.s < b.s)) {left : Lit → Bool} {s lo : Nat} {fb : Bool} (h : Best (cs.map (·.s)) left s lo fb) (hl : ∀ kl, left kl = false) : nextR cs s = (lo, fb) := by
  rcases h with ⟨rfl, rfl, h3⟩ | ⟨rfl, h2, h3, h4⟩
  · exact nextR_none (fun o ho => h3 o.s (List.mem_map.2 ⟨o, ho, rfl⟩) (hl _))
  · obtain ⟨o, ho, rfl⟩ := List.mem_map.1 h2
    exact nextR_some hs ho h3 (fun p hp hp' => h4 p.s (List.mem_map.2 ⟨p, hp, rfl⟩) (hl _) hp')

section
variable {w : World} {hb ab mb : Nat} {h : HSt} {L : List Pl}
end

end Go.Proofs.YtfonlolgkaobcaaGreatDoor
