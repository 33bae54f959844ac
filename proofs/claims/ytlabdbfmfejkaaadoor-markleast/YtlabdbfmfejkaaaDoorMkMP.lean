import Derived.Test.YtlabdbfmfejkaaaDoorMkD
import Derived.Test.YtlabdbfmfejkaaaDoorPaTuP
/- Marking ends: how many steps. No program's text is in it. -/
/- Marking marks with the least rank: what each step keeps, what holds in the end. No program's text is in it. -/
/- The least ranks, reckoned by rounds: after so many rounds nothing changes any more. No program's text is in it. -/
/- A graph's heap, as marking meets it. No program's text is in it. -/
/- Two paints of one heap that were marked to the end have the same marks, and met the same. No program's text is in it. -/
namespace Go.Proofs.YtlabdbfmfejkaaaDoor
open Go.RowKit

/-- How far a rank may still fall at an object, at all of 1 to n. -/
def v1 (p : PSt) (k : Nat) : Nat := match getA p.ma k with
  | none => 41
  | some (r, _) => r
def vee (n : Nat) (p : PSt) : Nat := ((List.range n).map (fun k => v1 p (k + 1))).sum
theorem vee_succ (n : Nat) (p : PSt) : vee (n + 1) p = vee n p + v1 p (n + 1) := by
  unfold vee
  rw [List.range_succ, List.map_append, List.sum_append]
  simp
theorem vee_mono {n : Nat} {p q : PSt} (h : ∀ k, v1 q k ≤ v1 p k) : vee n q ≤ vee n p := by
  induction n with
  | zero => exact Nat.le_refl _
  | succ n ih =>
    rw [vee_succ, vee_succ]
    have := h (n + 1)
    omega
theorem vee_less {n : Nat} {p q : PSt} (h : ∀ k, v1 q k ≤ v1 p k) {s : Nat} (h1 : 1 ≤ s) (h2 : s ≤ n) (h3 : v1 q s < v1 p s) : vee n q < vee n p := by
  induction n with
  | zero => omega
  | succ n ih =>
    rw [vee_succ, vee_succ]
    by_cases hs : s = n + 1
    · subst hs
      have := vee_mono (n := n) h
      omega
    · have := ih (by omega)
      have := h (n + 1)
      omega
theorem vee_new (n M : Nat) : vee n (PSt.new M) = 41 * n := by
  induction n with
  | zero => rfl
  | succ n ih =>
    rw [vee_succ, ih]
    show 41 * n + 41 = _
    omega
/-- What is left to be done at a paint: falls, pops, a pass. -/
def cost (n : Nat) (p : PSt) : Nat := (n + 1) * vee n p + p.stk.length + (if p.ov then n + 1 else 0)
theorem push_cost (n : Nat) (p : PSt) (s : Nat) : cost n (p.push s) ≤ cost n p + (n + 1) := by
  unfold PSt.push cost
  split
  · show (n + 1) * vee n p + (p.stk ++ [s]).length + (if p.ov then n + 1 else 0) ≤ _
    rw [List.length_append]
    simp only [List.length_cons, List.length_nil]
    omega
  · show (n + 1) * vee n p + p.stk.length + (if true then n + 1 else 0) ≤ _
    simp only [if_true]
    split <;> omega
theorem cost_ma {n : Nat} {p : PSt} {l : List (Nat × (Nat × Bool))} (h : vee n { p with ma := l } < vee n p) : cost n { p with ma := l } + (n + 1) ≤ cost n p := by
  unfold cost
  show (n + 1) * vee n { p with ma := l } + p.stk.length + (if p.ov then n + 1 else 0) + (n + 1) ≤ _
  have h2 : (n + 1) * (vee n { p with ma := l } + 1) ≤ (n + 1) * vee n p := Nat.mul_le_mul_left _ h
  rw [Nat.mul_add, Nat.mul_one] at h2
  omega
theorem own_cost {n : Nat} {h : HSt} (hin : ∀ k o, getC h.cs k = some o → 1 ≤ k ∧ k ≤ n) (p : PSt) (s r : Nat) (hr : r ≤ 40) : cost n (p.own h s r) ≤ cost n p := by
  unfold PSt.own
  split
  · next hs =>
    obtain ⟨o, ho⟩ := Option.isSome_iff_exists.1 hs
    obtain ⟨h1, h2⟩ := hin s o ho
    have hput : (∀ m, getA p.ma s = some m → r < m.1) → cost n { p with ma := putA p.ma s (r, true) } + (n + 1) ≤ cost n p := fun hv => by
      have hle : ∀ k, v1 { p with ma := putA p.ma s (r, true) } k ≤ v1 p k ∧ (k = s → v1 { p with ma := putA p.ma s (r, true) } k < v1 p k) := fun k => by
        unfold v1
        show (match getA (putA p.ma s (r, true)) k with | none => 41 | some (r, _) => r) ≤ _ ∧ (_ → (match getA (putA p.ma s (r, true)) k with | none => 41 | some (r, _) => r) < _)
        rw [getA_put]
        by_cases e : k = s
        · subst e
          rw [if_pos rfl]
          cases hm : getA p.ma k with
          | none => simp only; omega
          | some m =>
            obtain ⟨r0, g⟩ := m
            have := hv _ hm
            simp only at this ⊢
            omega
        · rw [if_neg e]
          exact ⟨Nat.le_refl _, fun h => absurd h e⟩
      exact cost_ma (vee_less (fun k => (hle k).1) h1 h2 ((hle s).2 rfl))
    cases hm : getA p.ma s with
    | none =>
      have a := hput (fun m h => by rw [hm] at h; cases h)
      have b := push_cost n { p with ma := putA p.ma s (r, true) } s
      simp only
      omega
    | some m =>
      obtain ⟨r0, g⟩ := m
      simp only
      by_cases h3 : r0 ≤ r
      · rw [if_pos h3]
        exact Nat.le_refl _
      · rw [if_neg h3]
        have a := hput (fun m h => by
          rw [hm] at h
          cases h
          show r < r0
          omega)
        cases g with
        | true =>
          rw [if_pos rfl]
          omega
        | false =>
          rw [if_neg (by simp)]
          have b := push_cost n { p with ma := putA p.ma s (r, true) } s
          omega
  · exact Nat.le_refl _
theorem meet_cost (n : Nat) (p : PSt) (x : Int × Nat) (r : Nat) : cost n (p.meet x r) = cost n p := by
  unfold PSt.meet
  split
  · rfl
  · split <;> rfl
theorem shade_cost {n : Nat} {h : HSt} (hin : ∀ k o, getC h.cs k = some o → 1 ≤ k ∧ k ≤ n) (p : PSt) (x : Int × Nat) (r : Int) : cost n (p.shade h x r) ≤ cost n p := by
  unfold PSt.shade
  split
  · split
    · exact own_cost hin p _ _ (clampR_le r)
    · exact Nat.le_of_eq (meet_cost n p _ _)
  · exact Nat.le_refl _
theorem all_cost {n : Nat} {h : HSt} (hin : ∀ k o, getC h.cs k = some o → 1 ≤ k ∧ k ≤ n) (r : Nat) : ∀ (l : List (Int × Nat)) (p : PSt), cost n (p.all h l r) ≤ cost n p
  | [], _ => Nat.le_refl _
  | x :: l, p => Nat.le_trans (all_cost hin r l (p.shade h x (r : Int))) (shade_cost hin p x r)
theorem scan_cost {n : Nat} {h : HSt} (hin : ∀ k o, getC h.cs k = some o → 1 ≤ k ∧ k ≤ n) (p : PSt) (s : Nat) : cost n (p.scan h s) ≤ cost n p := by
  unfold PSt.scan
  split
  · next o r _ hm =>
    refine Nat.le_trans (all_cost hin r o.rf _) ?_
    have hv : vee n { p with ma := putA p.ma s (r, false) } ≤ vee n p := vee_mono (fun k => by
      unfold v1
      show (match getA (putA p.ma s (r, false)) k with | none => 41 | some (r, _) => r) ≤ _
      rw [getA_put]
      by_cases e : k = s
      · subst e
        rw [if_pos rfl, hm]
        exact Nat.le_refl _
      · rw [if_neg e]
        exact Nat.le_refl _)
    unfold cost
    show (n + 1) * vee n { p with ma := putA p.ma s (r, false) } + p.stk.length + (if p.ov then n + 1 else 0) ≤ _
    have := Nat.mul_le_mul_left (n + 1) hv
    omega
  · exact Nat.le_refl _
/-- How many objects lie above. -/
def remC (cs : List Oc) (s : Nat) : Nat := cs.countP (fun o => decide (s < o.s))
theorem rem_le (cs : List Oc) (s : Nat) : remC cs s ≤ cs.length := List.countP_le_length
theorem rem_above {cs : List Oc} {s : Nat} {o : Oc} (h : aboveC cs s = some o) : remC cs o.s + 1 ≤ remC cs s := by
  obtain ⟨hm, hs⟩ := above_mem h
  unfold remC
  clear h
  induction cs with
  | nil => cases hm
  | cons c cs ih =>
    rw [List.countP_cons, List.countP_cons]
    have mono : ∀ l : List Oc, l.countP (fun q => decide (o.s < q.s)) ≤ l.countP (fun q => decide (s < q.s)) := fun l => List.countP_mono_left (fun q _ hq => by simp at hq ⊢; omega)
    rcases List.mem_cons.1 hm with rfl | hm
    · have := mono cs
      have h1 : decide (o.s < o.s) = false := by simp
      have h2 : decide (s < o.s) = true := by simpa using hs
      rw [h1, h2]
      simp only [if_true]
      have h3 : (if false = true then 1 else 0) = 0 := rfl
      rw [h3]
      omega
    · have := ih hm
      by_cases h1 : o.s < c.s
      · have e1 : decide (o.s < c.s) = true := by simpa using h1
        have e2 : decide (s < c.s) = true := by simp; omega
        rw [e1, e2]
        omega
      · have e1 : decide (o.s < c.s) = false := by simpa using h1
        rw [e1]
        have h3 : (if false = true then 1 else 0) = 0 := rfl
        rw [h3]
        omega
/-- What is left to be done. -/
def leftM (n : Nat) (h : HSt) (p : PSt) (m : MSt) : Nat := cost n p + (if m.on then remC h.cs m.pass else 0) + remC h.cs m.place
/-- What a marker has when nothing can be done. -/
structure Idle (h : HSt) (p : PSt) (m : MSt) : Prop where
  stk : p.stk = []
  ov : p.ov = false
  pass : m.on = true → ∀ o ∈ h.cs, o.s ≤ m.pass
  place : ∀ o ∈ h.cs, o.s ≤ m.place
theorem rest_cost (n : Nat) (p : PSt) (h : p.ov = true) : cost n p.rest + (n + 1) = cost n p := by
  unfold cost
  show (n + 1) * vee n p + p.stk.length + (if false then n + 1 else 0) + (n + 1) = _
  rw [h]
  simp
theorem tail_left {n : Nat} {h : HSt} (hin : ∀ k o, getC h.cs k = some o → 1 ≤ k ∧ k ≤ n) (hlen : h.cs.length ≤ n) (p : PSt) (m : MSt) (hs : p.stk = []) (hon : m.on = false) :
    ((tailR h p m).1 = true ∧ leftM n h (tailR h p m).2.1 (tailR h p m).2.2 + 1 ≤ leftM n h p m) ∨ (tailR h p m = (false, p, m) ∧ Idle h p m) := by
  unfold tailR
  cases ho : p.ov with
  | true =>
    left
    rw [if_pos rfl]
    refine ⟨rfl, ?_⟩
    unfold leftM
    have := rest_cost n p ho
    have := rem_le h.cs 0
    simp only [if_true]
    omega
  | false =>
    rw [if_neg (by simp)]
    cases ha : aboveC h.cs m.place with
    | none => exact Or.inr ⟨rfl, hs, ho, (fun e => by rw [hon] at e; cases e), above_none ha⟩
    | some o =>
      left
      refine ⟨rfl, ?_⟩
      have h1 := rem_above ha
      have h2 : cost n (if 0 < o.d then p.shade h ((h.node : Int), o.s) (o.d : Int) else p) ≤ cost n p := by
        split
        · exact shade_cost hin p _ _
        · exact Nat.le_refl _
      unfold leftM
      show cost n (if 0 < o.d then p.shade h ((h.node : Int), o.s) (o.d : Int) else p) + (if m.on then remC h.cs m.pass else 0) + remC h.cs o.s + 1 ≤ _
      omega
theorem pop_cost {n : Nat} {p : PSt} {a : Nat} (h : p.stk.getLast? = some a) : cost n p.pop + 1 = cost n p := by
  have hl : p.stk ≠ [] := by
    intro e
    rw [e] at h
    cases h
  have h2 : 0 < p.stk.length := List.length_pos_iff.2 hl
  unfold cost
  show (n + 1) * vee n p + p.stk.dropLast.length + (if p.ov then n + 1 else 0) + 1 = _
  rw [List.length_dropLast]
  omega
/-- A step that does something leaves less; one that does nothing changes nothing, and nothing is left. -/
theorem step_left {n : Nat} {h : HSt} (hin : ∀ k o, getC h.cs k = some o → 1 ≤ k ∧ k ≤ n) (hlen : h.cs.length ≤ n) (p : PSt) (m : MSt) :
    ((stepR h p m).1 = true ∧ leftM n h (stepR h p m).2.1 (stepR h p m).2.2 + 1 ≤ leftM n h p m) ∨ ((stepR h p m).1 = false ∧ (stepR h p m).2.1 = p ∧ Idle h p (stepR h p m).2.2 ∧ (stepR h p m).2.2.on = false) := by
  unfold stepR
  cases hg : p.stk.getLast? with
  | some a =>
    left
    refine ⟨rfl, ?_⟩
    have h1 := pop_cost (n := n) hg
    have h2 := scan_cost hin p.pop a
    unfold leftM
    show cost n (p.pop.scan h a) + (if m.on then remC h.cs m.pass else 0) + remC h.cs m.place + 1 ≤ cost n p + (if m.on then remC h.cs m.pass else 0) + remC h.cs m.place
    generalize (if m.on then remC h.cs m.pass else 0) = c
    omega
  | none =>
    have hs : p.stk = [] := by simpa using hg
    cases hon : m.on with
    | false =>
      rcases tail_left hin hlen p m hs hon with h1 | ⟨h1, h2⟩
      · exact Or.inl h1
      · right
        simp only [Bool.false_eq_true, if_false]
        rw [h1]
        exact ⟨rfl, rfl, h2, hon⟩
    | true =>
      simp only [if_true]
      cases ha : aboveC h.cs m.pass with
      | some o =>
        left
        refine ⟨rfl, ?_⟩
        have h1 := rem_above ha
        have h2 := scan_cost hin p o.s
        unfold leftM
        show cost n (p.scan h o.s) + (if true then remC h.cs o.s else 0) + remC h.cs m.place + 1 ≤ _
        rw [hon]
        simp only [if_true]
        omega
      | none =>
        have e0 : remC h.cs m.pass = 0 := by
          unfold remC
          rw [List.countP_eq_zero]
          intro o ho
          have := above_none ha o ho
          simp
          omega
        have e1 : leftM n h p ⟨m.place, m.pass, false⟩ = leftM n h p m := by
          unfold leftM
          rw [hon]
          simp only [if_true]
          rw [e0]
          rfl
        rcases tail_left hin hlen p ⟨m.place, m.pass, false⟩ hs rfl with h1 | ⟨h1, h2⟩
        · exact Or.inl ⟨h1.1, by rw [← e1]; exact h1.2⟩
        · right
          simp only
          rw [h1]
          exact ⟨rfl, rfl, h2, rfl⟩
theorem left_new (n : Nat) (h : HSt) (hlen : h.cs.length ≤ n) (M : Nat) : leftM n h (PSt.new M) ⟨0, 0, false⟩ ≤ 41 * n * (n + 1) + n := by
  unfold leftM cost
  rw [vee_new]
  have := rem_le h.cs 0
  show (n + 1) * (41 * n) + 0 + 0 + 0 + remC h.cs 0 ≤ _
  rw [Nat.mul_comm (n + 1)]
  omega
end Go.Proofs.YtlabdbfmfejkaaaDoor

namespace Go.Proofs.YtlabdbfmfejkaaaDoor
open Go.RowKit

/-- An object can be reached from a source of that rank. -/
inductive Rch (h : HSt) (S : Nat → Nat → Prop) : Nat → Nat → Prop where
  | src {k r : Nat} : S k r → Rch h S k r
  | ref {k r : Nat} {o : Oc} {x : Int × Nat} : Rch h S k r → getC h.cs k = some o → x ∈ o.rf → x.1 = 1 → Rch h S x.2 r
/-- What is marked or met can be reached from a source of that rank. -/
structure Snd (h : HSt) (S : Nat → Nat → Prop) (p : PSt) : Prop where
  ma : ∀ k m, getA p.ma k = some m → Rch h S k m.1
  me : ∀ x q, getA p.me x = some q → ∃ k o, getC h.cs k = some o ∧ x ∈ o.rf ∧ x.1 ≠ 1 ∧ Rch h S k q
/-- What a shading may turn: grey ones are new on the stack, or it is over. -/
structure GreyTo (h : HSt) (p q : PSt) : Prop where
  gr : ∀ k r, getA q.ma k = some (r, true) → (∃ r', getA p.ma k = some (r', true)) ∨ k ∈ q.stk ∨ q.ov = true
  st : ∀ k ∈ p.stk, k ∈ q.stk
  ov : p.ov = true → q.ov = true
  has : (∀ k m, getA p.ma k = some m → (getC h.cs k).isSome = true) → ∀ k m, getA q.ma k = some m → (getC h.cs k).isSome = true
theorem GreyTo.refl (h : HSt) (p : PSt) : GreyTo h p p := ⟨fun _ r e => Or.inl ⟨r, e⟩, fun _ e => e, id, id⟩
theorem GreyTo.trans {h : HSt} {a b c : PSt} (x : GreyTo h a b) (y : GreyTo h b c) : GreyTo h a c := by
  refine ⟨fun k r e => ?_, fun k e => y.st k (x.st k e), fun e => y.ov (x.ov e), fun e => y.has (x.has e)⟩
  rcases y.gr k r e with ⟨r', h1⟩ | h1 | h1
  · rcases x.gr k r' h1 with h2 | h2 | h2
    · exact Or.inl h2
    · exact Or.inr (Or.inl (y.st k h2))
    · exact Or.inr (Or.inr (y.ov h2))
  · exact Or.inr (Or.inl h1)
  · exact Or.inr (Or.inr h1)
theorem push_grey (h : HSt) {p : PSt} {l : List (Nat × (Nat × Bool))} {s : Nat} (hl : ∀ k r, getA l k = some (r, true) → k = s ∨ ∃ r', getA p.ma k = some (r', true)) (hh : (∀ k m, getA p.ma k = some m → (getC h.cs k).isSome = true) → ∀ k m, getA l k = some m → (getC h.cs k).isSome = true) : GreyTo h p (PSt.push { p with ma := l } s) := by
  unfold PSt.push
  split
  · refine ⟨fun k r e => ?_, fun k e => List.mem_append_left _ e, id, hh⟩
    rcases hl k r e with rfl | h1
    · exact Or.inr (Or.inl (List.mem_append_right _ (List.mem_singleton.2 rfl)))
    · exact Or.inl h1
  · exact ⟨fun k r e => Or.inr (Or.inr rfl), fun k e => e, fun _ => rfl, hh⟩
theorem own_greyTo (h : HSt) (p : PSt) (s r : Nat) : GreyTo h p (p.own h s r) := by
  unfold PSt.own
  split
  · next hs =>
    have hl : ∀ k r', getA (putA p.ma s (r, true)) k = some (r', true) → k = s ∨ ∃ r', getA p.ma k = some (r', true) := fun k r' e => by
      rw [getA_put] at e
      by_cases hk : k = s
      · exact Or.inl hk
      · rw [if_neg hk] at e
        exact Or.inr ⟨_, e⟩
    have hh : (∀ k m, getA p.ma k = some m → (getC h.cs k).isSome = true) → ∀ k m, getA (putA p.ma s (r, true)) k = some m → (getC h.cs k).isSome = true := fun H k m e => by
      rw [getA_put] at e
      by_cases hk : k = s
      · rw [hk]; exact hs
      · rw [if_neg hk] at e
        exact H k m e
    cases hm : getA p.ma s with
    | none => exact push_grey h hl hh
    | some m =>
      obtain ⟨r0, g⟩ := m
      simp only
      by_cases h1 : r0 ≤ r
      · rw [if_pos h1]
        exact GreyTo.refl _ _
      · rw [if_neg h1]
        cases g with
        | true =>
          rw [if_pos rfl]
          refine ⟨fun k r' e => ?_, fun _ e => e, id, hh⟩
          rcases hl k r' e with rfl | h2
          · exact Or.inl ⟨_, hm⟩
          · exact Or.inl h2
        | false =>
          rw [if_neg (by simp)]
          exact push_grey h hl hh
  · exact GreyTo.refl _ _
theorem meet_greyTo (h : HSt) (p : PSt) (x : Int × Nat) (r : Nat) : GreyTo h p (p.meet x r) := by
  have hm : GreyTo h p { p with me := putA p.me x r } := ⟨fun _ r e => Or.inl ⟨r, e⟩, fun _ e => e, id, id⟩
  unfold PSt.meet
  split
  · exact hm
  · split
    · exact hm
    · exact GreyTo.refl _ _
theorem shade_greyTo (h : HSt) (p : PSt) (x : Int × Nat) (r : Int) : GreyTo h p (p.shade h x r) := by
  unfold PSt.shade
  split
  · split
    · exact own_greyTo h p _ _
    · exact meet_greyTo h p _ _
  · exact GreyTo.refl _ _
theorem all_greyTo (h : HSt) (r : Nat) : ∀ (l : List (Int × Nat)) (p : PSt), GreyTo h p (p.all h l r)
  | [], _ => GreyTo.refl _ _
  | x :: l, p => (shade_greyTo h p x (r : Int)).trans (all_greyTo h r l _)
/-- Behind a scan that object is not grey but by the stack. -/
theorem scan_greyTo {h : HSt} {p : PSt} (hh : ∀ k m, getA p.ma k = some m → (getC h.cs k).isSome = true) (s : Nat) :
    GreyTo h p (p.scan h s) ∧ ∀ k r, getA (p.scan h s).ma k = some (r, true) → (k ≠ s ∧ ∃ r', getA p.ma k = some (r', true)) ∨ k ∈ (p.scan h s).stk ∨ (p.scan h s).ov = true := by
  unfold PSt.scan
  split
  · next o r ho hm =>
    have h1 := all_greyTo h r o.rf { p with ma := putA p.ma s (r, false) }
    have h0 : ∀ k r', getA (putA p.ma s (r, false)) k = some (r', true) → k ≠ s ∧ ∃ r'', getA p.ma k = some (r'', true) := fun k r' e => by
      rw [getA_put] at e
      by_cases hk : k = s
      · rw [if_pos hk] at e
        cases e
      · rw [if_neg hk] at e
        exact ⟨hk, _, e⟩
    refine ⟨⟨fun k r' e => ?_, h1.st, h1.ov, fun H => h1.has (fun k m e => ?_)⟩, fun k r' e => ?_⟩
    · rcases h1.gr k r' e with ⟨r'', h2⟩ | h2
      · exact Or.inl (h0 k r'' h2).2
      · exact Or.inr h2
    · have e' : getA (putA p.ma s (r, false)) k = some m := e
      rw [getA_put] at e'
      by_cases hk : k = s
      · rw [hk, ho]; rfl
      · rw [if_neg hk] at e'
        exact H k m e'
    · rcases h1.gr k r' e with ⟨r'', h2⟩ | h2
      · exact Or.inl (h0 k r'' h2)
      · exact Or.inr h2
  · next hno =>
    refine ⟨GreyTo.refl _ _, fun k r' e => Or.inl ⟨fun hk => ?_, _, e⟩⟩
    subst hk
    obtain ⟨o, ho⟩ := Option.isSome_iff_exists.1 (hh k _ e)
    exact hno o r' ho e
section
variable {h : HSt} {S : Nat → Nat → Prop} {p : PSt}
theorem own_snd (H : Snd h S p) {s r : Nat} (hs : Rch h S s r) : Snd h S (p.own h s r) := by
  have hl : ∀ k m, getA (putA p.ma s (r, true)) k = some m → Rch h S k m.1 := fun k m e => by
    rw [getA_put] at e
    by_cases hk : k = s
    · rw [if_pos hk] at e
      cases e
      rw [hk]
      exact hs
    · rw [if_neg hk] at e
      exact H.ma k m e
  have hp : Snd h S (PSt.push { p with ma := putA p.ma s (r, true) } s) := by
    obtain ⟨a, b⟩ := push_ma { p with ma := putA p.ma s (r, true) } s
    exact ⟨by rw [a]; exact hl, by rw [b]; exact H.me⟩
  unfold PSt.own
  split
  · cases hm : getA p.ma s with
    | none => exact hp
    | some m =>
      obtain ⟨r0, g⟩ := m
      simp only
      by_cases h1 : r0 ≤ r
      · rw [if_pos h1]
        exact H
      · rw [if_neg h1]
        cases g with
        | true =>
          rw [if_pos rfl]
          exact ⟨hl, H.me⟩
        | false =>
          rw [if_neg (by simp)]
          exact hp
  · exact H
theorem meet_snd (H : Snd h S p) {x : Int × Nat} {k r : Nat} {o : Oc} (ho : getC h.cs k = some o) (hx : x ∈ o.rf) (hx1 : x.1 ≠ 1) (hk : Rch h S k r) : Snd h S (p.meet x r) := by
  have hl : Snd h S { p with me := putA p.me x r } := ⟨H.ma, fun y q e => by
    have e' : getA (putA p.me x r) y = some q := e
    rw [getA_put] at e'
    by_cases hy : y = x
    · rw [if_pos hy] at e'
      cases e'
      rw [hy]
      exact ⟨k, o, ho, hx, hx1, hk⟩
    · rw [if_neg hy] at e'
      exact H.me y q e'⟩
  unfold PSt.meet
  split
  · exact hl
  · split
    · exact hl
    · exact H
theorem shade_snd (hn : h.node = 1) (H : Snd h S p) {x : Int × Nat} {k r : Nat} {o : Oc} (hr : r ≤ 40) (ho : getC h.cs k = some o) (hx : x ∈ o.rf) (hk : Rch h S k r) : Snd h S (p.shade h x (r : Int)) := by
  unfold PSt.shade
  rw [clampR_id hr, hn]
  split
  · split
    · next e => exact own_snd H (Rch.ref hk ho hx e)
    · next e => exact meet_snd H ho hx e hk
  · exact H
theorem all_snd (hn : h.node = 1) {k r : Nat} {o : Oc} (hr : r ≤ 40) (ho : getC h.cs k = some o) (hk : Rch h S k r) : ∀ (l : List (Int × Nat)) (p : PSt), (∀ x ∈ l, x ∈ o.rf) → Snd h S p → Snd h S (p.all h l r)
  | [], _, _, H => H
  | x :: l, p, hl, H => all_snd hn hr ho hk l (p.shade h x (r : Int)) (fun y hy => hl y (by simp [hy])) (shade_snd hn H hr ho (hl x (by simp)) hk)
theorem scan_snd (hn : h.node = 1) (HG : Good p) (H : Snd h S p) (s : Nat) : Snd h S (p.scan h s) := by
  unfold PSt.scan
  split
  · next o r ho hm =>
    have hk := H.ma s _ hm
    refine all_snd hn (HG.rk s _ hm) ho hk o.rf _ (fun _ e => e) ⟨fun k m e => ?_, H.me⟩
    have e' : getA (putA p.ma s (r, false)) k = some m := e
    rw [getA_put] at e'
    by_cases hks : k = s
    · rw [if_pos hks] at e'
      cases e'
      rw [hks]
      exact hk
    · rw [if_neg hks] at e'
      exact H.ma k m e'
  · exact H
end
/-- What marking keeps. -/
structure MI (h : HSt) (S : Nat → Nat → Prop) (p : PSt) (m : MSt) : Prop where
  snd : Snd h S p
  has : ∀ k m, getA p.ma k = some m → (getC h.cs k).isSome = true
  grey : ∀ k r, getA p.ma k = some (r, true) → k ∈ p.stk ∨ p.ov = true ∨ (m.on = true ∧ m.pass < k)
  plc : ∀ o ∈ h.cs, o.s ≤ m.place → 0 < o.d → ∃ mk, getA p.ma o.s = some mk ∧ mk.1 ≤ o.d
  good : Good p
  tight : Tight h p
/-- What the heap has. -/
structure MH (h : HSt) (S : Nat → Nat → Prop) : Prop where
  node : h.node = 1
  ok : h.Ok
  rf : ∀ k o, getC h.cs k = some o → ∀ x ∈ o.rf, RefOk h x
  inn : ∀ o ∈ h.cs, 0 < o.d → S o.s o.d
  names : ∀ o ∈ h.cs, namesB (1, o.s) = true
section
variable {h : HSt} {S : Nat → Nat → Prop} {p : PSt} {m : MSt}
theorem MI.new (h : HSt) (S : Nat → Nat → Prop) (ok : h.Ok) (M : Nat) : MI h S (PSt.new M) ⟨0, 0, false⟩ := by
  refine ⟨⟨fun k m e => (by cases e), fun x q e => (by cases e)⟩, fun k m e => (by cases e), fun k r e => (by cases e), fun o ho hl => ?_, ⟨fun k m e => (by cases e), fun e he => (by cases he)⟩, new_tight h M⟩
  have := (ok.le o ho).1
  have hl : o.s ≤ 0 := hl
  omega
/-- A source is shaded. -/
theorem MI.src (H : MI h S p m) (hh : MH h S) {s r : Nat} (hr : r ≤ 40) (hs : S s r) : MI h S (p.shade h (1, s) (r : Int)) m := by
  have hF := shade_keeps h p (1, s) (r : Int)
  have hG := shade_greyTo h p (1, s) (r : Int)
  refine ⟨?_, hG.has H.has, fun k r' e => ?_, fun o ho hl hd => ?_, hF.2.1 H.good, shade_tight H.tight _ _⟩
  · unfold PSt.shade
    rw [clampR_id hr, hh.node]
    split
    · split
      · exact own_snd H.snd (Rch.src hs)
      · next e => exact absurd rfl e
    · exact H.snd
  · rcases hG.gr k r' e with ⟨r'', h1⟩ | h1 | h1
    · rcases H.grey k r'' h1 with h2 | h2 | h2
      · exact Or.inl (hG.st k h2)
      · exact Or.inr (Or.inl (hG.ov h2))
      · exact Or.inr (Or.inr h2)
    · exact Or.inl h1
    · exact Or.inr (Or.inl h1)
  · obtain ⟨mk, e1, e2⟩ := H.plc o ho hl hd
    obtain ⟨mk', e3, e4⟩ := hF.1.ma _ _ e1
    exact ⟨mk', e3, by omega⟩
theorem MH.rank (p : PSt) (hh : MH h S) {s r : Nat} (hr : r ≤ 40) (hs : (getC h.cs s).isSome = true) : ∃ mk, getA (p.shade h (1, s) (r : Int)).ma s = some mk ∧ mk.1 ≤ r := by
  obtain ⟨o, ho⟩ := Option.isSome_iff_exists.1 hs
  obtain ⟨h1, h2⟩ := getC_mem ho
  have hn := hh.names o h1
  rw [h2] at hn
  rcases shade_cov hh.node p (x := (1, s)) hr (Or.inr ⟨hn, fun _ => hs⟩) with e | ⟨_, e⟩ | ⟨e, _⟩
  · cases e
  · exact e
  · exact absurd (show (1 : Int) < 1 from e) (by decide)
/-- A scan, ahead of which all grey ones but that one are covered. -/
theorem MI.scan' {q : PSt} {m' : MSt} {s : Nat} (hh : MH h S) (hsnd : Snd h S q) (hhas : ∀ k m, getA q.ma k = some m → (getC h.cs k).isSome = true) (hg : ∀ k r, k ≠ s → getA q.ma k = some (r, true) → k ∈ q.stk ∨ q.ov = true ∨ (m'.on = true ∧ m'.pass < k)) (hplc : ∀ o ∈ h.cs, o.s ≤ m'.place → 0 < o.d → ∃ mk, getA q.ma o.s = some mk ∧ mk.1 ≤ o.d) (hgood : Good q) (ht : Tight h q) : MI h S (q.scan h s) m' := by
  obtain ⟨g1, g2⟩ := scan_greyTo hhas s
  have hF := scan_keeps hh.ok q s
  refine ⟨scan_snd hh.node hgood hsnd s, g1.has hhas, fun k r e => ?_, fun o ho hl hd => ?_, hF.2.1 hgood, scan_tight hh.node hh.ok hh.rf hgood ht s⟩
  · rcases g2 k r e with ⟨h1, r', h2⟩ | h1 | h1
    · rcases hg k r' h1 h2 with h3 | h3 | h3
      · exact Or.inl (g1.st k h3)
      · exact Or.inr (Or.inl (g1.ov h3))
      · exact Or.inr (Or.inr h3)
    · exact Or.inl h1
    · exact Or.inr (Or.inl h1)
  · obtain ⟨mk, e1, e2⟩ := hplc o ho hl hd
    obtain ⟨mk', e3, e4⟩ := hF.1.ma _ _ e1
    exact ⟨mk', e3, by omega⟩
theorem MI.tail (H : MI h S p m) (hh : MH h S) : MI h S (tailR h p m).2.1 (tailR h p m).2.2 := by
  unfold tailR
  split
  · refine ⟨⟨H.snd.ma, H.snd.me⟩, H.has, fun k r e => ?_, H.plc, ⟨H.good.rk, H.good.nm⟩, H.tight⟩
    obtain ⟨o, ho⟩ := Option.isSome_iff_exists.1 (H.has k _ e)
    obtain ⟨h1, h2⟩ := getC_mem ho
    have := (hh.ok.le o h1).1
    refine Or.inr (Or.inr ⟨rfl, ?_⟩)
    show 0 < k
    omega
  · split
    · exact H
    · next o ha =>
      obtain ⟨hm, hl⟩ := above_mem ha
      have hG : ∀ (q : PSt), (∀ k r, getA q.ma k = some (r, true) → k ∈ q.stk ∨ q.ov = true ∨ (m.on = true ∧ m.pass < k)) → ∀ k r, getA q.ma k = some (r, true) → k ∈ q.stk ∨ q.ov = true ∨ ((⟨o.s, m.pass, m.on⟩ : MSt).on = true ∧ (⟨o.s, m.pass, m.on⟩ : MSt).pass < k) := fun _ h => h
      by_cases hd : 0 < o.d
      · rw [if_pos hd, hh.node]
        have H2 := H.src hh (hh.ok.fl o hm).2.2.2 (hh.inn o hm hd)
        have hc : (getC h.cs o.s).isSome = true := by rw [getC_of_mem hh.ok hm]; rfl
        refine ⟨H2.snd, H2.has, hG _ H2.grey, fun q hq hl2 hd2 => ?_, H2.good, H2.tight⟩
        by_cases e : q.s ≤ m.place
        · exact H2.plc q hq e hd2
        · have h3 := above_least hh.ok.srt ha q hq (by omega)
          have hl3 : q.s ≤ o.s := hl2
          have h4 : q.s = o.s := by omega
          have h5 : q = o := by
            have a := getC_of_mem hh.ok hq
            rw [h4, getC_of_mem hh.ok hm] at a
            cases a
            rfl
          rw [h5]
          exact MH.rank p hh (hh.ok.fl o hm).2.2.2 hc
      · rw [if_neg hd]
        refine ⟨H.snd, H.has, hG _ H.grey, fun q hq hl2 hd2 => ?_, H.good, H.tight⟩
        by_cases e : q.s ≤ m.place
        · exact H.plc q hq e hd2
        · have h3 := above_least hh.ok.srt ha q hq (by omega)
          have hl3 : q.s ≤ o.s := hl2
          have h4 : q.s = o.s := by omega
          have h5 : q = o := by
            have a := getC_of_mem hh.ok hq
            rw [h4, getC_of_mem hh.ok hm] at a
            cases a
            rfl
          rw [h5] at hd2
          exact absurd hd2 hd
theorem MI.step (H : MI h S p m) (hh : MH h S) : MI h S (stepR h p m).2.1 (stepR h p m).2.2 := by
  unfold stepR
  cases hg : p.stk.getLast? with
  | some a =>
    have hst : ∀ k ∈ p.stk, k ≠ a → k ∈ p.pop.stk := fun k hk hne => by
      have e : p.stk = p.stk.dropLast ++ [a] := by
        have hem : p.stk ≠ [] := fun e => by rw [e] at hg; cases hg
        rw [List.getLast?_eq_some_getLast hem] at hg
        cases hg
        exact (List.dropLast_concat_getLast hem).symm
      rw [e] at hk
      rcases List.mem_append.1 hk with h1 | h1
      · exact h1
      · exact absurd (List.mem_singleton.1 h1) hne
    refine MI.scan' hh ⟨H.snd.ma, H.snd.me⟩ H.has (fun k r hne e => ?_) H.plc ⟨H.good.rk, H.good.nm⟩ H.tight
    rcases H.grey k r e with h1 | h1 | h1
    · exact Or.inl (hst k h1 hne)
    · exact Or.inr (Or.inl h1)
    · exact Or.inr (Or.inr h1)
  | none =>
    cases hon : m.on with
    | false =>
      simp only [Bool.false_eq_true, if_false]
      exact H.tail hh
    | true =>
      simp only [if_true]
      cases ha : aboveC h.cs m.pass with
      | some o =>
        refine MI.scan' (m' := ⟨m.place, o.s, true⟩) hh H.snd H.has (fun k r hne e => ?_) H.plc H.good H.tight
        rcases H.grey k r e with h1 | h1 | ⟨_, h1⟩
        · exact Or.inl h1
        · exact Or.inr (Or.inl h1)
        · refine Or.inr (Or.inr ⟨rfl, ?_⟩)
          obtain ⟨q, hq⟩ := Option.isSome_iff_exists.1 (H.has k _ e)
          obtain ⟨q1, q2⟩ := getC_mem hq
          have := above_least hh.ok.srt ha q q1 (by omega)
          show o.s < k
          omega
      | none =>
        refine MI.tail (m := ⟨m.place, m.pass, false⟩) ⟨H.snd, H.has, fun k r e => ?_, H.plc, H.good, H.tight⟩ hh
        rcases H.grey k r e with h1 | h1 | ⟨_, h1⟩
        · exact Or.inl h1
        · exact Or.inr (Or.inl h1)
        · obtain ⟨q, hq⟩ := Option.isSome_iff_exists.1 (H.has k _ e)
          obtain ⟨q1, q2⟩ := getC_mem hq
          have := above_none ha q q1
          omega
/-- In the end: nothing is grey, and all that can be reached is marked with no greater rank. -/
theorem MI.done (H : MI h S p m) (hI : Idle h p m) : ∀ k mk, getA p.ma k = some mk → mk.2 = false := by
  intro k mk e
  obtain ⟨r, g⟩ := mk
  cases g with
  | false => rfl
  | true =>
    rcases H.grey k r e with h1 | h1 | ⟨h0, h1⟩
    · rw [hI.stk] at h1
      cases h1
    · rw [hI.ov] at h1
      cases h1
    · obtain ⟨q, hq⟩ := Option.isSome_iff_exists.1 (H.has k _ e)
      obtain ⟨q1, q2⟩ := getC_mem hq
      have := hI.pass h0 q q1
      omega
theorem MI.least (H : MI h S p m) (hI : Idle h p m) (hsrc : ∀ k r, S k r → (∃ mk, getA p.ma k = some mk ∧ mk.1 ≤ r) ∨ ∃ o ∈ h.cs, o.s = k ∧ 0 < o.d ∧ o.d ≤ r) : ∀ k r, Rch h S k r → ∃ mk, getA p.ma k = some mk ∧ mk.1 ≤ r := by
  intro k r hk
  induction hk with
  | src hs =>
    rcases hsrc _ _ hs with h1 | ⟨o, ho, h2, h3, h4⟩
    · exact h1
    · obtain ⟨mk, e1, e2⟩ := H.plc o ho (hI.place o ho) h3
      rw [← h2]
      exact ⟨mk, e1, by omega⟩
  | @ref k r o x _ ho hx hx1 ih =>
    obtain ⟨⟨r0, g⟩, e1, e2⟩ := ih
    have hg : g = false := H.done hI k _ e1
    subst hg
    rcases H.tight k o r0 ho e1 x hx with e | ⟨_, mk, e3, e4⟩ | ⟨e, _⟩
    · rw [e] at hx1
      cases hx1
    · exact ⟨mk, e3, Nat.le_trans e4 e2⟩
    · omega
/-- What was met: with the least rank of those that lead to it. -/
theorem MI.met (H : MI h S p m) (hI : Idle h p m) {k r : Nat} {o : Oc} {x : Int × Nat} (ho : getC h.cs k = some o) (hx : x ∈ o.rf) (hx1 : 1 < x.1) {mk : Nat × Bool} (hm : getA p.ma k = some mk) (hr : mk.1 = r) : ∃ q, getA p.me x = some q ∧ q ≤ r := by
  obtain ⟨r0, g⟩ := mk
  have hg : g = false := H.done hI k _ hm
  subst hg
  rcases H.tight k o r0 ho hm x hx with e | ⟨e, _⟩ | ⟨_, q, e3, e4⟩
  · rw [e] at hx1
    exact absurd hx1 (by decide)
  · omega
  · exact ⟨q, e3, by rw [← hr]; exact e4⟩
end
end Go.Proofs.YtlabdbfmfejkaaaDoor

namespace Go.Proofs.YtlabdbfmfejkaaaDoor
open Go.RowKit

/-- Those of no greater rank than v lead to none but such. -/
def ShutV (E : Nat → Nat → Prop) (f : Nat → Int) (v : Int) : Prop := ∀ j x, 0 ≤ f j → f j ≤ v → E j x → 0 ≤ f x ∧ f x ≤ v
/-- How many have a rank of no more than v. -/
def cntV (n : Nat) (f : Nat → Int) (v : Int) : Nat := (List.range n).countP (fun j => decide (0 ≤ f (j + 1) ∧ f (j + 1) ≤ v))
theorem cnt_succ (n : Nat) (f : Nat → Int) (v : Int) : cntV (n + 1) f v = cntV n f v + (if 0 ≤ f (n + 1) ∧ f (n + 1) ≤ v then 1 else 0) := by
  unfold cntV
  rw [List.range_succ, List.countP_append, List.countP_cons, List.countP_nil]
  simp
theorem cntV_le (n : Nat) (f : Nat → Int) (v : Int) : cntV n f v ≤ n := by
  unfold cntV
  have := List.countP_le_length (p := fun j => decide (0 ≤ f (j + 1) ∧ f (j + 1) ≤ v)) (l := List.range n)
  simpa using this
theorem cnt_mono {n : Nat} {f g : Nat → Int} {v : Int} (h : ∀ j, 0 ≤ f j → f j ≤ v → 0 ≤ g j ∧ g j ≤ v) : cntV n f v ≤ cntV n g v := by
  induction n with
  | zero => exact Nat.le_refl _
  | succ n ih =>
    rw [cnt_succ, cnt_succ]
    by_cases e : 0 ≤ f (n + 1) ∧ f (n + 1) ≤ v
    · rw [if_pos e, if_pos (h _ e.1 e.2)]
      omega
    · rw [if_neg e]
      omega
theorem cnt_more {n : Nat} {f g : Nat → Int} {v : Int} (h : ∀ j, 0 ≤ f j → f j ≤ v → 0 ≤ g j ∧ g j ≤ v) {s : Nat} (h1 : 1 ≤ s) (h2 : s ≤ n) (h3 : 0 ≤ g s ∧ g s ≤ v) (h4 : ¬ (0 ≤ f s ∧ f s ≤ v)) : cntV n f v + 1 ≤ cntV n g v := by
  induction n with
  | zero => omega
  | succ n ih =>
    rw [cnt_succ, cnt_succ]
    by_cases e : s = n + 1
    · subst e
      rw [if_neg h4, if_pos h3]
      have := cnt_mono (n := n) h
      omega
    · have := ih (by omega)
      by_cases e2 : 0 ≤ f (n + 1) ∧ f (n + 1) ≤ v
      · rw [if_pos e2, if_pos (h _ e2.1 e2.2)]
        omega
      · rw [if_neg e2]
        omega
/-- What holds between rounds. -/
structure RndV (n : Nat) (E : Nat → Nat → Prop) (R : Nat → Nat → Prop) (t : Nat) (f : Nat → Int) : Prop where
  shut : ∀ v, ShutV E f v ∨ t ≤ cntV n f v
  snd : ∀ j, 0 ≤ f j → 1 ≤ j ∧ j ≤ n ∧ R j (f j).toNat
  lo : ∀ j, -1 ≤ f j
/-- What holds within a round: those below i are done, of i those of D. -/
structure MidV (n : Nat) (E : Nat → Nat → Prop) (R : Nat → Nat → Prop) (f0 f : Nat → Int) (i : Nat) (D : Nat → Prop) : Prop where
  mono : ∀ j, 0 ≤ f0 j → 0 ≤ f j ∧ f j ≤ f0 j
  proc : ∀ j x, (j < i ∨ (j = i ∧ D x)) → 0 ≤ f0 j → E j x → 0 ≤ f x ∧ f x ≤ f0 j
  old : ∀ v, ShutV E f0 v → ∀ j, 0 ≤ f j → f j ≤ v → 0 ≤ f0 j ∧ f0 j ≤ v
  snd : ∀ j, 0 ≤ f j → 1 ≤ j ∧ j ≤ n ∧ R j (f j).toNat
  lo : ∀ j, -1 ≤ f j
section
variable {n : Nat} {E : Nat → Nat → Prop} {R : Nat → Nat → Prop} {f0 f f' : Nat → Int} {i x : Nat} {D D' : Nat → Prop}
theorem RndV.start {t : Nat} (h : RndV n E R t f) : MidV n E R f f 1 (fun _ => False) :=
  ⟨fun _ e => ⟨e, Int.le_refl _⟩, fun j x hj h0 _ => by
    rcases hj with hj | ⟨_, hj⟩
    · have := (h.snd j h0).1
      omega
    · exact hj.elim, fun _ _ j h1 h2 => ⟨h1, h2⟩, h.snd, h.lo⟩
theorem MidV.done (h : MidV n E R f0 f i D) (hD : ∀ x, E i x → 0 ≤ f i → D x) (hD0 : 0 ≤ f0 i → 0 ≤ f i) : MidV n E R f0 f (i + 1) (fun _ => False) := by
  refine ⟨h.mono, fun j x hj h0 he => ?_, h.old, h.snd, h.lo⟩
  rcases hj with hj | ⟨_, hj⟩
  · by_cases e : j = i
    · subst e
      exact h.proc j x (Or.inr ⟨rfl, hD x he (hD0 h0)⟩) h0 he
    · exact h.proc j x (Or.inl (by omega)) h0 he
  · exact hj.elim
/-- One reference is looked at. -/
theorem MidV.look (h : MidV n E R f0 f i D) (hi : 0 ≤ f i) (he : E i x) (hx : 1 ≤ x ∧ x ≤ n) (hR : ∀ r, R i r → R x r) (hf : f' = fun j => if j = x then (if f x < 0 ∨ f i < f x then f i else f x) else f j) (hD' : ∀ y, D' y → D y ∨ y = x) : MidV n E R f0 f' i D' := by
  have hv : ∀ j, 0 ≤ f j → 0 ≤ f' j ∧ f' j ≤ f j := fun j hj => by
    rw [hf]
    simp only
    by_cases e : j = x
    · subst e
      rw [if_pos rfl]
      split <;> omega
    · rw [if_neg e]
      exact ⟨hj, Int.le_refl _⟩
  have hxv : 0 ≤ f' x ∧ f' x ≤ f i := by
    rw [hf]
    simp only [if_true]
    split <;> omega
  have hj' : ∀ j, f' j = f j ∨ (j = x ∧ f' j = f i) := fun j => by
    rw [hf]
    simp only
    by_cases e : j = x
    · subst e
      rw [if_pos rfl]
      split
      · exact Or.inr ⟨rfl, rfl⟩
      · exact Or.inl rfl
    · rw [if_neg e]
      exact Or.inl rfl
  refine ⟨fun j hj => ?_, fun j y hj h0 hy => ?_, fun v hs j h1 h2 => ?_, fun j h1 => ?_, fun j => ?_⟩
  · have a := h.mono j hj
    have b := hv j a.1
    omega
  · by_cases e : j = i ∧ y = x
    · obtain ⟨rfl, rfl⟩ := e
      have a := h.mono j h0
      omega
    · have a := h.proc j y (by
        rcases hj with hj | ⟨hj, hd⟩
        · exact Or.inl hj
        · rcases hD' y hd with hd | hd
          · exact Or.inr ⟨hj, hd⟩
          · exact absurd ⟨hj, hd⟩ e) h0 hy
      have b := hv y a.1
      omega
  · rcases hj' j with e | ⟨e1, e2⟩
    · rw [e] at h1 h2
      exact h.old v hs j h1 h2
    · rw [e2] at h1 h2
      have a := h.old v hs i h1 h2
      rw [e1]
      exact hs i x a.1 a.2 he
  · rcases hj' j with e | ⟨e1, e2⟩
    · rw [e] at h1 ⊢
      exact h.snd j h1
    · rw [e2] at h1 ⊢
      rw [e1]
      exact ⟨hx.1, hx.2, hR _ (h.snd i h1).2.2⟩
  · rcases hj' j with e | ⟨_, e2⟩
    · rw [e]
      exact h.lo j
    · rw [e2]
      omega
theorem MidV.ends {t : Nat} (h0 : RndV n E R t f0) (h : MidV n E R f0 f (n + 1) (fun _ => False)) : RndV n E R (t + 1) f := by
  refine ⟨fun v => ?_, h.snd, h.lo⟩
  have hm : ∀ j, 0 ≤ f0 j → f0 j ≤ v → 0 ≤ f j ∧ f j ≤ v := fun j a b => by
    have := h.mono j a
    omega
  by_cases hs : ShutV E f0 v
  · left
    intro j x a b he
    have c := h.old v hs j a b
    have d := hs j x c.1 c.2 he
    exact hm x d.1 d.2
  · have ht : t ≤ cntV n f0 v := by
      rcases h0.shut v with a | a
      · exact absurd a hs
      · exact a
    by_cases hn : ∃ j, (0 ≤ f j ∧ f j ≤ v) ∧ ¬ (0 ≤ f0 j ∧ f0 j ≤ v)
    · right
      obtain ⟨j, a, b⟩ := hn
      have c := h.snd j a.1
      have := cnt_more (n := n) hm c.1 c.2.1 a b
      omega
    · left
      intro j x a b he
      have c : 0 ≤ f0 j ∧ f0 j ≤ v := Decidable.byContradiction (fun e => hn ⟨j, ⟨a, b⟩, e⟩)
      have d := h.proc j x (Or.inl (by have := (h.snd j a).2.1; omega)) c.1 he
      omega
/-- Behind n + 1 rounds nothing leads to a greater rank. -/
theorem RndV.closed (h : RndV n E R (n + 1) f) : ∀ j x, 0 ≤ f j → E j x → 0 ≤ f x ∧ f x ≤ f j := by
  intro j x hj he
  rcases h.shut (f j) with a | a
  · exact a j x hj (Int.le_refl _) he
  · have := cntV_le n f (f j)
    omega
theorem RndV.zero (hs : ∀ j, 0 ≤ f j → 1 ≤ j ∧ j ≤ n ∧ R j (f j).toNat) (hl : ∀ j, -1 ≤ f j) : RndV n E R 0 f := ⟨fun _ => Or.inr (Nat.zero_le _), hs, hl⟩
end
/-- Both ways lead to the same ranks. -/
theorem ranks_same {h : HSt} {S : Nat → Nat → Prop} {p : PSt} {m : MSt} {n : Nat} {f : Nat → Int} (H : MI h S p m) (hI : Idle h p m) (hsrc : ∀ k r, S k r → (∃ mk, getA p.ma k = some mk ∧ mk.1 ≤ r) ∨ ∃ o ∈ h.cs, o.s = k ∧ 0 < o.d ∧ o.d ≤ r)
    (hf : RndV n (fun k x => ∃ o, getC h.cs k = some o ∧ ∃ y ∈ o.rf, y.1 = 1 ∧ y.2 = x) (Rch h S) (n + 1) f) (hf0 : ∀ k r, S k r → 0 ≤ f k ∧ f k ≤ (r : Int)) (k : Nat) :
    (getA p.ma k = none ∧ f k = -1) ∨ ∃ r : Nat, getA p.ma k = some (r, false) ∧ f k = (r : Int) := by
  have hc := hf.closed
  have h1 : ∀ k r, Rch h S k r → 0 ≤ f k ∧ f k ≤ (r : Int) := fun k r hk => by
    induction hk with
    | src hs => exact hf0 _ _ hs
    | @ref k r o x _ ho hx hx1 ih =>
      have := hc k x.2 ih.1 ⟨o, ho, x, hx, hx1, rfl⟩
      omega
  have h2 := H.least hI hsrc
  cases hm : getA p.ma k with
  | none =>
    left
    refine ⟨rfl, ?_⟩
    have := hf.lo k
    by_cases e : 0 ≤ f k
    · obtain ⟨mk, e1, _⟩ := h2 k _ (hf.snd k e).2.2
      rw [hm] at e1
      cases e1
    · omega
  | some mk =>
    right
    obtain ⟨r, g⟩ := mk
    have hg : g = false := H.done hI k _ hm
    subst hg
    refine ⟨r, rfl, ?_⟩
    have a := h1 k r (H.snd.ma k _ hm)
    obtain ⟨mk, e1, e2⟩ := h2 k _ (hf.snd k a.1).2.2
    rw [hm] at e1
    cases e1
    simp only at e2
    omega
end Go.Proofs.YtlabdbfmfejkaaaDoor

namespace Go.Proofs.YtlabdbfmfejkaaaDoor
open Go.RowKit

theorem m2_refs60 {g : Gr} {n : Nat} {h : HSt} (m : M2 g n n 0 h) (hok : h.Ok) (hn2 : n ≤ 60) : ∀ k o, getC h.cs k = some o → ∀ x ∈ o.rf, RefOk h x := by
  intro k o hk x hx
  obtain ⟨ho, hs⟩ := getC_mem hk
  have hle := hok.le o ho
  rw [hs, m.last] at hle
  obtain ⟨o', h1, h2, h3⟩ := m.at_ (k - 1) (by omega)
  have e : k - 1 + 1 = k := by omega
  rw [e, hk] at h1
  cases h1
  obtain ⟨q, hq, rfl⟩ := List.getElem_of_mem hx
  have ht := h3 q (by omega) (Or.inl (by omega))
  rw [List.getElem?_eq_getElem hq] at ht
  simp only [Option.some.injEq] at ht
  rw [ht]
  unfold targetR targetF
  split
  · exact Or.inl rfl
  · have p2 := pickN_lt (rawR g (k - 1) q) 2 (by omega)
    have p4 := pickN_lt (wrap64 ((rawR g (k - 1) q).tdiv 2)) 4 (by omega)
    have pn := pickN_lt (rawR g (k - 1) q) n (by omega)
    split
    · refine Or.inr ⟨?_, fun e => ?_⟩
      · simp only [namesB, Bool.and_eq_true, decide_eq_true_eq]
        omega
      · have e' : 2 + (pickN (rawR g (k - 1) q) 2 : Int) = 1 := e
        omega
    · refine Or.inr ⟨?_, fun _ => ?_⟩
      · simp only [namesB, Bool.and_eq_true, decide_eq_true_eq]
        omega
      · obtain ⟨o2, g1, _⟩ := m.at_ (pickN (rawR g (k - 1) q) n) pn
        show (getC h.cs (1 + pickN (rawR g (k - 1) q) n)).isSome = true
        rw [Nat.add_comm, g1]
        rfl
theorem m2_in {g : Gr} {n : Nat} {h : HSt} (m : M2 g n n 0 h) (hok : h.Ok) : ∀ k o, getC h.cs k = some o → 1 ≤ k ∧ k ≤ n := by
  intro k o hk
  obtain ⟨ho, hs⟩ := getC_mem hk
  have hle := hok.le o ho
  rw [hs, m.last] at hle
  exact hle
theorem m2_mh {g : Gr} {n : Nat} {h : HSt} {S : Nat → Nat → Prop} (m : M2 g n n 0 h) (hok : h.Ok) (hn2 : n ≤ 60) (hS : ∀ o ∈ h.cs, 0 < o.d → S o.s o.d) : MH h S :=
  ⟨m.node, hok, m2_refs60 m hok hn2, hS, fun o ho => by
    have := hok.le o ho
    have := m.last
    simp only [namesB, Bool.and_eq_true, decide_eq_true_eq]
    omega⟩
end Go.Proofs.YtlabdbfmfejkaaaDoor

namespace Go.Proofs.YtlabdbfmfejkaaaDoor
open Go.RowKit

theorem getA_iff {κ β : Type} [DecidableEq κ] {l : List (κ × β)} (hn : (l.map (·.1)).Nodup) (x : κ) (r : β) : (x, r) ∈ l ↔ getA l x = some r := by
  induction l with
  | nil => exact ⟨fun h => (by cases h), fun h => (by cases h)⟩
  | cons p l ih =>
    obtain ⟨y, q⟩ := p
    rw [List.map_cons, List.nodup_cons] at hn
    unfold getA
    rw [List.find?_cons]
    by_cases e : y = x
    · subst e
      simp only [decide_true, Option.map_some, Option.some.injEq]
      refine ⟨fun h => ?_, fun h => by rw [h]; exact List.mem_cons_self⟩
      rcases List.mem_cons.1 h with h | h
      · cases h
        rfl
      · exact absurd (List.mem_map.2 ⟨_, h, rfl⟩) hn.1
    · have e2 : decide (y = x) = false := decide_eq_false e
      simp only [e2]
      refine ⟨fun h => ?_, fun h => List.mem_cons_of_mem _ ((ih hn.2).2 h)⟩
      rcases List.mem_cons.1 h with h | h
      · cases h
        exact absurd rfl e
      · exact (ih hn.2).1 h
theorem outs_keys {l L : List ((Int × Nat) × Nat)} (h : OutsOf l L) : (l.map (·.1)).Nodup := by
  refine (h.1.map (·.1)).nodup ?_
  rw [List.Nodup, List.pairwise_map]
  exact h.2.imp (fun a b => by
    rw [b] at a
    omega)
theorem nodup_of_keys {l : List ((Int × Nat) × Nat)} (h : (l.map (·.1)).Nodup) : l.Nodup := by
  rw [List.Nodup, List.pairwise_map] at h
  exact h.imp (fun a e => a (by rw [e]))
theorem outs_same {l m L M : List ((Int × Nat) × Nat)} (h1 : OutsOf l L) (h2 : OutsOf m M) (hs : ∀ x, getA l x = getA m x) : L = M := by
  have n1 := outs_keys h1
  have n2 := outs_keys h2
  have hp : l.Perm m := by
    rw [List.perm_ext_iff_of_nodup (nodup_of_keys n1) (nodup_of_keys n2)]
    rintro ⟨x, r⟩
    rw [getA_iff n1, getA_iff n2, hs]
  exact outsOf_uniq h1 ⟨h2.1.trans hp.symm, h2.2⟩
section
variable {h : HSt} {S : Nat → Nat → Prop} {p q : PSt} {m n : MSt}
theorem marks_le (H : MI h S p m) (G : MI h S q n) (hJ : Idle h q n) (hsrc : ∀ k r, S k r → (∃ mk, getA q.ma k = some mk ∧ mk.1 ≤ r) ∨ ∃ o ∈ h.cs, o.s = k ∧ 0 < o.d ∧ o.d ≤ r) {k r : Nat} {g : Bool} (hk : getA p.ma k = some (r, g)) : ∃ r', getA q.ma k = some (r', false) ∧ r' ≤ r := by
  obtain ⟨⟨r', g'⟩, e1, e2⟩ := G.least hJ hsrc k r (H.snd.ma k _ hk)
  have hg : g' = false := G.done hJ k _ e1
  subst hg
  exact ⟨r', e1, e2⟩
theorem marks_same (H : MI h S p m) (hI : Idle h p m) (hsp : ∀ k r, S k r → (∃ mk, getA p.ma k = some mk ∧ mk.1 ≤ r) ∨ ∃ o ∈ h.cs, o.s = k ∧ 0 < o.d ∧ o.d ≤ r) (G : MI h S q n) (hJ : Idle h q n) (hsq : ∀ k r, S k r → (∃ mk, getA q.ma k = some mk ∧ mk.1 ≤ r) ∨ ∃ o ∈ h.cs, o.s = k ∧ 0 < o.d ∧ o.d ≤ r) (k : Nat) : getA p.ma k = getA q.ma k := by
  cases h1 : getA p.ma k with
  | none =>
    cases h2 : getA q.ma k with
    | none => rfl
    | some mk =>
      obtain ⟨r, g⟩ := mk
      obtain ⟨r', e, _⟩ := marks_le G H hI hsp h2
      rw [h1] at e
      cases e
  | some mk =>
    obtain ⟨r, g⟩ := mk
    have hg : g = false := H.done hI k _ h1
    subst hg
    obtain ⟨r', e, l⟩ := marks_le H G hJ hsq h1
    obtain ⟨r'', e', l'⟩ := marks_le G H hI hsp e
    rw [h1] at e'
    cases e'
    have : r = r' := by omega
    rw [e, this]
theorem met_le (H : MI h S p m) (G : MI h S q n) (hJ : Idle h q n) (hsrc : ∀ k r, S k r → (∃ mk, getA q.ma k = some mk ∧ mk.1 ≤ r) ∨ ∃ o ∈ h.cs, o.s = k ∧ 0 < o.d ∧ o.d ≤ r) {x : Int × Nat} {r : Nat} (hx : getA p.me x = some r) (hn : namesB x = true) : ∃ r', getA q.me x = some r' ∧ r' ≤ r := by
  obtain ⟨k, o, h1, h2, h3, h4⟩ := H.snd.me x r hx
  obtain ⟨mk, e1, e2⟩ := G.least hJ hsrc k r h4
  have hb := names_lt hn
  obtain ⟨b, e3, e4⟩ := G.met hJ h1 h2 (by omega) e1 rfl
  exact ⟨b, e3, by omega⟩
theorem met_same (H : MI h S p m) (hI : Idle h p m) (hsp : ∀ k r, S k r → (∃ mk, getA p.ma k = some mk ∧ mk.1 ≤ r) ∨ ∃ o ∈ h.cs, o.s = k ∧ 0 < o.d ∧ o.d ≤ r) (G : MI h S q n) (hJ : Idle h q n) (hsq : ∀ k r, S k r → (∃ mk, getA q.ma k = some mk ∧ mk.1 ≤ r) ∨ ∃ o ∈ h.cs, o.s = k ∧ 0 < o.d ∧ o.d ≤ r) (x : Int × Nat) : getA p.me x = getA q.me x := by
  have np : ∀ r, getA p.me x = some r → namesB x = true := fun r e => by
    unfold getA at e
    obtain ⟨y, h1, h2⟩ := Option.map_eq_some_iff.1 e
    have h3 := H.good.nm y (List.mem_of_find?_eq_some h1)
    have h4 : y.1 = x := by simpa using List.find?_some h1
    rw [← h4]
    exact h3
  have nq : ∀ r, getA q.me x = some r → namesB x = true := fun r e => by
    unfold getA at e
    obtain ⟨y, h1, h2⟩ := Option.map_eq_some_iff.1 e
    have h3 := G.good.nm y (List.mem_of_find?_eq_some h1)
    have h4 : y.1 = x := by simpa using List.find?_some h1
    rw [← h4]
    exact h3
  cases h1 : getA p.me x with
  | none =>
    cases h2 : getA q.me x with
    | none => rfl
    | some r =>
      obtain ⟨r', e, _⟩ := met_le G H hI hsp h2 (nq r h2)
      rw [h1] at e
      cases e
  | some r =>
    obtain ⟨r', e, l⟩ := met_le H G hJ hsq h1 (np r h1)
    obtain ⟨r'', e', l'⟩ := met_le G H hI hsp e (np r h1)
    rw [h1] at e'
    cases e'
    have : r = r' := by omega
    rw [e, this]
end
end Go.Proofs.YtlabdbfmfejkaaaDoor
