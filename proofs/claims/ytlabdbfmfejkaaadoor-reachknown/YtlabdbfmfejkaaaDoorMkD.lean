/- A marker, reckoned: what a step does. No program's text is in it. -/
import Derived.Test.YtlabdbfmfejkaaaDoorPbDP
namespace Go.Proofs.YtlabdbfmfejkaaaDoor
open Go.RowKit

/-- A marker: its place, how far a pass is, whether one is under way. -/
structure MSt where
  place : Nat
  pass : Nat
  on : Bool
/-- The first object above a serial. -/
def aboveC (cs : List Oc) (s : Nat) : Option Oc := cs.find? (fun o => decide (s < o.s))
theorem next_above (cs : List Oc) (s : Nat) : nextR cs s = match aboveC cs s with | none => (0, false) | some o => (o.s, true) := rfl
theorem above_mem {cs : List Oc} {s : Nat} {o : Oc} (h : aboveC cs s = some o) : o ∈ cs ∧ s < o.s := ⟨List.mem_of_find?_eq_some h, by simpa using List.find?_some h⟩
theorem above_none {cs : List Oc} {s : Nat} (h : aboveC cs s = none) : ∀ o ∈ cs, o.s ≤ s := by
  unfold aboveC at h
  rw [List.find?_eq_none] at h
  intro o ho
  have := h o ho
  simp at this
  exact this
theorem above_least {cs : List Oc} (hs : cs.Pairwise (fun a b => a.s < b.s)) {s : Nat} {o : Oc} (h : aboveC cs s = some o) : ∀ q ∈ cs, s < q.s → o.s ≤ q.s := by
  induction cs with
  | nil => cases h
  | cons c cs ih =>
    rw [List.pairwise_cons] at hs
    unfold aboveC at h
    rw [List.find?_cons] at h
    intro q hq hsq
    cases hc : decide (s < c.s) with
    | true =>
      rw [hc] at h
      cases h
      rcases List.mem_cons.1 hq with rfl | hq
      · exact Nat.le_refl _
      · exact Nat.le_of_lt (hs.1 q hq)
    | false =>
      rw [hc] at h
      rcases List.mem_cons.1 hq with rfl | hq
      · simp at hc
        omega
      · exact ih hs.2 h q hq hsq
theorem getC_of_mem {h : HSt} (ok : h.Ok) {o : Oc} (ho : o ∈ h.cs) : getC h.cs o.s = some o := by
  have hs := ok.srt
  generalize h.cs = cs at *
  clear ok
  induction cs with
  | nil => cases ho
  | cons c cs ih =>
    rw [List.pairwise_cons] at hs
    unfold getC
    rw [List.find?_cons]
    rcases List.mem_cons.1 ho with rfl | ho
    · simp
    · have := hs.1 o ho
      have e : (c.s == o.s) = false := by rw [beq_eq_false_iff_ne]; omega
      rw [e]
      exact ih ho hs.2
/-- The last two things that a step may do. -/
def tailR (h : HSt) (p : PSt) (m : MSt) : Bool × PSt × MSt :=
  if p.ov then (true, p.rest, ⟨m.place, 0, true⟩)
  else match aboveC h.cs m.place with
    | none => (false, p, m)
    | some o => (true, (if 0 < o.d then p.shade h ((h.node : Int), o.s) (o.d : Int) else p), ⟨o.s, m.pass, m.on⟩)
/-- A step: whether it did something, the paint and the marker behind it. -/
def stepR (h : HSt) (p : PSt) (m : MSt) : Bool × PSt × MSt := match p.stk.getLast? with
  | some a => (true, p.pop.scan h a, m)
  | none =>
    if m.on then match aboveC h.cs m.pass with
      | some o => (true, p.scan h o.s, ⟨m.place, o.s, true⟩)
      | none => tailR h p ⟨m.place, m.pass, false⟩
    else tailR h p m
end Go.Proofs.YtlabdbfmfejkaaaDoor
