/- What stands on the stack is a serial. No program's text is in it. -/
import Derived.Test.YtlabdbfmfejkaaaDoorPbDP
namespace Go.Proofs.YtlabdbfmfejkaaaDoor
open Go.RowKit

/-- What stands on the stack. -/
def SB (p : PSt) : Prop := ∀ s ∈ p.stk, s ≤ 72057594037927935
theorem SB.push {p : PSt} (H : SB p) {s : Nat} (hs : s ≤ 72057594037927935) : SB (p.push s) := by
  unfold PSt.push
  split
  · intro t ht
    rcases List.mem_append.1 ht with h | h
    · exact H t h
    · rw [List.mem_singleton.1 h]; exact hs
  · exact H
theorem SB.own {h : HSt} {p : PSt} (H : SB p) (ok : h.Ok) (s r : Nat) : SB (p.own h s r) := by
  unfold PSt.own
  split
  · next hg =>
    obtain ⟨o, ho⟩ := Option.isSome_iff_exists.1 hg
    obtain ⟨h1, h2⟩ := getC_mem ho
    have hs : s ≤ 72057594037927935 := by
      have := (ok.le o h1).2
      have := ok.last
      omega
    have H' : ∀ m, SB { p with ma := m } := fun m => H
    split
    · exact (H' _).push hs
    · split
      · exact H
      · split
        · exact H' _
        · exact (H' _).push hs
  · exact H
theorem SB.shade {h : HSt} {p : PSt} (H : SB p) (ok : h.Ok) (x : Int × Nat) (r : Int) : SB (p.shade h x r) := by
  unfold PSt.shade
  split
  · split
    · exact H.own ok _ _
    · unfold PSt.meet
      split
      · exact H
      · split <;> exact H
  · exact H
theorem SB.all {h : HSt} (ok : h.Ok) (l : List (Int × Nat)) (r : Nat) : ∀ p, SB p → SB (PSt.all h p l r) := by
  unfold PSt.all
  induction l with
  | nil => exact fun p H => H
  | cons x l ih => exact fun p H => ih _ (H.shade ok x r)
theorem SB.scan {h : HSt} {p : PSt} (H : SB p) (ok : h.Ok) (s : Nat) : SB (p.scan h s) := by
  unfold PSt.scan
  split
  · exact SB.all ok _ _ _ H
  · exact H
theorem SB.pop {p : PSt} (H : SB p) : SB p.pop := fun s hs => H s ((List.dropLast_sublist p.stk).subset hs)
theorem SB.popR {p : PSt} (H : SB p) : (popR p).1 < 18446744073709551616 := by
  unfold Go.Proofs.YtlabdbfmfejkaaaDoor.popR
  split
  · next s hs =>
    have := H s (List.mem_of_getLast? hs)
    show s < _
    omega
  · show 0 < _
    omega
end Go.Proofs.YtlabdbfmfejkaaaDoor
