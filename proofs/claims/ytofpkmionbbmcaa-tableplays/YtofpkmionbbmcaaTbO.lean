/- A table that is new since a world. No program's text is in it. -/
import Derived.Test.YtofpkmionbbmcaaTbP
namespace Go.Proofs.Ytofpkmionbbmcaa
open Go.RowKit

/-- The table in block b holds es; it lies in blocks from B on, and below B all is as it was in w0. -/
def TO {α β : Type} (lt : α → α → Bool) (kf : α → Value) (vf : β → List Value) (c : Nat) (T KT VT : TypeId) (B : Nat) (w0 w : World) (b most : Nat) (es : List (α × β)) : Prop :=
  ∃ F, TB lt kf vf c T KT VT w b most es F ∧ (∀ k, F k → B ≤ k) ∧ Below B w0 w

section
variable {α β : Type} {lt : α → α → Bool} {kf : α → Value} {vf : β → List Value} {c : Nat} {T KT VT : TypeId} {B : Nat} {w0 w w' : World} {b most : Nat} {es es' : List (α × β)}
theorem TO.bel (h : TO lt kf vf c T KT VT B w0 w b most es) : Below B w0 w := by
  obtain ⟨_, _, _, hb⟩ := h
  exact hb
theorem TO.size (h : TO lt kf vf c T KT VT B w0 w b most es) : B < w.heap.size := by
  obtain ⟨F, ht, hF, _⟩ := h
  have := hF b ht.fb
  have := ht.lt' b ht.fb
  omega
theorem TO.below (h : TO lt kf vf c T KT VT B w0 w b most es) (hb : Below w.heap.size w w') : TO lt kf vf c T KT VT B w0 w' b most es := by
  have hs := h.size
  obtain ⟨F, ht, hF, h0⟩ := h
  exact ⟨F, ht.below hb, hF, h0.trans (hb.mono (by omega))⟩
theorem TO.drewN (h : TO lt kf vf c T KT VT B w0 w b most es) (q : Nat) : TO lt kf vf c T KT VT B w0 (w.drewN q) b most es := h.below (below_drewN w q)
theorem TO.step {F F' : Nat → Prop} (hF : ∀ k, F k → B ≤ k) (h0 : Below B w0 w) (hs : B ≤ w.heap.size) (h' : TB lt kf vf c T KT VT w' b most es' F') (hk : Kept w w' F) (hg : GrownT w F F') : TO lt kf vf c T KT VT B w0 w' b most es' :=
  ⟨F', h', fun k hk' => by
    rcases hg k hk' with h1 | h1
    · exact hF k h1
    · omega, h0.trans (hk.below hs (fun i hi e => by have := hF i e; omega))⟩
theorem TO.le (h : TO lt kf vf c T KT VT B w0 w b most es) : es.length ≤ most ∧ most ≤ 4096 := by
  obtain ⟨F, ht, _, _⟩ := h
  exact ⟨ht.le, ht.small⟩
theorem TO.srt (h : TO lt kf vf c T KT VT B w0 w b most es) : Srt lt (keysE es) := by
  obtain ⟨F, ht, _, _⟩ := h
  exact ht.srt
end

end Go.Proofs.Ytofpkmionbbmcaa
