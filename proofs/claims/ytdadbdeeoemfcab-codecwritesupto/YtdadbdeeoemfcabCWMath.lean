/- A Writer beside a second row of bytes that grows: plain facts. -/
import Derived.Test.YtdadbdeeoemfcabLaid
import Derived.Test.YtdadbdeeoemfcabRefText
namespace Go.Proofs.Ytdadbdeeoemfcab
open Go.RowKit

theorem own_later {w w' : World} {v : Value} {n : Nat} {xs : List Value} {g : Nat} {S : Nat → Prop} (h : w.ownsRow g 5 1 v n xs) (hk : Kept w w' S) (hs : ∀ q, v.ownBlock = some q → ¬ S q) : w'.ownsRow g 5 1 v n xs := by
  obtain ⟨h0, h1 | ⟨q, cap, cur, h1, h2, h3, h4⟩⟩ := h
  · exact ⟨h0, Or.inl h1⟩
  · exact ⟨h0, Or.inr ⟨q, cap, cur, h1, h2, (hk.block q (Array.getElem?_eq_some_iff.1 h3).1 (hs q (by rw [h1]; rfl))).trans h3, h4⟩⟩

/-- A Writer that holds lw, and a row beside it that holds ln. -/
structure TwoL (w : World) (wb : Nat) (vw vn : Value) (lw ln : List UInt8) : Prop where
  wr : WR w wb vw lw
  own : w.ownsRow (wb + 1) 5 1 vn ln.length (ln.map bv)
  apart : ∀ q, vw.ownBlock = some q → vn.ownBlock ≠ some q

section
variable {w w' : World} {wb : Nat} {vw vn : Value} {lw ln : List UInt8}
theorem TwoL.nb (h : TwoL w wb vw vn lw ln) {q : Nat} (hq : vn.ownBlock = some q) : wb < q ∧ q < w.heap.size := by
  have := h.own.lt q hq
  omega
theorem TwoL.notWS (h : TwoL w wb vw vn lw ln) {q : Nat} (hq : vn.ownBlock = some q) : ¬ WS wb vw q := by
  rintro (e | e)
  · have := h.nb hq; omega
  · exact h.apart q e hq
theorem TwoL.keep {S : Nat → Prop} (h : TwoL w wb vw vn lw ln) (hk : Kept w w' S) (h1 : ∀ q, WS wb vw q → ¬ S q) (h2 : ∀ q, vn.ownBlock = some q → ¬ S q) : TwoL w' wb vw vn lw ln :=
  ⟨h.wr.keep hk h1, own_later h.own hk h2, h.apart⟩
theorem TwoL.later (h : TwoL w wb vw vn lw ln) (hb : Below w.heap.size w w') : TwoL w' wb vw vn lw ln := h.keep (kept_of_below hb (fun _ => False)) (fun _ _ e => e) (fun _ _ e => e)
theorem TwoL.write {v1 : Value} {l1 : List UInt8} (h : TwoL w wb vw vn lw ln) (hto : WTo w w' wb vw v1 l1) : TwoL w' wb v1 vn l1 ln ∧ Below wb w w' := by
  refine ⟨⟨hto.wr, own_later h.own hto.kept (fun q hq => h.notWS hq), fun q hq hn => ?_⟩, hto.below h.wr⟩
  rcases hto.moved q hq with e | e
  · exact h.apart q e hn
  · have := h.nb hn; omega
theorem TwoL.grow {v2 : Value} {l2 : List UInt8} (h : TwoL w wb vw vn lw ln) (ho : w'.ownsRow (wb + 1) 5 1 v2 l2.length (l2.map bv)) (hk : Kept w w' (fun q => vn.ownBlock = some q)) (hm : Moved w vn v2) : TwoL w' wb vw v2 lw l2 ∧ Below wb w w' := by
  refine ⟨⟨h.wr.keep hk (fun q hq hn => h.notWS hn hq), ho, fun q hq hn => ?_⟩, hk.below (Nat.le_of_lt h.wr.lt) (fun i hi e => by have := h.nb e; omega)⟩
  rcases hm q hn with e | e
  · exact h.apart q hq e
  · have := h.wr.apart q hq; omega
end

theorem cw_string {w : World} {v : Value} {l : List UInt8} (h : Bs w v l) : ∀ W, Below w.heap.size w W → (convert 30 9 v).run Try.prog W = .ok (.string ⟨l.toArray⟩) W :=
  fun _ hb => (h.below hb).str (P := Try.prog) 30 9 5 Try.underlying30 Try.underlying5 Try.underlying9

/-- A row of n bytes at the head of block q, that may be written. -/
structure Wrt (w : World) (q n : Nat) : Prop where
  ex : ∃ cur : Array Value, w.heap[q]? = some (.cells cur 5 (0, 0)) ∧ n ≤ cur.size
theorem Wrt.cell {w : World} {q n : Nat} (h : Wrt w q n) (j : Nat) (hj : j < n) : (∃ u, w.cell? ⟨q, j, none⟩ = some u) ∧ w.frozen? ⟨q, j, none⟩ = false := by
  obtain ⟨cur, hg, hs⟩ := h.ex
  refine ⟨⟨cur[j], ?_⟩, frozen_of_row w q j _ _ hg⟩
  rw [cell_of_row w q j _ _ _ hg]
  exact Array.getElem?_eq_getElem (by omega)
theorem Wrt.set {w : World} {q n : Nat} (h : Wrt w q n) (j : Nat) (v : Value) : Wrt (w.setCell ⟨q, j, none⟩ v) q n := by
  obtain ⟨cur, hg, hs⟩ := h.ex
  exact ⟨_, heap_setCell_same w q j _ _ _ hg, by simp [hs]⟩
theorem Wrt.size {w : World} {q n : Nat} (h : Wrt w q n) : q < w.heap.size := by
  obtain ⟨cur, hg, _⟩ := h.ex
  exact (Array.getElem?_eq_some_iff.1 hg).1
theorem Wrt.keep {w w' : World} {q n : Nat} {S : Nat → Prop} (h : Wrt w q n) (hk : Kept w w' S) (hs : ¬ S q) : Wrt w' q n := by
  obtain ⟨cur, hg, hn⟩ := h.ex
  exact ⟨cur, (hk.block q h.size hs).trans hg, hn⟩
/-- A row of its owner: empty, or one that may be written. -/
theorem own_wrt {w : World} {g : Nat} {v : Value} {n : Nat} {xs : List Value} (h : w.ownsRow g 5 1 v n xs) : (v = .slice none 0 0 ∧ n = 0) ∨ ∃ q cap, v = .slice (some ⟨q, 0, none⟩) n cap ∧ g ≤ q ∧ Wrt w q n := by
  obtain ⟨h0, ⟨h1, h2⟩ | ⟨q, cap, cur, h1, h2, h3, h4, h5, h6, h7⟩⟩ := h
  · exact Or.inl ⟨h1, h2⟩
  · exact Or.inr ⟨q, cap, h1, h2, cur, h3, by omega⟩

end Go.Proofs.Ytdadbdeeoemfcab
