/- Datagrams in memory, and a row of them that is its owner's. -/
import Derived.Test.YtibgpbflchfbnaaRows
import Derived.Test.YtibgpbflchfbnaaBase
import Derived.Deep.AppendLies
namespace Go.Proofs.Ytibgpbflchfbnaa
open Go.RowKit

theorem hidden {p : Prop} (h : p) : Hid p := h

/-- A datagram. -/
structure Dg where
  frm : Int
  to : Int
  b : List UInt8

/-- A datagram's cells: the last one is its slice. -/
def dgCells (r : Dg × Value) : List Value := [.int .i64 r.1.frm, .int .i64 r.1.to, r.2]
/-- A datagram as a value. -/
@[reducible] def dgV (d : Dg) (v : Value) : Value := .agg #[.int .i64 d.frm, .int .i64 d.to, v]

theorem flat3 {α : Type} (f : α → List Value) (hf : ∀ x, (f x).length = 3) : ∀ (l : List α) (i j : Nat) (hi : i < l.length), j < 3 → (l.flatMap f)[i * 3 + j]? = (f l[i])[j]? := by
  intro l
  induction l with
  | nil => intro i j hi; simp at hi
  | cons x l ih =>
    intro i j hi hj
    rw [List.flatMap_cons]
    cases i with
    | zero =>
      rw [List.getElem?_append_left (by rw [hf]; omega)]
      simp
    | succ i =>
      rw [List.getElem?_append_right (by rw [hf]; omega), hf, show (i + 1) * 3 + j - 3 = i * 3 + j by omega]
      simpa using ih i j (by simpa using hi) hj
theorem length_flat3 {α : Type} (f : α → List Value) (hf : ∀ x, (f x).length = 3) (l : List α) : (l.flatMap f).length = l.length * 3 := by
  induction l with
  | nil => rfl
  | cons x l ih => rw [List.flatMap_cons, List.length_append, hf, ih, List.length_cons]; omega
theorem take_flat3 {α : Type} (f : α → List Value) (hf : ∀ x, (f x).length = 3) : ∀ (l : List α) (k : Nat), (l.flatMap f).take (k * 3) = (l.take k).flatMap f := by
  intro l
  induction l with
  | nil => intro k; simp
  | cons x l ih =>
    intro k
    cases k with
    | zero => simp
    | succ k =>
      rw [List.flatMap_cons, List.take_succ_cons, List.flatMap_cons, List.take_append, hf, show (k + 1) * 3 - 3 = k * 3 by omega, ih, List.take_of_length_le (by rw [hf]; omega)]
theorem drop_flat3 {α : Type} (f : α → List Value) (hf : ∀ x, (f x).length = 3) : ∀ (l : List α) (k : Nat), (l.flatMap f).drop (k * 3) = (l.drop k).flatMap f := by
  intro l
  induction l with
  | nil => intro k; simp
  | cons x l ih =>
    intro k
    cases k with
    | zero => simp
    | succ k =>
      rw [List.flatMap_cons, List.drop_succ_cons, List.drop_append, hf, show (k + 1) * 3 - 3 = k * 3 by omega, ih, List.drop_of_length_le (by rw [hf]; omega), List.nil_append]

theorem Bs.oneCell {w : World} {v : Value} {l : List UInt8} (h : Bs w v l) : v.oneCell' = true := by
  obtain ⟨ao, cap, rfl, _⟩ := h
  rfl
theorem Bs.slice {w : World} {v : Value} {l : List UInt8} (h : Bs w v l) : ∃ ao cap, v = .slice ao l.length cap := by
  obtain ⟨ao, cap, rfl, _⟩ := h
  exact ⟨_, _, rfl⟩

/-- A struct in block b, one of whose cells is a row of datagrams; all of it lies within F. -/
structure NT (w : World) (b : Nat) (T : TypeId) (cs : Array Value) (rv : Value) (rs : List (Dg × Value)) (F : Nat → Prop) : Prop where
  box : w.heap[b]? = some (.cells cs T (0, 0))
  own : w.ownsRow 0 30 3 rv rs.length (rs.flatMap dgCells)
  bs : ∀ r ∈ rs, Bs w r.2 r.1.b
  fb : F b
  fr : ∀ k, rv.ownBlock = some k → F k ∧ k ≠ b
  fs : ∀ r ∈ rs, ∀ k, r.1.b ≠ [] → r.2.ownBlock = some k → F k ∧ k ≠ b ∧ rv.ownBlock ≠ some k
  lt : ∀ k, F k → k < w.heap.size

theorem own_kept3 {w w' : World} {base : Nat} {e : TypeId} {sz : Nat} {v : Value} {n : Nat} {xs : List Value} {S : Nat → Prop} (h : w.ownsRow base e sz v n xs) (hk : Kept w w' S) (hs : ∀ k, v.ownBlock = some k → ¬ S k) : w'.ownsRow base e sz v n xs := by
  obtain ⟨h1, ⟨rfl, h0⟩ | ⟨g, cap, cur, rfl, hb, hg, hr⟩⟩ := h
  · exact ⟨h1, Or.inl ⟨rfl, h0⟩⟩
  · exact ⟨h1, Or.inr ⟨g, cap, cur, rfl, hb, (hk.block g (Array.getElem?_eq_some_iff.1 hg).1 (hs g rfl)).trans hg, hr⟩⟩
theorem own_lt3 {w : World} {base : Nat} {e : TypeId} {sz : Nat} {v : Value} {n : Nat} {xs : List Value} (h : w.ownsRow base e sz v n xs) : ∀ k, v.ownBlock = some k → k < w.heap.size := by
  intro k hk
  obtain ⟨_, ⟨rfl, h0⟩ | ⟨g, cap, cur, rfl, hb, hg, _⟩⟩ := h
  · simp [Value.ownBlock] at hk
  · simp only [Value.ownBlock, Option.some.injEq] at hk
    subst hk
    exact (Array.getElem?_eq_some_iff.1 hg).1

section
variable {w w' : World} {b : Nat} {T : TypeId} {cs : Array Value} {rv : Value} {rs : List (Dg × Value)} {F S : Nat → Prop}
theorem NT.size (h : NT w b T cs rv rs F) : b < w.heap.size := h.lt b h.fb
theorem NT.cell (h : NT w b T cs rv rs F) (j : Nat) : w.cell? ⟨b, j, none⟩ = cs[j]? := cell_of_row w b j _ _ _ h.box
theorem NT.free (h : NT w b T cs rv rs F) (j : Nat) : w.frozen? ⟨b, j, none⟩ = false := frozen_of_row w b j _ _ h.box
theorem NT.keep (h : NT w b T cs rv rs F) (hk : Kept w w' S) (hs : ∀ k, F k → ¬ S k) : NT w' b T cs rv rs F :=
  ⟨(hk.block b h.size (hs b h.fb)).trans h.box, own_kept3 h.own hk (fun k hv => hs k (h.fr k hv).1), fun r hr => (h.bs r hr).kept hk (fun k hne hv _ => hs k (h.fs r hr k hne hv).1), h.fb, h.fr, h.fs, fun k hF => Nat.lt_of_lt_of_le (h.lt k hF) hk.size⟩
theorem NT.below (h : NT w b T cs rv rs F) (hb : Below w.heap.size w w') : NT w' b T cs rv rs F := h.keep (kept_of_below hb (fun _ => False)) (fun _ _ e => e)
theorem NT.mono (h : NT w b T cs rv rs F) (hF : ∀ k, F k → S k) (hl : ∀ k, S k → k < w.heap.size) : NT w b T cs rv rs S :=
  ⟨h.box, h.own, h.bs, hF _ h.fb, fun k hv => ⟨hF _ (h.fr k hv).1, (h.fr k hv).2⟩, fun r hr k hne hv => ⟨hF _ (h.fs r hr k hne hv).1, (h.fs r hr k hne hv).2⟩, hl⟩
theorem NT.form (h : NT w b T cs rv rs F) : ∃ ao cap, rv = .slice ao rs.length cap := by
  obtain ⟨_, ⟨rfl, h0⟩ | ⟨g, cap, cur, rfl, _⟩⟩ := h.own
  · exact ⟨none, 0, by rw [h0]⟩
  · exact ⟨_, _, rfl⟩
/-- What stands at place i of the row. -/
theorem NT.at (h : NT w b T cs rv rs F) (i : Nat) (hi : i < rs.length) : ∃ g cap, rv = .slice (some ⟨g, 0, none⟩) rs.length cap ∧ rs.length ≤ cap ∧ cap ≤ maxLen ∧ g < w.heap.size ∧ g ≠ b ∧ w.cell? ⟨g, i * 3, none⟩ = some (.int .i64 rs[i].1.frm) ∧ w.cell? ⟨g, i * 3 + 1, none⟩ = some (.int .i64 rs[i].1.to) ∧ w.cell? ⟨g, i * 3 + 2, none⟩ = some rs[i].2 := by
  obtain ⟨_, ⟨_, h0⟩ | ⟨g, cap, cur, rfl, _, hg, hn, hm, hs, ht⟩⟩ := h.own
  · omega
  · have hc : ∀ j, j < 3 → w.cell? ⟨g, i * 3 + j, none⟩ = (dgCells rs[i])[j]? := by
      intro j hj
      rw [cell_of_row w g _ _ _ _ hg, ← flat3 dgCells (fun _ => rfl) rs i j hi hj, ← ht, List.getElem?_take, if_pos (by omega)]
      simp
    exact ⟨g, cap, rfl, hn, hm, (Array.getElem?_eq_some_iff.1 hg).1, (h.fr g rfl).2, by simpa [dgCells] using hc 0 (by omega), by simpa [dgCells] using hc 1 (by omega), by simpa [dgCells] using hc 2 (by omega)⟩
/-- One of its own cells, that is not the row, is another. -/
theorem NT.set (h : NT w b T cs rv rs F) (j : Nat) (v : Value) : NT (w.setCell ⟨b, j, none⟩ v) b T (cs.setIfInBounds j v) rv rs F ∧ Kept w (w.setCell ⟨b, j, none⟩ v) (fun k => k = b) := by
  have hk := Kept.setCell w ⟨b, j, none⟩ v
  refine ⟨⟨?_, own_kept3 h.own hk (fun k hv => (h.fr k hv).2), fun r hr => (h.bs r hr).kept hk (fun k hne hv _ => (h.fs r hr k hne hv).2.1), h.fb, h.fr, h.fs, fun k hF => by have := h.lt k hF; simpa using this⟩, hk⟩
  rw [heap_setCell_same w b j _ _ v h.box]
/-- Its row is another one, in the same place or in a new block. -/
theorem NT.setRow {rv' : Value} {rs' : List (Dg × Value)} (h : NT w b T cs rv rs F) (j : Nat) (hown : w'.ownsRow 0 30 3 rv' rs'.length (rs'.flatMap dgCells)) (hk : Kept w w' (fun k => rv.ownBlock = some k)) (hm : Moved w rv rv')
    (hbs : ∀ r ∈ rs', r ∈ rs ∨ (Bs w' r.2 r.1.b ∧ ∀ k, r.1.b ≠ [] → r.2.ownBlock = some k → F k ∧ k ≠ b ∧ rv.ownBlock ≠ some k)) :
    NT (w'.setCell ⟨b, j, none⟩ rv') b T (cs.setIfInBounds j rv') rv' rs' (fun k => F k ∨ (w.heap.size ≤ k ∧ k < w'.heap.size)) ∧ Kept w (w'.setCell ⟨b, j, none⟩ rv') (fun k => F k) := by
  have hsz := h.size
  have hne : ∀ k, rv.ownBlock = some k → k ≠ b := fun k hv => (h.fr k hv).2
  have hbx : w'.heap[b]? = some (.cells cs T (0, 0)) := (hk.block b hsz (fun e => hne b e rfl)).trans h.box
  have hk2 := Kept.setCell w' ⟨b, j, none⟩ rv'
  have hrn : ∀ k, rv'.ownBlock = some k → k ≠ b := by
    intro k hv e
    rcases hm k hv with h1 | h1
    · exact hne k h1 e
    · omega
  refine ⟨⟨?_, own_kept3 hown hk2 hrn, fun r hr => ?_, Or.inl h.fb, fun k hv => ⟨?_, hrn k hv⟩, fun r hr k hb hv => ?_, fun k hF => ?_⟩, ?_⟩
  · rw [heap_setCell_same w' b j _ _ rv' hbx]
  · rcases hbs r hr with h1 | ⟨h1, h2⟩
    · exact ((h.bs r h1).kept hk (fun k hne hv _ => (h.fs r h1 k hne hv).2.2)).kept hk2 (fun k hne hv _ => (h.fs r h1 k hne hv).2.1)
    · exact h1.kept hk2 (fun k hne hv _ => (h2 k hne hv).2.1)
  · rcases hm k hv with h1 | h1
    · exact Or.inl (h.fr k h1).1
    · exact Or.inr ⟨h1, own_lt3 hown k hv⟩
  · have hq : F k ∧ k ≠ b ∧ rv.ownBlock ≠ some k := by
      rcases hbs r hr with h1 | ⟨_, h2⟩
      · exact h.fs r h1 k hb hv
      · exact h2 k hb hv
    refine ⟨Or.inl hq.1, hq.2.1, fun e => ?_⟩
    rcases hm k e with h1 | h1
    · exact hq.2.2 h1
    · have := h.lt k hq.1; omega
  · have := hk.size
    rcases hF with h1 | h1
    · have := h.lt k h1; simp; omega
    · simpa using h1.2
  · refine Kept.trans (hk.mono (fun i _ e => (h.fr i e).1)) hk2 (fun i _ e => ?_)
    have e' : i = b := e
    rw [e']; exact h.fb
end

end Go.Proofs.Ytibgpbflchfbnaa
