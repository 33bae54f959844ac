/- A stack in memory (the program's, of numbers or of texts, or the plain one): a struct of three cells, and its list. -/
import Derived.Test.YtlabdbfmfejkaaaDoorRows
import Derived.Test.YtlabdbfmfejkaaaDoorTbLP
import Derived.Test.YtlabdbfmfejkaaaDoorArK
namespace Go.Proofs.YtlabdbfmfejkaaaDoor
open Go.RowKit

theorem bel_alloc (w : World) (o : Obj) : Below w.heap.size w (w.alloc o) := (Below.refl _ _).alloc (Nat.le_refl _) o
theorem cell_lt {w : World} {a : Addr} {v : Value} (h : w.cell? a = some v) : a.block < w.heap.size := World.block_lt_of_cell? w _ h
theorem cell_kept {w w' : World} {P : Nat → Prop} {b i : Nat} {v : Value} (h : w.cell? ⟨b, i, none⟩ = some v) (hk : Kept w w' P) (hP : ¬ P b) : w'.cell? ⟨b, i, none⟩ = some v :=
  (World.cell?_of_block (a := ⟨b, i, none⟩) (hk.block b (cell_lt h) hP)).trans h

/-- A stack: the struct at sb, its list v of the elements l (the lowest first), whose block lies from base on; M may be on it. -/
structure SK (w : World) (sb base : Nat) (T E : TypeId) (v : Value) (M : Nat) (l : List Value) (ov : Bool) : Prop where
  box : Row w sb T [.int .i64 (M : Int), v, .bool ov]
  own : w.ownsRow base E 1 v l.length l
  off : v.ownBlock ≠ some sb
  one : ∀ u ∈ l, u.oneCell' = true
  few : l.length ≤ M ∧ 1 ≤ M ∧ M ≤ 64
/-- Its blocks. -/
def sBl (sb : Nat) (v : Value) (k : Nat) : Prop := k = sb ∨ v.ownBlock = some k
/-- What became of a stack. -/
structure Go1 (w w' : World) (sb base : Nat) (T E : TypeId) (v v' : Value) (M : Nat) (l : List Value) (ov : Bool) : Prop where
  x : SK w' sb base T E v' M l ov
  k : Kept w w' (sBl sb v)
  m : Moved w v v'

section
variable {w w' : World} {sb base : Nat} {T E : TypeId} {v : Value} {M : Nat} {l : List Value} {ov : Bool} {P : Nat → Prop}
theorem own_lt (h : w.ownsRow base E 1 v l.length l) : ∀ k, v.ownBlock = some k → base ≤ k ∧ k < w.heap.size := by
  intro k hk
  rcases h.2 with ⟨rfl, _⟩ | ⟨g, cap, cur, rfl, h2, h3, _⟩
  · cases hk
  · have e : g = k := by simpa [Value.ownBlock] using hk
    subst e
    exact ⟨h2, (Array.getElem?_eq_some_iff.1 h3).1⟩
theorem SK.kept (x : SK w sb base T E v M l ov) (hk : Kept w w' P) (hP : ∀ k, sBl sb v k → ¬ P k) : SK w' sb base T E v M l ov :=
  ⟨x.box.kept hk (hP _ (Or.inl rfl)), own_kept x.own hk (fun k h => hP k (Or.inr h)), x.off, x.one, x.few⟩
theorem SK.below (x : SK w sb base T E v M l ov) (hb : Below w.heap.size w w') : SK w' sb base T E v M l ov := x.kept (kept_of_below hb (fun _ => False)) (fun _ _ => id)
theorem SK.lt (x : SK w sb base T E v M l ov) : ∀ k, sBl sb v k → k < w.heap.size := by
  intro k hk
  rcases hk with rfl | hk
  · exact x.box.lt
  · exact (own_lt x.own k hk).2
theorem SK.c0 (x : SK w sb base T E v M l ov) : w.cell? ⟨sb, 0, none⟩ = some (.int .i64 (M : Int)) := x.box.cell 0 (by simp)
theorem SK.c1 (x : SK w sb base T E v M l ov) : w.cell? ⟨sb, 1, none⟩ = some v := x.box.cell 1 (by simp)
theorem SK.c2 (x : SK w sb base T E v M l ov) : w.cell? ⟨sb, 2, none⟩ = some (.bool ov) := x.box.cell 2 (by simp)
theorem SK.slice (x : SK w sb base T E v M l ov) : ∃ ao cap, v = .slice ao l.length cap ∧ l.length ≤ cap ∧ cap ≤ maxLen ∧ (ao = none → cap = 0) := own_slice x.own
theorem Go1.refl (x : SK w sb base T E v M l ov) (hb : Below w.heap.size w w') : Go1 w w' sb base T E v v M l ov := ⟨x.below hb, kept_of_below hb _, Moved.refl _ _⟩
/-- Over, or at rest. -/
theorem SK.over (x : SK w sb base T E v M l ov) (b : Bool) (hb : Below w.heap.size w w') : Go1 w (w'.setCell ⟨sb, 2, none⟩ (.bool b)) sb base T E v v M l b := by
  have y := x.below hb
  have hk : Kept w' (w'.setCell ⟨sb, 2, none⟩ (.bool b)) (fun k => k = sb) := Kept.setCell _ _ _
  refine ⟨⟨y.box.set 2 (.bool b), own_kept y.own hk (fun k h e => ?_), y.off, y.one, y.few⟩, (kept_of_below hb _).trans hk (fun i _ e => Or.inl e), Moved.refl _ _⟩
  have e' : k = sb := e
  subst e'
  exact y.off h
/-- Its list is another one. -/
theorem SK.turn (x : SK w sb base T E v M l ov) {w1 : World} {v1 : Value} {l1 : List Value} (hk : Kept w w1 (fun k => v.ownBlock = some k)) (ho : w1.ownsRow base E 1 v1 l1.length l1) (hm : Moved w v v1) (h1 : ∀ u ∈ l1, u.oneCell' = true) (hf : l1.length ≤ M) :
    Go1 w (w1.setCell ⟨sb, 1, none⟩ v1) sb base T E v v1 M l1 ov := by
  have hoff : v1.ownBlock ≠ some sb := by
    intro e
    rcases hm sb e with h | h
    · exact x.off h
    · have := x.box.lt
      omega
  have hk1 : Kept w1 (w1.setCell ⟨sb, 1, none⟩ v1) (fun k => k = sb) := Kept.setCell _ _ _
  refine ⟨⟨(x.box.kept hk x.off).set 1 v1, own_kept ho hk1 (fun k h e => ?_), hoff, h1, hf, x.few.2⟩, (hk.mono (fun i _ e => Or.inr e)).trans hk1 (fun i _ e => Or.inl e), hm⟩
  have e' : k = sb := e
  subst e'
  exact hoff h
theorem SK.clear (x : SK w sb base T E v M l ov) : Go1 w ((w.setCell ⟨sb, 1, none⟩ (.slice none 0 0)).setCell ⟨sb, 2, none⟩ (.bool false)) sb base T E v (.slice none 0 0) M [] false := by
  have h1 := x.turn (w1 := w) (v1 := .slice none 0 0) (l1 := []) (Kept.refl _ _) ⟨rfl, Or.inl ⟨rfl, rfl⟩⟩ (fun _ h => by cases h) (by simp) (Nat.zero_le _)
  have h2 := h1.x.over false (Below.refl _ _)
  exact ⟨h2.x, h1.k.trans h2.k (fun i _ e => by rcases e with e | e; exact Or.inl e; cases e), h1.m⟩
/-- What is on top. -/
theorem SK.top {a : Value} (x : SK w sb base T E v M (l ++ [a]) ov) : ∃ g cap, v = .slice (some ⟨g, 0, none⟩) (l.length + 1) cap ∧ l.length + 1 ≤ cap ∧ cap ≤ maxLen ∧ g ≠ sb ∧ g < w.heap.size ∧ w.cell? ⟨g, l.length, none⟩ = some a ∧ w.frozen? ⟨g, l.length, none⟩ = false ∧
    (∀ w1 : World, Kept w w1 (fun k => k = g) → (w1.heap = w.heap ∨ ∃ z, w1.heap = (w.setCell ⟨g, l.length, none⟩ z).heap) → Go1 w (w1.setCell ⟨sb, 1, none⟩ (.slice (some ⟨g, 0, none⟩) l.length cap)) sb base T E v (.slice (some ⟨g, 0, none⟩) l.length cap) M l ov) := by
  have hl : (l ++ [a]).length = l.length + 1 := by simp
  rcases x.own.2 with ⟨_, h0⟩ | ⟨g, cap, cur, hv, hb, hg, hn, hm, hs, ht⟩
  · rw [hl] at h0; omega
  · rw [hl] at hv hn ht
    rw [Nat.mul_one] at hs ht
    have hgs : g ≠ sb := by intro e; subst e; exact x.off (by rw [hv]; rfl)
    have hat : cur.toList[l.length]? = some a := by
      have h2 : (cur.toList.take (l.length + 1))[l.length]? = some a := by rw [ht]; simp
      rwa [List.getElem?_take_of_lt (by omega)] at h2
    refine ⟨g, cap, hv, hn, hm, hgs, (Array.getElem?_eq_some_iff.1 hg).1, ?_, frozen_of_row w g _ _ _ hg, fun w1 hk1 hw1 => ?_⟩
    · rw [cell_of_row w g _ _ _ _ hg]
      simpa using hat
    · have htl : cur.toList.take l.length = l := by
        have h2 : (cur.toList.take (l.length + 1)).take l.length = l := by rw [ht]; simp
        rwa [List.take_take, Nat.min_eq_left (by omega)] at h2
      refine x.turn (hk1.mono (fun k _ e => ?_)) ⟨by simp, Or.inr ?_⟩ (fun k h => Or.inl ?_) (fun u hu => x.one u (List.mem_append_left _ hu)) (by have := x.few.1; rw [hl] at this; omega)
      · have e' : k = g := e
        rw [hv, e']
        rfl
      · rcases hw1 with h | ⟨z, h⟩
        · exact ⟨g, cap, cur, rfl, hb, by rw [h]; exact hg, by omega, hm, by rw [Nat.mul_one]; exact hs, by rw [Nat.mul_one]; exact htl⟩
        · refine ⟨g, cap, cur.setIfInBounds l.length z, rfl, hb, by rw [h]; exact heap_setCell_same w g l.length _ _ z hg, by omega, hm, by rw [Nat.mul_one]; simpa using hs, ?_⟩
          rw [Nat.mul_one]
          have e : (cur.setIfInBounds l.length z).toList = cur.toList.set l.length z := by simp
          rw [e, List.take_set_of_le (Nat.le_refl _)]
          exact htl
      · rw [hv]
        exact h
end
theorem sk_new (w : World) (T E : TypeId) (base M : Nat) (h1 : 1 ≤ M) (h2 : M ≤ 64) : SK (w.alloc (.cells #[.int .i64 (M : Int), .slice none 0 0, .bool false] T)) w.heap.size base T E (.slice none 0 0) M [] false :=
  ⟨heap_alloc_new w _, ⟨rfl, Or.inl ⟨rfl, rfl⟩⟩, (fun h => by cases h), by simp, Nat.zero_le _, h1, h2⟩
/-- One value in a block, as append lays it. -/
theorem sr_val (w : World) (u : Value) (h1 : u.oneCell' = true) (T : TypeId) : Sr (w.alloc (.cells #[u] T)) (.slice (some ⟨w.heap.size, 0, none⟩) 1 1) 1 1 [u] := by
  have h := heap_alloc_new w (.cells #[u] T)
  refine ⟨rfl, Or.inr ⟨⟨w.heap.size, 0, none⟩, 1, rfl, fun j x hx => ?_⟩, by simpa using h1⟩
  rw [Addr.add_at, Nat.zero_add, cell_of_row _ _ _ _ _ _ h]
  simpa using hx

end Go.Proofs.YtlabdbfmfejkaaaDoor
