/- What the small calls of package net come to. -/
import Derived.Test.YtibgpbflchfbnaaNtA
import Derived.Deep.QuietTactic
import Derived.BigQuiet
namespace Go.Proofs.Ytibgpbflchfbnaa
open Go.RowKit

theorem Try.infoByte : (Try.prog.info? 5).map (fun i => (i.zero, i.size, i.bytes)) = some (some (.int .u8 0), 1, 1) := by kernel_rfl

theorem below_drewN0 (w : World) (n : Nat) : Below w.heap.size w (w.drewN n) := ⟨rfl, rfl, rfl, Nat.le_refl _, fun _ _ => rfl⟩

/-- v is a slice of l in new memory of its own. -/
def NewB (w w' : World) (v : Value) (l : List UInt8) : Prop := ∃ g, w.heap.size ≤ g ∧ v = .slice (some ⟨g, 0, none⟩) l.length l.length ∧ w'.heap[g]? = some (.cells (l.map bv).toArray 5 (0, 0))
theorem NewB.bs {w w' : World} {v : Value} {l : List UInt8} (h : NewB w w' v l) : Bs w' v l := by
  obtain ⟨g, _, rfl, hg⟩ := h
  exact Bs.ofBlock hg (List.take_of_length_le (by simp)) (Nat.le_refl _)
theorem NewB.keep {w w' w2 : World} {v : Value} {l : List UInt8} {S : Nat → Prop} (h : NewB w w' v l) (hk : Kept w' w2 S) (hs : ∀ k, S k → k < w.heap.size) : NewB w w2 v l := by
  obtain ⟨g, hg, rfl, hh⟩ := h
  exact ⟨g, hg, rfl, (hk.block g (Array.getElem?_eq_some_iff.1 hh).1 (fun e => by have := hs _ e; omega)).trans hh⟩
theorem NewB.below {w w' w2 : World} {v : Value} {l : List UInt8} (h : NewB w w' v l) (hb : Below w'.heap.size w' w2) : NewB w w2 v l := h.keep (kept_of_below hb (fun _ => False)) (fun _ e => e.elim)
theorem NewB.from {w0 w w' : World} {v : Value} {l : List UInt8} (h : NewB w w' v l) (hs : w0.heap.size ≤ w.heap.size) : NewB w0 w' v l := by
  obtain ⟨g, hg, rfl, hh⟩ := h
  exact ⟨g, by omega, rfl, hh⟩
theorem NewB.ownBlock {w w' : World} {v : Value} {l : List UInt8} (h : NewB w w' v l) : ∀ k, v.ownBlock = some k → w.heap.size ≤ k ∧ k < w'.heap.size := by
  obtain ⟨g, hg, rfl, hh⟩ := h
  intro k hk
  simp only [Value.ownBlock, Option.some.injEq] at hk
  subst hk
  exact ⟨hg, (Array.getElem?_eq_some_iff.1 hh).1⟩

theorem alloc2_old (w : World) (a b : Obj) : ((w.alloc a).alloc b).heap[w.heap.size]? = some a := by
  rw [Below.heap_alloc _ _ _ (by simp)]
  exact heap_alloc_new _ _
theorem alloc2_new (w : World) (a b : Obj) : ((w.alloc a).alloc b).heap[w.heap.size + 1]? = some b := by
  have e : (w.alloc a).heap.size = w.heap.size + 1 := by simp
  rw [← e]
  exact heap_alloc_new _ _
theorem below2 (w : World) (a b : Obj) : Below w.heap.size w ((w.alloc a).alloc b) :=
  ((Below.refl _ _).alloc (Nat.le_refl _) _).alloc (by simp) _

set_option maxRecDepth 20000 in
set_option maxHeartbeats 1000000 in
theorem nfresh_any (d : Dg) (v : Value) (w : World) (hv : Bs w v d.b) (hl : d.b.length ≤ 140737488355328) :
    Calls Try.prog 26 #[dgV d v] w fun e w' => ∃ v', e = .returned (dgV d v') ∧ NewB w w' v' d.b ∧ Below w.heap.size w w' := by
  have hv0 := hv
  obtain ⟨ao, cap, rfl, hc, hx⟩ := hv
  obtain ⟨i, hi, hz0, hz1, hz2⟩ := info_parts Try.infoByte
  have hsz : (Try.prog.info? 5).map (·.size) = some 1 := by rw [hi]; simp [hz1]
  obtain ⟨frm, to, l⟩ := d
  simp only at *
  have hB0 : Hid (∀ a b w', Below (w.heap.size + 2) ((w.alloc a).alloc b) w' → Below w.heap.size w w' ∧ w'.heap[w.heap.size]? = some a ∧ w'.heap[w.heap.size + 1]? = some b) := fun a b w' h =>
    ⟨(below2 w a b).trans (h.mono (by omega)), (h.block _ (by omega)).trans (alloc2_old w a b), (h.block _ (by omega)).trans (alloc2_new w a b)⟩
  go_enter Try.func26, Try.ntmps26
  go_wp2_with (first
    | (at_make; refine wpList_make_row _ rfl _ _ 28 rfl 5 i _ Try.underlying28 hi hz0 hz1 rfl _ _ _ _ l.length rfl rfl rfl rfl (by rw [hz2]; omega) (by unfold maxLen; omega) ?_; intro w1 hg1 hb1 hlt1; (simp only [World.size_alloc] at hg1 hb1 hlt1); obtain ⟨hb1', hx0, hx1⟩ := hB0.out _ _ _ hb1; clear hb1; have c2 := cell_of_row w1 _ 2 _ _ _ hx0; simp at c2)
    | (refine wpList_copy_splice rfl (.tmp 8) (.tmp 10) 28 28 rfl 5 Try.underlying28 hsz _ ao l.length l.length l.length cap rfl rfl (w.heap.size + 2) 0 (List.replicate l.length (.int .u8 0)) 5 hg1 (l.map bv) (by simp) (fun hp => ⟨rfl, src_of hx hb1' hp⟩) (by simp) (bv_oneCell l) (w.heap.size + 2) w1 (Below.refl _ _) (Nat.le_refl _) ?_; intro w2 hg2 hb2; have hy0 := (hb2.block _ (by omega)).trans hx0; have hy1 := (hb2.block _ (by omega)).trans hx1; have d0 := cell_of_row w2 _ 0 _ _ _ hy0; have d1 := cell_of_row w2 _ 1 _ _ _ hy0; have d2 := cell_of_row w2 _ 2 _ _ _ hy0; have e0 := cell_of_row w2 _ 0 _ _ _ hy1; have e1 := cell_of_row w2 _ 1 _ _ _ hy1; have e2 := cell_of_row w2 _ 2 _ _ _ hy1; have f2 := frozen_of_row w2 _ 2 _ _ hy0; have g0 := frozen_of_row w2 _ 0 _ _ hy1; have g1 := frozen_of_row w2 _ 1 _ _ hy1; have g2 := frozen_of_row w2 _ 2 _ _ hy1; simp at d0 d1 d2 e0 e1 e2))
  have hg3 := hg2.out
  rw [show List.replicate l.length (Value.int .u8 0) = List.replicate (l.map bv).length (Value.int .u8 0) by simp, splice_all] at hg3
  refine bodyPost_ret (v := dgV ⟨frm, to, l⟩ (.slice (some ⟨w.heap.size + 1 + 1, 0, none⟩) l.length l.length)) (by simp [results, Try.results26, go_sem, *]) rfl ⟨_, rfl, ⟨w.heap.size + 2, by omega, rfl, ?_⟩, ?_⟩
  · rw [Below.heap_setCell _ _ _ _ (by simp), Below.heap_setCell _ _ _ _ (by simp), Below.heap_setCell _ _ _ _ (by simp), Below.heap_setCell _ _ _ _ (by simp)]
    exact hg3
  · exact ((((hb1'.trans (hb2.mono (by omega))).setCell (by simp) _).setCell (by simp) _).setCell (by simp) _).setCell (by simp) _

/-- The program's own net. -/
@[reducible] def netC (most lost : Nat) (rv : Value) : Array Value := #[.int .i64 (most : Int), rv, .int .i64 (lost : Int)]
def Net (w : World) (b most lost : Nat) (rv : Value) (rs : List (Dg × Value)) (F : Nat → Prop) : Prop := NT w b 51 (netC most lost rv) rv rs F

section
variable {w w' : World} {b most lost : Nat} {rv : Value} {rs : List (Dg × Value)} {F S : Nat → Prop}
theorem Net.c0 (h : Net w b most lost rv rs F) : w.cell? ⟨b, 0, none⟩ = some (.int .i64 (most : Int)) := NT.cell h 0
theorem Net.c1 (h : Net w b most lost rv rs F) : w.cell? ⟨b, 1, none⟩ = some rv := NT.cell h 1
theorem Net.c2 (h : Net w b most lost rv rs F) : w.cell? ⟨b, 2, none⟩ = some (.int .i64 (lost : Int)) := NT.cell h 2
theorem Net.keep (h : Net w b most lost rv rs F) (hk : Kept w w' S) (hs : ∀ k, F k → ¬ S k) : Net w' b most lost rv rs F := NT.keep h hk hs
theorem Net.below (h : Net w b most lost rv rs F) (hb : Below w.heap.size w w') : Net w' b most lost rv rs F := NT.below h hb
end

set_option maxRecDepth 20000 in
theorem nnew_ok (n : Nat) (h1 : 1 ≤ n) (h2 : n ≤ 256) (w : World) :
    Calls Try.prog 8 #[.int .i64 (n : Int)] w fun e w' => e = .returned (.tuple #[.pointer (some ⟨w.heap.size, 0, none⟩), .int .i64 0]) ∧ Net w' w.heap.size n 0 (.slice none 0 0) [] (fun k => k = w.heap.size) ∧ Below w.heap.size w w' ∧ w'.heap.size = w.heap.size + 1 := by
  go_enter Try.func8, Try.ntmps8
  go_wp2
  go_ret2
  refine ⟨rfl, ⟨heap_alloc_new w _, ⟨rfl, Or.inl ⟨rfl, rfl⟩⟩, by simp, rfl, fun k h => by simp [Value.ownBlock] at h, by simp, fun k h => ?_⟩, (Below.refl _ _).alloc (Nat.le_refl _) _, by simp⟩
  have h' : k = w.heap.size := h
  simp [h']

set_option maxRecDepth 20000 in
theorem nnew_no (n : Int) (h : n < 1 ∨ 256 < n) (w : World) :
    Calls Try.prog 8 #[.int .i64 n] w fun e w' => e = .returned (.tuple #[.pointer none, .int .i64 1]) ∧ w = w' := by
  by_cases h1 : n < 1
  · go_enter Try.func8, Try.ntmps8
    go_wp2
    go_ret2
    exact ⟨rfl, rfl⟩
  · have h2 : 256 < n := by omega
    go_enter Try.func8, Try.ntmps8
    go_wp2
    go_ret2
    exact ⟨rfl, rfl⟩

set_option maxRecDepth 20000 in
theorem nlen_any (b most lost : Nat) (rv : Value) (rs : List (Dg × Value)) (F : Nat → Prop) (w : World) (h : Net w b most lost rv rs F) :
    Calls Try.prog 22 #[.pointer (some ⟨b, 0, none⟩)] w fun e w' => e = .returned (.int .i64 (rs.length : Int)) ∧ w = w' := by
  have c1 := h.c1
  obtain ⟨ao, cap, rfl⟩ := NT.form h
  go_enter Try.func22, Try.ntmps22
  go_wp2
  go_ret
  exact ⟨rfl, rfl⟩

set_option maxRecDepth 20000 in
theorem nlost_any (b most lost : Nat) (rv : Value) (rs : List (Dg × Value)) (F : Nat → Prop) (w : World) (h : Net w b most lost rv rs F) :
    Calls Try.prog 23 #[.pointer (some ⟨b, 0, none⟩)] w fun e w' => e = .returned (.int .i64 (lost : Int)) ∧ w = w' := by
  have c2 := h.c2
  go_enter Try.func23, Try.ntmps23
  go_wp2
  go_ret
  exact ⟨rfl, rfl⟩

/-- Is there one of number k? -/
def hasB (n : Nat) (k : Int) : Bool := decide (0 ≤ k ∧ k < n)

set_option maxRecDepth 20000 in
theorem nhas_any (b most lost : Nat) (rv : Value) (rs : List (Dg × Value)) (F : Nat → Prop) (k : Int) (w : World) (h : Net w b most lost rv rs F) :
    Calls Try.prog 28 #[.pointer (some ⟨b, 0, none⟩), .int .i64 k] w fun e w' => e = .returned (.bool (hasB rs.length k)) ∧ w = w' := by
  have c1 := h.c1
  obtain ⟨ao, cap, rfl⟩ := NT.form h
  unfold hasB
  by_cases h1 : 0 ≤ k
  · have e : decide (0 ≤ k ∧ k < rs.length) = decide (k < rs.length) := by simp [h1]
    rw [e]
    go_enter Try.func28, Try.ntmps28
    go_wp2
    go_ret
    exact ⟨rfl, rfl⟩
  · have e : decide (0 ≤ k ∧ k < rs.length) = false := by simp [h1]
    rw [e]
    go_enter Try.func28, Try.ntmps28
    go_wp2
    go_ret
    exact ⟨rfl, rfl⟩

def fullB (n most : Nat) : Bool := decide (most ≤ n)
set_option maxRecDepth 20000 in
theorem nfull_any (b most lost : Nat) (rv : Value) (rs : List (Dg × Value)) (F : Nat → Prop) (w : World) (h : Net w b most lost rv rs F) :
    Calls Try.prog 25 #[.pointer (some ⟨b, 0, none⟩)] w fun e w' => e = .returned (.bool (fullB rs.length most)) ∧ ∃ n, w' = w.drewN n := by
  have c0 := h.c0
  have c1 := h.c1
  obtain ⟨ao, cap, rfl⟩ := NT.form h
  unfold fullB
  go_enter Try.func25, Try.ntmps25
  go_wp2
  go_quiet (fail)
  go_wp2
  go_ret
  exact ⟨rfl, _, rfl⟩

end Go.Proofs.Ytibgpbflchfbnaa
