/- A table in memory: its two rows, and what it holds. No program's text is in it. -/
import Derived.Test.YtofpkmionbbmcaaTbM
namespace Go.Proofs.Ytofpkmionbbmcaa
open Go.RowKit

theorem below_drewN (w : World) (n : Nat) : Below w.heap.size w (w.drewN n) := by
  induction n with
  | zero => exact Below.refl _ _
  | succ n ih => exact ih.drew

/-- F, and what is new. -/
def grownT (w w' : World) (F : Nat → Prop) : Nat → Prop := fun k => F k ∨ (w.heap.size ≤ k ∧ k < w'.heap.size)
def GrownT (w : World) (F F' : Nat → Prop) : Prop := ∀ k, F' k → F k ∨ w.heap.size ≤ k
theorem GrownT.refl (w : World) (F : Nat → Prop) : GrownT w F F := fun _ h => Or.inl h
theorem GrownT.trans {w w1 : World} {F F1 F2 : Nat → Prop} (h : GrownT w F F1) (k : GrownT w1 F1 F2) (hs : w.heap.size ≤ w1.heap.size) : GrownT w F F2 := fun i hi => by
  rcases k i hi with h1 | h1
  · exact h i h1
  · exact Or.inr (by omega)
theorem GrownT.of {w w' : World} {F : Nat → Prop} : GrownT w F (grownT w w' F) := fun k h => by
  rcases h with h | h
  · exact Or.inl h
  · exact Or.inr h.1

/-- The table in block b: its two rows kr, vr. -/
structure TX (T KT VT : TypeId) (c : Nat) (w : World) (b most : Nat) (kr vr : Value) (nk nv : Nat) (ks vs : List Value) (F : Nat → Prop) : Prop where
  box : w.heap[b]? = some (.cells #[.int .i64 (most : Int), kr, vr] T (0, 0))
  ko : w.ownsRow 0 KT 1 kr nk ks
  vo : w.ownsRow 0 VT c vr nv vs
  fb : F b
  fk : ∀ k, kr.ownBlock = some k → F k ∧ k ≠ b ∧ vr.ownBlock ≠ some k
  fv : ∀ k, vr.ownBlock = some k → F k ∧ k ≠ b
  lt : ∀ k, F k → k < w.heap.size

section
variable {T KT VT : TypeId} {c : Nat} {w w' w1 : World} {b most nk nv nk' nv' : Nat} {kr vr kr' vr' : Value} {ks vs ks' vs' : List Value} {F S : Nat → Prop}
theorem TX.keep (h : TX T KT VT c w b most kr vr nk nv ks vs F) (hk : Kept w w' S) (hs : ∀ k, F k → ¬ S k) : TX T KT VT c w' b most kr vr nk nv ks vs F :=
  ⟨(hk.block b (h.lt b h.fb) (hs b h.fb)).trans h.box, own_kept h.ko hk (fun k hb => hs k (h.fk k hb).1), own_kept h.vo hk (fun k hb => hs k (h.fv k hb).1), h.fb, h.fk, h.fv, fun k hF => Nat.lt_of_lt_of_le (h.lt k hF) hk.size⟩
theorem TX.below (h : TX T KT VT c w b most kr vr nk nv ks vs F) (hb : Below w.heap.size w w') : TX T KT VT c w' b most kr vr nk nv ks vs F := h.keep (kept_of_below hb (fun _ => False)) (fun _ _ e => e)
/-- Its row of keys is another one. -/
theorem TX.setK (h : TX T KT VT c w b most kr vr nk nv ks vs F) (ho : w1.ownsRow 0 KT 1 kr' nk' ks') (hk : Kept w w1 (fun k => kr.ownBlock = some k)) (hm : Moved w kr kr') :
    TX T KT VT c (w1.setCell ⟨b, 1, none⟩ kr') b most kr' vr nk' nv ks' vs (grownT w (w1.setCell ⟨b, 1, none⟩ kr') F) ∧ Kept w (w1.setCell ⟨b, 1, none⟩ kr') F := by
  have hbw := h.lt b h.fb
  have hbx : w1.heap[b]? = some (.cells #[.int .i64 (most : Int), kr, vr] T (0, 0)) := (hk.block b hbw (fun e => (h.fk b e).2.1 rfl)).trans h.box
  have hk2 : Kept w1 (w1.setCell ⟨b, 1, none⟩ kr') (fun k => k = b) := Kept.setCell _ _ _
  have hmb : ∀ k, kr'.ownBlock = some k → k ≠ b := fun k hk' e => by
    rcases hm k hk' with h1 | h1
    · exact (h.fk k h1).2.1 e
    · omega
  refine ⟨⟨?_, own_kept ho hk2 hmb, own_kept (own_kept h.vo hk (fun k hv he => (h.fk k he).2.2 hv)) hk2 (fun k hv => (h.fv k hv).2), Or.inl h.fb, fun k hk' => ?_, fun k hv => ⟨Or.inl (h.fv k hv).1, (h.fv k hv).2⟩, fun k hF => ?_⟩, ?_⟩
  · rw [heap_setCell_same w1 b 1 _ _ kr' hbx]; rfl
  · have hlt := (ho.lt k hk').2
    rcases hm k hk' with h1 | h1
    · exact ⟨Or.inl (h.fk k h1).1, (h.fk k h1).2⟩
    · refine ⟨Or.inr ⟨h1, by simpa using hlt⟩, by omega, fun hv => ?_⟩
      have := (h.vo.lt k hv).2
      omega
  · rcases hF with h1 | h1
    · have := h.lt k h1
      have := hk.size
      simp; omega
    · exact h1.2
  · refine Kept.trans (hk.mono (fun i _ e => (h.fk i e).1)) hk2 (fun i _ e => ?_)
    have e' : i = b := e
    rw [e']; exact h.fb
/-- Its row of values is another one. -/
theorem TX.setV (h : TX T KT VT c w b most kr vr nk nv ks vs F) (ho : w1.ownsRow 0 VT c vr' nv' vs') (hk : Kept w w1 (fun k => vr.ownBlock = some k)) (hm : Moved w vr vr') :
    TX T KT VT c (w1.setCell ⟨b, 2, none⟩ vr') b most kr vr' nk nv' ks vs' (grownT w (w1.setCell ⟨b, 2, none⟩ vr') F) ∧ Kept w (w1.setCell ⟨b, 2, none⟩ vr') F := by
  have hbw := h.lt b h.fb
  have hbx : w1.heap[b]? = some (.cells #[.int .i64 (most : Int), kr, vr] T (0, 0)) := (hk.block b hbw (fun e => (h.fv b e).2 rfl)).trans h.box
  have hk2 : Kept w1 (w1.setCell ⟨b, 2, none⟩ vr') (fun k => k = b) := Kept.setCell _ _ _
  have hmb : ∀ k, vr'.ownBlock = some k → k ≠ b := fun k hk' e => by
    rcases hm k hk' with h1 | h1
    · exact (h.fv k h1).2 e
    · omega
  refine ⟨⟨?_, own_kept (own_kept h.ko hk (fun k hv he => (h.fk k hv).2.2 he)) hk2 (fun k hv => (h.fk k hv).2.1), own_kept ho hk2 hmb, Or.inl h.fb, fun k hk' => ⟨Or.inl (h.fk k hk').1, (h.fk k hk').2.1, fun hv => ?_⟩, fun k hv => ?_, fun k hF => ?_⟩, ?_⟩
  · rw [heap_setCell_same w1 b 2 _ _ vr' hbx]; rfl
  · rcases hm k hv with h1 | h1
    · exact (h.fk k hk').2.2 h1
    · have := (h.ko.lt k hk').2
      omega
  · have hlt := (ho.lt k hv).2
    rcases hm k hv with h1 | h1
    · exact ⟨Or.inl (h.fv k h1).1, (h.fv k h1).2⟩
    · exact ⟨Or.inr ⟨h1, by simpa using hlt⟩, by omega⟩
  · rcases hF with h1 | h1
    · have := h.lt k h1
      have := hk.size
      simp; omega
    · exact h1.2
  · refine Kept.trans (hk.mono (fun i _ e => (h.fv i e).1)) hk2 (fun i _ e => ?_)
    have e' : i = b := e
    rw [e']; exact h.fb
/-- Its row of values has turned in its place. -/
theorem TX.turnV (h : TX T KT VT c w b most kr vr nk nv ks vs F) (ho : w1.ownsRow 0 VT c vr nv vs') (hk : Kept w w1 (fun k => vr.ownBlock = some k)) : TX T KT VT c w1 b most kr vr nk nv ks vs' F ∧ Kept w w1 F :=
  ⟨⟨(hk.block b (h.lt b h.fb) (fun e => (h.fv b e).2 rfl)).trans h.box, own_kept h.ko hk (fun k hv he => (h.fk k hv).2.2 he), ho, h.fb, h.fk, h.fv, fun k hF => Nat.lt_of_lt_of_le (h.lt k hF) hk.size⟩, hk.mono (fun i _ e => (h.fv i e).1)⟩
theorem TX.c0 (h : TX T KT VT c w b most kr vr nk nv ks vs F) : w.cell? ⟨b, 0, none⟩ = some (.int .i64 (most : Int)) := cell_of_row w b 0 _ _ _ h.box
theorem TX.c1 (h : TX T KT VT c w b most kr vr nk nv ks vs F) : w.cell? ⟨b, 1, none⟩ = some kr := cell_of_row w b 1 _ _ _ h.box
theorem TX.c2 (h : TX T KT VT c w b most kr vr nk nv ks vs F) : w.cell? ⟨b, 2, none⟩ = some vr := cell_of_row w b 2 _ _ _ h.box
theorem TX.f (h : TX T KT VT c w b most kr vr nk nv ks vs F) (i : Nat) : w.frozen? ⟨b, i, none⟩ = false := frozen_of_row w b i _ _ h.box
end

/-- Both its rows are others, in new memory. -/
theorem TX.setKV {T KT VT : TypeId} {c : Nat} {w w1 : World} {b most nk nv nk' nv' : Nat} {kr vr kr' vr' : Value} {ks vs ks' vs' : List Value} {F : Nat → Prop} (h : TX T KT VT c w b most kr vr nk nv ks vs F) (hb : Below w.heap.size w w1) (hok : w1.ownsRow 0 KT 1 kr' nk' ks') (hov : w1.ownsRow 0 VT c vr' nv' vs')
    (hk : ∀ k, kr'.ownBlock = some k → w.heap.size ≤ k) (hv : ∀ k, vr'.ownBlock = some k → w.heap.size ≤ k) (hne : ∀ k, kr'.ownBlock = some k → vr'.ownBlock ≠ some k) :
    TX T KT VT c ((w1.setCell ⟨b, 1, none⟩ kr').setCell ⟨b, 2, none⟩ vr') b most kr' vr' nk' nv' ks' vs' (grownT w ((w1.setCell ⟨b, 1, none⟩ kr').setCell ⟨b, 2, none⟩ vr') F) ∧ Kept w ((w1.setCell ⟨b, 1, none⟩ kr').setCell ⟨b, 2, none⟩ vr') F := by
  have hbw := h.lt b h.fb
  have hbx : w1.heap[b]? = some (.cells #[.int .i64 (most : Int), kr, vr] T (0, 0)) := (hb.block b hbw).trans h.box
  have hx2 := heap_setCell_same w1 b 1 _ _ kr' hbx
  have hx3 := heap_setCell_same (w1.setCell ⟨b, 1, none⟩ kr') b 2 _ _ vr' hx2
  have hk2 : Kept w1 ((w1.setCell ⟨b, 1, none⟩ kr').setCell ⟨b, 2, none⟩ vr') (fun k => k = b) := (Kept.setCell w1 ⟨b, 1, none⟩ kr').trans (Kept.setCell _ ⟨b, 2, none⟩ vr') (fun _ _ e => e)
  refine ⟨⟨?_, own_kept hok hk2 (fun k e e' => by have := hk k e; have e2 : k = b := e'; omega), own_kept hov hk2 (fun k e e' => by have := hv k e; have e2 : k = b := e'; omega), Or.inl h.fb, fun k e => ⟨Or.inr ⟨hk k e, by have := (hok.lt k e).2; simpa using this⟩, by have := hk k e; omega, hne k e⟩, fun k e => ⟨Or.inr ⟨hv k e, by have := (hov.lt k e).2; simpa using this⟩, by have := hv k e; omega⟩, fun k hF => ?_⟩, ?_⟩
  · rw [hx3]; rfl
  · rcases hF with h1 | h1
    · have := h.lt k h1
      have := hb.size
      simp; omega
    · exact h1.2
  · refine Kept.trans (kept_of_below hb F) hk2 (fun i _ e => ?_)
    have e' : i = b := e
    rw [e']; exact h.fb

/-- A part of a row that is its owner's. -/
theorem Sr.part {w : World} {T : TypeId} {c g n cap base : Nat} {xs : List Value} (h : w.ownsRow base T c (.slice (some ⟨g, 0, none⟩) n cap) n xs) (h1 : ∀ u ∈ xs, u.oneCell' = true) (lo m k o : Nat) (ho : o = lo * c ∨ m = 0) (hm : lo + m ≤ n) : Sr w (.slice (some ⟨g, o, none⟩) m k) c m ((xs.drop (lo * c)).take (m * c)) := by
  obtain ⟨hl, ⟨h0, _⟩ | ⟨g', cap', cur, hv, _, hg, hn, hcm, hs, ht⟩⟩ := h
  · cases h0
  cases hv
  have hmc : lo * c + m * c ≤ n * c := by rw [← Nat.add_mul]; exact Nat.mul_le_mul_right _ hm
  refine ⟨by rw [List.length_take, List.length_drop]; omega, Or.inr ⟨_, _, rfl, fun j u hj => ?_⟩, fun u hu => h1 u (List.mem_of_mem_drop (List.mem_of_mem_take hu))⟩
  rw [List.getElem?_take] at hj
  split at hj
  · next hlt =>
    rcases ho with rfl | rfl
    · rw [Addr.add_at, cell_of_row w g _ _ _ _ hg]
      rw [List.getElem?_drop, ← ht, List.getElem?_take] at hj
      split at hj
      · simpa using hj
      · cases hj
    · simp at hlt
  · cases hj
theorem own_empty {w : World} {T : TypeId} {c base g : Nat} (hg : w.heap[g]? = some (.cells #[] T (0, 0))) (hb : base ≤ g) : w.ownsRow base T c (.slice (some ⟨g, 0, none⟩) 0 0) 0 [] :=
  ⟨by simp, Or.inr ⟨g, 0, #[], rfl, hb, hg, Nat.le_refl _, Nat.zero_le _, by simp, by simp⟩⟩
theorem own_mono {w : World} {base base' c n : Nat} {e : TypeId} {v : Value} {xs : List Value} (h : w.ownsRow base e c v n xs) (hb : base' ≤ base) : w.ownsRow base' e c v n xs := by
  refine ⟨h.1, ?_⟩
  rcases h.2 with h1 | ⟨g, cap, cur, h1, h2, h3⟩
  · exact Or.inl h1
  · exact Or.inr ⟨g, cap, cur, h1, Nat.le_trans hb h2, h3⟩
/-- One element in a block. -/
theorem Sr.one1 {w : World} {g : Nat} {T : TypeId} {cs : Array Value} {c : Nat} (hg : w.heap[g]? = some (.cells cs T (0, 0))) (hc : cs.size = c) (h1 : ∀ u ∈ cs.toList, u.oneCell' = true) : Sr w (.slice (some ⟨g, 0, none⟩) 1 1) c 1 cs.toList :=
  ⟨by simp [hc], Or.inr ⟨_, _, rfl, fun j u hj => by rw [Addr.add_at, cell_of_row w g _ _ _ _ hg]; simpa using hj⟩, h1⟩

/-- Cells of a row that is its owner's are laid over. -/
theorem own_setCells {w : World} {T : TypeId} {c g n cap o : Nat} {xs cs : List Value} (h : w.ownsRow 0 T c (.slice (some ⟨g, 0, none⟩) n cap) n xs) (ho : o + cs.length ≤ n * c) :
    (w.setCells g o cs).ownsRow 0 T c (.slice (some ⟨g, 0, none⟩) n cap) n (splice xs o cs) ∧ Kept w (w.setCells g o cs) (fun k => (Value.slice (some ⟨g, 0, none⟩) n cap).ownBlock = some k) := by
  obtain ⟨hl, ⟨h0, _⟩ | ⟨g', cap', cur, hv, _, hg, hn, hm, hs, ht⟩⟩ := h
  · cases h0
  cases hv
  have hnc : n * c ≤ cap * c := Nat.mul_le_mul_right _ hn
  obtain ⟨hb, hk⟩ := setCells_block g cs o w cur T hg (by omega)
  refine ⟨⟨by rw [length_splice _ _ _ (by omega)]; exact hl, Or.inr ⟨g, cap, _, rfl, Nat.zero_le _, hb, hn, hm, ?_, ?_⟩⟩, hk.mono (fun k _ e => by have e' : k = g := e; rw [e']; rfl)⟩
  · rw [List.size_toArray, length_splice _ _ _ (by simp; omega)]; simpa using hs
  · simp only []
    unfold splice
    rw [← ht]
    have e1 : (cur.toList.take (n * c)).take o = cur.toList.take o := by rw [List.take_take, Nat.min_eq_left (by omega)]
    have e2 : (cur.toList.take (n * c)).drop (o + cs.length) = (cur.toList.drop (o + cs.length)).take (n * c - (o + cs.length)) := by rw [List.drop_take]
    rw [e1, e2, ← List.append_assoc, List.take_append, List.take_of_length_le (by simp; omega), List.append_assoc]
    congr 2
    congr 1
    simp
    omega

/-- Entries as cells. -/
theorem flat_len {α : Type} (f : α → List Value) (c : Nat) (hf : ∀ x, (f x).length = c) (l : List α) : (l.flatMap f).length = l.length * c := by
  induction l with
  | nil => simp
  | cons a l ih => simp [hf, ih, Nat.add_mul]; omega
theorem take_flat {α : Type} (f : α → List Value) (c : Nat) (hf : ∀ x, (f x).length = c) (l : List α) : ∀ k, (l.flatMap f).take (k * c) = (l.take k).flatMap f := by
  induction l with
  | nil => simp
  | cons a l ih =>
    intro k
    cases k with
    | zero => simp
    | succ k =>
      simp only [List.flatMap_cons, List.take_succ_cons]
      rw [List.take_append, List.take_of_length_le (by rw [hf, Nat.add_mul]; omega), hf, show (k + 1) * c - c = k * c by rw [Nat.add_mul]; omega, ih]
theorem drop_flat {α : Type} (f : α → List Value) (c : Nat) (hf : ∀ x, (f x).length = c) (l : List α) : ∀ k, (l.flatMap f).drop (k * c) = (l.drop k).flatMap f := by
  induction l with
  | nil => simp
  | cons a l ih =>
    intro k
    cases k with
    | zero => simp
    | succ k =>
      simp only [List.flatMap_cons, List.drop_succ_cons]
      rw [List.drop_append, List.drop_of_length_le (by rw [hf, Nat.add_mul]; omega), hf, show (k + 1) * c - c = k * c by rw [Nat.add_mul]; omega, ih, List.nil_append]
theorem flat_at {α : Type} (f : α → List Value) (c : Nat) (hf : ∀ x, (f x).length = c) (l : List α) (k : Nat) (hk : k < l.length) (j : Nat) (hj : j < c) : (l.flatMap f)[k * c + j]? = (f l[k])[j]? := by
  have h := drop_flat f c hf l k
  have e : (l.flatMap f)[k * c + j]? = ((l.flatMap f).drop (k * c))[j]? := by rw [List.getElem?_drop]
  rw [e, h, List.drop_eq_getElem_cons hk, List.flatMap_cons, List.getElem?_append_left (by rw [hf]; exact hj)]
theorem set_flat {α : Type} (f : α → List Value) (c : Nat) (hf : ∀ x, (f x).length = c) (l : List α) (k : Nat) (hk : k < l.length) (x : α) : (l.set k x).flatMap f = splice (l.flatMap f) (k * c) (f x) := by
  rw [List.set_eq_take_append_cons_drop, if_pos hk]
  unfold splice
  rw [take_flat f c hf, hf, show k * c + c = (k + 1) * c by rw [Nat.add_mul]; omega, drop_flat f c hf, List.flatMap_append, List.flatMap_cons]

/-- The table in block b holds es. -/
structure TB {α β : Type} (lt : α → α → Bool) (kf : α → Value) (vf : β → List Value) (c : Nat) (T KT VT : TypeId) (w : World) (b most : Nat) (es : List (α × β)) (F : Nat → Prop) : Prop where
  tx : ∃ kr vr, TX T KT VT c w b most kr vr es.length es.length (es.map (fun e => kf e.1)) (es.flatMap (fun e => vf e.2)) F
  srt : Srt lt (keysE es)
  le : es.length ≤ most
  small : most ≤ 4096

section
variable {α β : Type} {lt : α → α → Bool} {kf : α → Value} {vf : β → List Value} {c : Nat} {T KT VT : TypeId} {w w' : World} {b most : Nat} {es : List (α × β)} {F S : Nat → Prop}
theorem TB.keep (h : TB lt kf vf c T KT VT w b most es F) (hk : Kept w w' S) (hs : ∀ k, F k → ¬ S k) : TB lt kf vf c T KT VT w' b most es F := by
  obtain ⟨kr, vr, hx⟩ := h.tx
  exact ⟨⟨kr, vr, hx.keep hk hs⟩, h.srt, h.le, h.small⟩
theorem TB.below (h : TB lt kf vf c T KT VT w b most es F) (hb : Below w.heap.size w w') : TB lt kf vf c T KT VT w' b most es F := h.keep (kept_of_below hb (fun _ => False)) (fun _ _ e => e)
theorem TB.lt' (h : TB lt kf vf c T KT VT w b most es F) : ∀ k, F k → k < w.heap.size := by
  obtain ⟨kr, vr, hx⟩ := h.tx
  exact hx.lt
theorem TB.fb (h : TB lt kf vf c T KT VT w b most es F) : F b := by
  obtain ⟨kr, vr, hx⟩ := h.tx
  exact hx.fb
theorem TB.one (h1 : ∀ a, (kf a).oneCell' = true) : ∀ u ∈ es.map (fun e => kf e.1), u.oneCell' = true := by
  intro u hu
  obtain ⟨e, _, rfl⟩ := List.mem_map.1 hu
  exact h1 _
theorem TB.oneV (h1 : ∀ x, ∀ u ∈ vf x, u.oneCell' = true) : ∀ u ∈ es.flatMap (fun e => vf e.2), u.oneCell' = true := by
  intro u hu
  obtain ⟨e, _, h⟩ := List.mem_flatMap.1 hu
  exact h1 _ u h
end

end Go.Proofs.Ytofpkmionbbmcaa
