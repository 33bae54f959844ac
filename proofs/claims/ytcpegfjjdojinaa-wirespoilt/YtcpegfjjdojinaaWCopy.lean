/- A message in new memory: the walk of copyOf. -/
import Derived.Test.YtcpegfjjdojinaaWStore
import Derived.Test.YtcpegfjjdojinaaWFitC
namespace Go.Proofs.Ytcpegfjjdojinaa
open Go.RowKit

theorem flat2 {α : Type} (f : α → List Value) (hf : ∀ x, (f x).length = 2) : ∀ (l : List α) (i j : Nat) (hi : i < l.length), j < 2 → (l.flatMap f)[i * 2 + j]? = (f l[i])[j]? := by
  intro l
  induction l with
  | nil => intro i j hi; simp at hi
  | cons x l ih =>
    intro i j hi hj
    rw [List.flatMap_cons]
    cases i with
    | zero =>
      rw [List.getElem?_append_left (by rw [hf]; omega)]
      simp
    | succ i =>
      rw [List.getElem?_append_right (by rw [hf]; omega), hf, show (i + 1) * 2 + j - 2 = i * 2 + j by omega]
      simpa using ih i j (by simpa using hi) hj
theorem length_flat2 {α : Type} (f : α → List Value) (hf : ∀ x, (f x).length = 2) (l : List α) : (l.flatMap f).length = l.length * 2 := by
  induction l with
  | nil => rfl
  | cons x l ih => rw [List.flatMap_cons, List.length_append, hf, ih, List.length_cons]; omega

def idCells (x : Int × Nat) : List Value := [.int .i64 x.1, .int .u64 (x.2 : Int)]
theorem idCells_one (xs : List (Int × Nat)) : ∀ u ∈ xs.flatMap idCells, u.oneCell' = true := by
  intro u hu
  obtain ⟨x, _, hx⟩ := List.mem_flatMap.1 hu
  simp [idCells] at hx
  rcases hx with rfl | rfl <;> rfl

theorem Try.infoID : (Try.prog.info? 24).map (fun i => (i.zero, i.size, i.bytes)) = some (some (.agg #[.int .i64 0, .int .u64 0]), 2, 16) := by kernel_rfl
theorem Try.infoU64 : (Try.prog.info? 22).map (fun i => (i.zero, i.size, i.bytes)) = some (some (.int .u64 0), 1, 8) := by kernel_rfl

/-- A slice's block lies from g on. -/
def High (ao : Option Addr) (g : Nat) : Prop := ∀ blk off, ao = some ⟨blk, off, none⟩ → g ≤ blk
theorem IDs.high {w w' : World} {ao : Option Addr} {xs : List (Int × Nat)} {g : Nat} (h : IDs w ao xs) (hh : High ao g) (hs : w.heap.size ≤ w'.heap.size) (hk : ∀ k, g ≤ k → k < w.heap.size → w'.heap[k]? = w.heap[k]?) : IDs w' ao xs := by
  intro hne
  obtain ⟨blk, off, e, hlt, hat⟩ := h hne
  have hb := hk blk (hh blk off e) hlt
  exact ⟨blk, off, e, Nat.lt_of_lt_of_le hlt hs, fun i hi => ⟨(World.cell?_of_block (a := ⟨blk, off + i * 2, none⟩) hb).trans (hat i hi).1, (World.cell?_of_block (a := ⟨blk, off + i * 2 + 1, none⟩) hb).trans (hat i hi).2⟩⟩
theorem Us.high {w w' : World} {ao : Option Addr} {xs : List Nat} {g : Nat} (h : Us w ao xs) (hh : High ao g) (hs : w.heap.size ≤ w'.heap.size) (hk : ∀ k, g ≤ k → k < w.heap.size → w'.heap[k]? = w.heap[k]?) : Us w' ao xs := by
  intro hne
  obtain ⟨blk, off, e, hlt, hat⟩ := h hne
  have hb := hk blk (hh blk off e) hlt
  exact ⟨blk, off, e, Nat.lt_of_lt_of_le hlt hs, fun i hi => (World.cell?_of_block (a := ⟨blk, off + i, none⟩) hb).trans (hat i hi)⟩

/-- A row of IDs that is its owner's is a slice of IDs. -/
theorem IDs.ofOwns {w : World} {base : Nat} {t : TypeId} {v : Value} {xs : List (Int × Nat)} (h : w.ownsRow base t 2 v xs.length (xs.flatMap idCells)) : ∃ ao cap, v = .slice ao xs.length cap ∧ IDs w ao xs ∧ (ao = none → cap = 0) ∧ High ao base := by
  obtain ⟨_, ⟨rfl, h0⟩ | ⟨g, cap, cur, rfl, hb, hg, hn, hm, hs, ht⟩⟩ := h
  · have : xs = [] := List.eq_nil_of_length_eq_zero h0
    subst this
    exact ⟨none, 0, rfl, fun h => absurd rfl h, fun _ => rfl, fun _ _ e => by cases e⟩
  · have hc : ∀ i j, i < xs.length → j < 2 → ∀ (hi : i < xs.length), w.cell? ⟨g, 0 + i * 2 + j, none⟩ = (idCells xs[i])[j]? := by
      intro i j hi hj hi'
      rw [cell_of_row w g _ _ _ _ hg, ← flat2 idCells (fun _ => rfl) xs i j hi hj, ← ht, List.getElem?_take, if_pos (by omega), Nat.zero_add]
      simp
    refine ⟨_, cap, rfl, fun _ => ⟨g, 0, rfl, (Array.getElem?_eq_some_iff.1 hg).1, fun i hi => ⟨?_, ?_⟩⟩, (fun h => by cases h), fun _ _ e => by cases e; exact hb⟩
    · have := hc i 0 hi (by omega) hi
      simpa [idCells] using this
    · have := hc i 1 hi (by omega) hi
      simpa [idCells] using this
theorem Us.ofOwns {w : World} {base : Nat} {t : TypeId} {v : Value} {xs : List Nat} (h : w.ownsRow base t 1 v xs.length (xs.map fun (n : Nat) => Value.int .u64 (n : Int))) : ∃ ao cap, v = .slice ao xs.length cap ∧ Us w ao xs ∧ (ao = none → cap = 0) ∧ High ao base := by
  obtain ⟨_, ⟨rfl, h0⟩ | ⟨g, cap, cur, rfl, hb, hg, hn, hm, hs, ht⟩⟩ := h
  · have : xs = [] := List.eq_nil_of_length_eq_zero h0
    subst this
    exact ⟨none, 0, rfl, fun h => absurd rfl h, fun _ => rfl, fun _ _ e => by cases e⟩
  · refine ⟨_, cap, rfl, fun _ => ⟨g, 0, rfl, (Array.getElem?_eq_some_iff.1 hg).1, fun i hi => ?_⟩, (fun h => by cases h), fun _ _ e => by cases e; exact hb⟩
    have h2 : (cur.toList.take (xs.length * 1))[i]? = some (.int .u64 (xs[i] : Int)) := by rw [ht, List.getElem?_map, List.getElem?_eq_getElem hi]; rfl
    rw [cell_of_row w g _ _ _ _ hg, Nat.zero_add]
    rw [List.getElem?_take, if_pos (by omega)] at h2
    simpa using h2

theorem own_empty {w : World} {g : Nat} {t : TypeId} (hg : w.heap[g]? = some (.cells #[] t (0, 0))) (size : Nat) : w.ownsRow g t size (.slice (some ⟨g, 0, none⟩) 0 0) 0 [] :=
  ⟨by simp, Or.inr ⟨g, 0, #[], rfl, Nat.le_refl _, hg, Nat.le_refl _, Nat.zero_le _, by simp, by simp⟩⟩

set_option maxRecDepth 20000 in
theorem append_ids {w : World} {ops : Array Oper} {rest : List Oper} {o : Oper} {a : Act} {Q : Exit → Act → World → Prop} (hgd : o.guard = none) (s x : Operand)
    (ho : o.op = .call { callee := .builtin .append, args := #[s, x], argTypes := #[25, 25] })
    (g : Nat) (hs : a.eval s = .slice (some ⟨g, 0, none⟩) 0 0) (hg : w.heap[g]? = some (.cells #[] 24 (0, 0)))
    (ao : Option Addr) (cap : Nat) (xs : List (Int × Nat)) (hx : a.eval x = .slice ao xs.length cap) (h0 : ao = none → cap = 0) (hi : IDs w ao xs) (hl : xs.length ≤ 8796093022208)
    (h : ∀ ao' cap' w', IDs w' ao' xs → (ao' = none → cap' = 0) → High ao' g → Below g w w' → wpList Try.prog ops Q rest (a.put o.dst (.slice ao' xs.length cap')) w') : wpList Try.prog ops Q (o :: rest) a w := by
  obtain ⟨i, hi1, hz0, hz1, hz2⟩ := info_parts Try.infoID
  have hglt : g < w.heap.size := (Array.getElem?_eq_some_iff.1 hg).1
  cases ao with
  | none =>
    have hxs : xs = [] := by
      by_cases hne : xs = []
      · exact hne
      · obtain ⟨_, _, e, _⟩ := hi hne; cases e
    subst hxs
    have hc := h0 rfl
    subst hc
    exact wpList_append_own_none hgd s x 25 ho g 24 i 2 Try.underlying25 hi1 _ 0 [] hs (own_empty hg 2) hx (h (some ⟨g, 0, none⟩) 0 w (fun h => absurd rfl h) (fun e => by cases e) (fun _ _ e => by cases e; exact Nat.le_refl _) (Below.refl _ _))
  | some ad =>
    refine wpList_append_own_at w hgd s x 25 ho g 24 i _ 2 16 Try.underlying25 hi1 hz0 hz1 hz2 rfl (by omega) _ 0 [] hs (own_empty hg 2) ad xs.length cap (xs.flatMap idCells) hx (length_flat2 idCells (fun _ => rfl) xs) ?_ (idCells_one xs) (by simp only [maxLen]; omega) (by omega) (by omega) ?_
    · intro j u hj
      have hne : xs ≠ [] := by intro e; subst e; simp at hj
      obtain ⟨blk, off, e, hlt, hat⟩ := hi hne
      cases e
      have hjl : j < xs.length * 2 := by rw [← length_flat2 idCells (fun _ => rfl) xs]; exact (List.getElem?_eq_some_iff.1 hj).1
      have hq : j / 2 < xs.length := by omega
      rw [Addr.add_at]
      have hdm : j = j / 2 * 2 + j % 2 := by omega
      have hm2 : j % 2 < 2 := Nat.mod_lt _ (by omega)
      rw [hdm, flat2 idCells (fun _ => rfl) xs (j / 2) (j % 2) hq hm2] at hj
      obtain ⟨h1, h2⟩ := hat (j / 2) hq
      rcases Nat.mod_two_eq_zero_or_one j with e | e
      · rw [e] at hj
        simp [idCells] at hj
        rw [show off + j = off + j / 2 * 2 by omega, h1, ← hj]
      · rw [e] at hj
        simp [idCells] at hj
        rw [show off + j = off + j / 2 * 2 + 1 by omega, h2, ← hj]
    · intro v' w' hown hgrow _ _
      rw [List.nil_append, Nat.zero_add] at hown
      obtain ⟨ao', cap', rfl, hids, hc0, hhi⟩ := IDs.ofOwns hown
      exact h ao' cap' w' hids hc0 hhi ((Kept.grown hgrow).below (by omega) (fun k hk e => by simp [Value.ownBlock] at e; omega))

set_option maxRecDepth 20000 in
theorem append_us {w : World} {ops : Array Oper} {rest : List Oper} {o : Oper} {a : Act} {Q : Exit → Act → World → Prop} (hgd : o.guard = none) (s x : Operand)
    (ho : o.op = .call { callee := .builtin .append, args := #[s, x], argTypes := #[26, 26] })
    (g : Nat) (hs : a.eval s = .slice (some ⟨g, 0, none⟩) 0 0) (hg : w.heap[g]? = some (.cells #[] 22 (0, 0)))
    (ao : Option Addr) (cap : Nat) (xs : List Nat) (hx : a.eval x = .slice ao xs.length cap) (h0 : ao = none → cap = 0) (hi : Us w ao xs) (hl : xs.length ≤ 17592186044416)
    (h : ∀ ao' cap' w', Us w' ao' xs → (ao' = none → cap' = 0) → High ao' g → Below g w w' → wpList Try.prog ops Q rest (a.put o.dst (.slice ao' xs.length cap')) w') : wpList Try.prog ops Q (o :: rest) a w := by
  obtain ⟨i, hi1, hz0, hz1, hz2⟩ := info_parts Try.infoU64
  have hglt : g < w.heap.size := (Array.getElem?_eq_some_iff.1 hg).1
  cases ao with
  | none =>
    have hxs : xs = [] := by
      by_cases hne : xs = []
      · exact hne
      · obtain ⟨_, _, e, _⟩ := hi hne; cases e
    subst hxs
    have hc := h0 rfl
    subst hc
    exact wpList_append_own_none hgd s x 26 ho g 22 i 1 Try.underlying26 hi1 _ 0 [] hs (own_empty hg 1) hx (h (some ⟨g, 0, none⟩) 0 w (fun h => absurd rfl h) (fun e => by cases e) (fun _ _ e => by cases e; exact Nat.le_refl _) (Below.refl _ _))
  | some ad =>
    refine wpList_append_own_at w hgd s x 26 ho g 22 i _ 1 8 Try.underlying26 hi1 hz0 hz1 hz2 rfl (by omega) _ 0 [] hs (own_empty hg 1) ad xs.length cap (xs.map fun (n : Nat) => Value.int .u64 (n : Int)) hx (by simp) ?_ (by intro u hu; obtain ⟨n, _, rfl⟩ := List.mem_map.1 hu; rfl) (by simp only [maxLen]; omega) (by omega) (by omega) ?_
    · intro j u hj
      have hne : xs ≠ [] := by intro e; subst e; simp at hj
      obtain ⟨blk, off, e, hlt, hat⟩ := hi hne
      cases e
      have hjl : j < xs.length := by have := (List.getElem?_eq_some_iff.1 hj).1; simpa using this
      rw [Addr.add_at, hat j hjl]
      rw [List.getElem?_map, List.getElem?_eq_getElem hjl] at hj
      simpa using hj
    · intro v' w' hown hgrow _ _
      rw [List.nil_append, Nat.zero_add] at hown
      obtain ⟨ao', cap', rfl, hids, hc0, hhi⟩ := Us.ofOwns hown
      exact h ao' cap' w' hids hc0 hhi ((Kept.grown hgrow).below (by omega) (fun k hk e => by simp [Value.ownBlock] at e; omega))

/-- The cells of a message that is all zero. -/
@[reducible] def zeroCells : Array Value := #[.int .i64 0, .int .i64 0, .int .i64 0, .int .u64 0, .int .u64 0, .int .i64 0, .int .i64 0, .int .i64 0, .int .i64 0, .int .u64 0, .slice none 0 0, .int .u64 0, .int .i64 0, .int .u64 0, .int .i64 0, .int .u64 0, .int .i64 0, .int .u64 0, .slice none 0 0]
theorem alloc3_new (w : World) (a b c : Obj) : (((w.alloc a).alloc b).alloc c).heap[w.heap.size + 1 + 1]? = some c := by
  have e : ((w.alloc a).alloc b).heap.size = w.heap.size + 1 + 1 := by simp
  rw [← e]
  exact heap_alloc_new _ _
theorem alloc3_mid (w : World) (a b c : Obj) : (((w.alloc a).alloc b).alloc c).heap[w.heap.size + 1]? = some b := by
  rw [Below.heap_alloc _ _ _ (by simp)]
  have e : (w.alloc a).heap.size = w.heap.size + 1 := by simp
  rw [← e]
  exact heap_alloc_new _ _
theorem below3 (w : World) (a b c : Obj) : Below w.heap.size w (((w.alloc a).alloc b).alloc c) :=
  ((((Below.refl _ _).alloc (Nat.le_refl _) _).alloc (by simp) _).alloc (by simp; omega) _)
theorem set_alloc_new (w : World) (q : Addr) (u : Value) (o : Obj) : ((w.setCell q u).alloc o).heap[w.heap.size]? = some o := by
  have e : (w.setCell q u).heap.size = w.heap.size := by simp
  rw [← e]
  exact heap_alloc_new _ _

/-- One of its lists is another slice. -/
theorem MAt.setRefs {w : World} {b : Nat} {m : Msg} {ro lo : Option Addr} {rc lc : Nat} (h : MAt w b m ro lo rc lc) (ro' : Option Addr) (rc' : Nat) : MAt (w.setCell ⟨b, 10, none⟩ (.slice ro' m.refs.length rc')) b m ro' lo rc' lc := by
  refine ⟨by simpa using h.lt, fun j v hv => ?_, fun j hj => ?_⟩
  · by_cases h10 : j = 10
    · subst h10
      simp at hv
      rw [Nat.zero_add, ← hv]
      exact World.cell?_setCell_same _ _ _ (h.cells 10 _ rfl)
    · rw [World.cell?_setCell_other _ _ _ _ (by intro e; exact h10 (by have := congrArg Addr.off e; simpa using this.symm))]
      refine h.rng j v ?_
      rw [← hv]
      match j, h10 with
      | 0, _ | 1, _ | 2, _ | 3, _ | 4, _ | 5, _ | 6, _ | 7, _ | 8, _ | 9, _ => rfl
      | 10, h => exact absurd rfl h
      | (k + 11), _ => rfl
  · rw [World.frozen?_setCell]
    have hth := h.th j hj
    refine ⟨?_, hth.2⟩
    by_cases h10 : j = 10
    · subst h10
      rw [Nat.zero_add, World.cell?_setCell_same _ _ _ (h.cells 10 _ rfl)]; rfl
    · rw [World.cell?_setCell_other _ _ _ _ (by intro e; exact h10 (by have := congrArg Addr.off e; simpa using this.symm))]; exact hth.1
theorem MAt.setList {w : World} {b : Nat} {m : Msg} {ro lo : Option Addr} {rc lc : Nat} (h : MAt w b m ro lo rc lc) (lo' : Option Addr) (lc' : Nat) : MAt (w.setCell ⟨b, 18, none⟩ (.slice lo' m.list.length lc')) b m ro lo' rc lc' := by
  refine ⟨by simpa using h.lt, fun j v hv => ?_, fun j hj => ?_⟩
  · by_cases h10 : j = 18
    · subst h10
      simp at hv
      rw [Nat.zero_add, ← hv]
      exact World.cell?_setCell_same _ _ _ (h.cells 18 _ rfl)
    · rw [World.cell?_setCell_other _ _ _ _ (by intro e; exact h10 (by have := congrArg Addr.off e; simpa using this.symm))]
      refine h.rng j v ?_
      rw [← hv]
      match j, h10 with
      | 0, _ | 1, _ | 2, _ | 3, _ | 4, _ | 5, _ | 6, _ | 7, _ | 8, _ | 9, _ => rfl
      | 10, _ | 11, _ | 12, _ | 13, _ | 14, _ | 15, _ | 16, _ | 17, _ => rfl
      | 18, h => exact absurd rfl h
      | (k + 19), _ => rfl
  · rw [World.frozen?_setCell]
    have hth := h.th j hj
    refine ⟨?_, hth.2⟩
    by_cases h10 : j = 18
    · subst h10
      rw [Nat.zero_add, World.cell?_setCell_same _ _ _ (h.cells 18 _ rfl)]; rfl
    · rw [World.cell?_setCell_other _ _ _ _ (by intro e; exact h10 (by have := congrArg Addr.off e; simpa using this.symm))]; exact hth.1

end Go.Proofs.Ytcpegfjjdojinaa
