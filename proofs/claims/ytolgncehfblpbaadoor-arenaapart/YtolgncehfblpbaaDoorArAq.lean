/- ArenaApart: what is kept, reckoned and in memory. -/
import Derived.Test.YtolgncehfblpbaaDoorArAl
namespace Go.Proofs.YtolgncehfblpbaaDoor
open Go.RowKit

/-- What is told of the owners of cells: the pairs are the places that are taken, and how much was asked for. -/
structure AB (N : Nat) (bs : List Bk) (ow : List Nat) (ps : List (Nat × Nat)) : Prop where
  len : ow.length = 16 * N
  nd : (ps.map Prod.fst).Nodup
  big : ∀ p ∈ ps, 1 ≤ p.2 ∧ p.2 ≤ atB bs (p.1 : Int)
  cov : ∀ j (hj : j < ow.length), ow[j] ≠ 0 → ∃ p ∈ ps, p.1 ≤ j ∧ j < p.1 + p.2
theorem AB.new (N : Nat) : AB N (List.replicate N bk0) (List.replicate (16 * N) 0) [] :=
  ⟨by simp, by simp, by simp, fun j hj h => by simp at h⟩
/-- The cells of a place that was had are nobody's. -/
theorem AB.none {N : Nat} {bs bs' : List Bk} {ow : List Nat} {ps : List (Nat × Nat)} {c k : Nat} (h : AB N bs ow ps) (hg : Got bs bs' c k) (j : Nat) (hj : j < ow.length) (h1 : c ≤ j) (h2 : j < c + k) : ow[j] = 0 := by
  apply Decidable.byContradiction
  intro hne
  obtain ⟨p, hp, h3, h4⟩ := h.cov j hj hne
  obtain ⟨h5, h6⟩ := h.big p hp
  have := hg.far p.1 (by omega)
  omega
theorem AB.more {N : Nat} {bs bs' : List Bk} {ow ow' : List Nat} {ps : List (Nat × Nat)} {c k n : Nat} (h : AB N bs ow ps) (hg : Got bs bs' c k) (h1 : 1 ≤ n) (h2 : n ≤ k) (hl : ow'.length = ow.length) (hw : ∀ j, ¬ (c ≤ j ∧ j < c + n) → ow'[j]? = ow[j]?) : AB N bs' ow' (ps ++ [(c, n)]) := by
  refine ⟨by rw [hl, h.len], ?_, fun p hp => ?_, fun j hj hne => ?_⟩
  · rw [List.map_append, List.nodup_append]
    refine ⟨h.nd, by simp, fun a ha b hb => ?_⟩
    simp only [List.map_cons, List.map_nil, List.mem_singleton] at hb
    subst hb
    obtain ⟨p, hp, rfl⟩ := List.mem_map.1 ha
    intro e
    have h3 := h.big p hp
    rw [e, hg.was] at h3
    omega
  · rw [List.mem_append, List.mem_singleton] at hp
    rcases hp with hp | rfl
    · have h3 := h.big p hp
      have hne : p.1 ≠ c := fun e => by rw [e, hg.was] at h3; omega
      rw [hg.els _ hne]
      exact h3
    · rw [hg.is]
      exact ⟨h1, h2⟩
  · by_cases hin : c ≤ j ∧ j < c + n
    · exact ⟨(c, n), by simp, hin.1, hin.2⟩
    · have h3 := hw j hin
      have hj' : j < ow.length := by omega
      rw [List.getElem?_eq_getElem hj, List.getElem?_eq_getElem hj'] at h3
      obtain ⟨p, hp, h4⟩ := h.cov j hj' (by intro e; exact hne (by rw [Option.some.inj h3]; exact e))
      exact ⟨p, List.mem_append_left _ hp, h4⟩
theorem mem_drop1 {α : Type} {l : List α} {k : Nat} (hk : k < l.length) {p : α} (h : p ∈ l) (hne : p ≠ l[k]) : p ∈ l.take k ++ l.drop (k + 1) := by
  have e : l = l.take k ++ l[k] :: l.drop (k + 1) := by
    rw [← List.drop_eq_getElem_cons hk, List.take_append_drop]
  rw [e] at h
  rw [List.mem_append, List.mem_cons] at h
  rw [List.mem_append]
  rcases h with h | h | h
  · exact Or.inl h
  · exact absurd h hne
  · exact Or.inr h
theorem AB.less {N : Nat} {bs : List Bk} {ow ow' : List Nat} {ps : List (Nat × Nat)} {k : Nat} (h : AB N bs ow ps) (hO : AO bs) (hk : k < ps.length) (hl : ow'.length = ow.length)
    (hz : ∀ j (hj : j < ow'.length), ps[k].1 ≤ j → j < ps[k].1 + ps[k].2 → ow'[j] = 0) (hw : ∀ j, ¬ (ps[k].1 ≤ j ∧ j < ps[k].1 + ps[k].2) → ow'[j]? = ow[j]?) : AB N (freeL bs (ps[k].1 : Int)) ow' (ps.take k ++ ps.drop (k + 1)) := by
  have hb := h.big _ (List.getElem_mem hk)
  obtain ⟨_, _, h3⟩ := free_spec (c := ps[k].1) hO (by omega)
  have hmap : (ps.take k ++ ps.drop (k + 1)).map Prod.fst = (ps.map Prod.fst).take k ++ (ps.map Prod.fst).drop (k + 1) := by
    rw [List.map_append, List.map_take, List.map_drop]
  refine ⟨by rw [hl, h.len], ?_, fun p hp => ?_, fun j hj hne => ?_⟩
  · rw [hmap]
    exact nodup_less h.nd k
  · have hp1 : p.1 ∈ (ps.map Prod.fst).take k ++ (ps.map Prod.fst).drop (k + 1) := by
      rw [← hmap]
      exact List.mem_map_of_mem hp
    rw [mem_less h.nd k (by simpa using hk)] at hp1
    rw [h3 p.1 (by simpa using hp1.2)]
    refine h.big p ?_
    rw [List.mem_append] at hp
    rcases hp with hp | hp
    · exact List.mem_of_mem_take hp
    · exact List.mem_of_mem_drop hp
  · have hin : ¬ (ps[k].1 ≤ j ∧ j < ps[k].1 + ps[k].2) := fun e => hne (hz j hj e.1 e.2)
    have h4 := hw j hin
    have hj' : j < ow.length := by omega
    rw [List.getElem?_eq_getElem hj, List.getElem?_eq_getElem hj'] at h4
    obtain ⟨p, hp, h5⟩ := h.cov j hj' (by intro e; exact hne (by rw [Option.some.inj h4]; exact e))
    exact ⟨p, mem_drop1 hk hp (fun e => hin (by rw [e] at h5; exact h5)), h5⟩

/-- The same in memory: the arena at g, the owners at o, two rows behind them. -/
structure AM (w wr : World) (g N : Nat) (bs : List Bk) (o : Nat) (ow : List Nat) (va vf : Value) (la lf : List Nat) : Prop where
  s : AS w wr g N bs
  go : g < o
  row : Row wr o 3 (ow.map iV)
  oa : Ow wr (o + 1) va la
  of : Ow wr (o + 1) vf lf
  sep : ∀ k, va.ownBlock = some k → vf.ownBlock ≠ some k
section
variable {w wr w' : World} {g N : Nat} {bs bs' : List Bk} {o : Nat} {ow : List Nat} {va vf va' vf' : Value} {la lf la' lf' : List Nat}
theorem AM.arena (h : AM w wr g N bs o ow va vf la lf) (hs : AS w w' g N bs') (hk : Kept wr w' (fun k => k = g)) : AM w w' g N bs' o ow va vf la lf :=
  ⟨hs, h.go, h.row.kept hk (by have := h.go; show ¬ (o = g); omega), h.oa.kept hk (fun j hj => by have := (h.oa.ge j hj).1; have := h.go; show ¬ (j = g); omega), h.of.kept hk (fun j hj => by have := (h.of.ge j hj).1; have := h.go; show ¬ (j = g); omega), h.sep⟩
theorem AM.read (h : AM w wr g N bs o ow va vf la lf) (hb : Below wr.heap.size wr w') : AM w w' g N bs o ow va vf la lf :=
  ⟨h.s.read hb, h.go, h.row.below hb, h.oa.below hb, h.of.below hb, h.sep⟩
theorem AM.cell (h : AM w wr g N bs o ow va vf la lf) (j : Nat) (hj : j < ow.length) : wr.cell? ⟨o, j, none⟩ = some (.int .i64 (ow[j] : Int)) ∧ wr.frozen? ⟨o, j, none⟩ = false := by
  refine ⟨?_, h.row.frozen j⟩
  rw [h.row.cell j (by simpa using hj), List.getElem_map]
  rfl
theorem AM.set (h : AM w wr g N bs o ow va vf la lf) (j x : Nat) : AM w (wr.setCell ⟨o, j, none⟩ (.int .i64 (x : Int))) g N bs o (ow.set j x) va vf la lf := by
  have hk := Kept.setCell wr ⟨o, j, none⟩ (.int .i64 (x : Int))
  have hgo := h.go
  refine ⟨h.s.keep hk (fun k hk e => by have e' : k = o := e; omega), h.go, ?_, h.oa.kept hk (fun k hk => by have := (h.oa.ge k hk).1; show ¬ (k = o); omega), h.of.kept hk (fun k hk => by have := (h.of.ge k hk).1; show ¬ (k = o); omega), h.sep⟩
  have := h.row.set j (.int .i64 (x : Int))
  rw [List.map_set]
  exact this
theorem AM.pushA (h : AM w wr g N bs o ow va vf la lf) (ho : Ow w' (o + 1) va' la') (hk : Kept wr w' (fun k => va.ownBlock = some k)) (hm : Moved wr va va') : AM w w' g N bs o ow va' vf la' lf := by
  have hgo := h.go
  refine ⟨h.s.keep hk (fun k hk e => by have := (h.oa.ge k e).1; omega), h.go, h.row.kept hk (fun e => by have := (h.oa.ge o e).1; omega), ho, h.of.kept hk (fun k hk e => h.sep k e hk), fun k hk e => ?_⟩
  rcases hm k hk with h1 | h1
  · exact h.sep k h1 e
  · have := (h.of.ge k e).2
    omega
theorem AM.pushF (h : AM w wr g N bs o ow va vf la lf) (ho : Ow w' (o + 1) vf' lf') (hk : Kept wr w' (fun k => vf.ownBlock = some k)) (hm : Moved wr vf vf') : AM w w' g N bs o ow va vf' la lf' := by
  have hgo := h.go
  refine ⟨h.s.keep hk (fun k hk e => by have := (h.of.ge k e).1; omega), h.go, h.row.kept hk (fun e => by have := (h.of.ge o e).1; omega), h.oa.kept hk (fun k hk e => h.sep k hk e), ho, fun k hk e => ?_⟩
  rcases hm k e with h1 | h1
  · exact h.sep k hk h1
  · have := (h.oa.ge k hk).2
    omega
/-- A row that is new takes the place of the first, of the second. -/
theorem AM.newA (h : AM w wr g N bs o ow va vf la lf) (hb : Below wr.heap.size wr w') (ho : Ow w' wr.heap.size va' la') : AM w w' g N bs o ow va' vf la' lf := by
  have h2 := h.read hb
  have hlt := h.row.lt
  refine ⟨h2.s, h2.go, h2.row, own_mono' ho (by omega), h2.of, fun k hk e => ?_⟩
  have := (ho.ge k hk).1
  have := (h.of.ge k e).2
  omega
theorem AM.newF (h : AM w wr g N bs o ow va vf la lf) (hb : Below wr.heap.size wr w') (ho : Ow w' wr.heap.size vf' lf') : AM w w' g N bs o ow va vf' la lf' := by
  have h2 := h.read hb
  have hlt := h.row.lt
  refine ⟨h2.s, h2.go, h2.row, h2.oa, own_mono' ho (by omega), fun k hk e => ?_⟩
  have := (ho.ge k e).1
  have := (h.oa.ge k hk).2
  omega
end

end Go.Proofs.YtolgncehfblpbaaDoor
