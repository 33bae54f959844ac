/- append of datagrams, none of them included. -/
import Derived.Test.YtibgpbflchfbnaaNtJ
namespace Go.Proofs.Ytibgpbflchfbnaa
open Go.RowKit

/-- A slice whose cells, three for each element, are xs. -/
structure Row3 (w : World) (v : Value) (n : Nat) (xs : List Value) : Prop where
  len : xs.length = n * 3
  val : ∃ ad c, v = .slice (some ad) n c ∧ ∀ j u, xs[j]? = some u → w.cell? (ad.add j) = some u
  one : ∀ u ∈ xs, u.oneCell' = true

theorem Row3.below {w w' : World} {v : Value} {n : Nat} {xs : List Value} (h : Row3 w v n xs) (hb : Below w.heap.size w w') : Row3 w' v n xs := by
  obtain ⟨ad, c, hv, hc⟩ := h.val
  exact ⟨h.len, ⟨ad, c, hv, fun j u hu => by
    have h1 := hc j u hu
    have h2 : (ad.add j).block < w.heap.size := World.block_lt_of_cell? w _ h1
    exact (hb.cell (p := ad.add j) h2).trans h1⟩, h.one⟩

/-- append onto a row that is its owner's, at a step of a region that draws. -/
theorem step_append_row {w : World} {ops : Array Oper} {o : Oper} {a : Act} {K : Act → World → Prop} {Q : Exit → Act → World → Prop} {E : Prop} (hgd : o.guard = none) (s x : Operand)
    (ho : o.op = .call { callee := .builtin .append, args := #[s, x], argTypes := #[34, 34] })
    (base : Nat) (v : Value) (n : Nat) (xs : List Value) (hs : a.eval s = v) (hown : w.ownsRow base 30 3 v n xs)
    (u : Value) (m : Nat) (news : List Value) (hx : a.eval x = u) (hr : Row3 w u m news) (h63 : n + m ≤ 1000000000) (hbase : base ≤ w.heap.size)
    (h : ∀ v' w', w'.ownsRow base 30 3 v' (n + m) (xs ++ news) → Kept w w' (fun k => v.ownBlock = some k) → Moved w v v' → K (a.put o.dst v') w') :
    if Region.wanted o (yielded ops a.tmps) = true then Oper.wp Try.prog o a w K Q else E := by
  obtain ⟨i, hi, hz0, hz1, hz2⟩ := info_parts Try.infoDg
  obtain ⟨ad, c, rfl, hc⟩ := hr.val
  have hw : Region.wanted o (yielded ops a.tmps) = true := by simp [Region.wanted, hgd]
  rw [if_pos hw]
  obtain ⟨v', w', hr', h2, h3, h4, h5⟩ := run_append_own_at (P := Try.prog) w base 34 o.type 30 i _ 3 40 Try.underlying34 hi hz0 hz1 hz2 rfl (by omega) v n xs hown ad m c news hr.len hc hr.one (by unfold maxLen; omega) (by omega) hbase
  unfold Oper.wp execOp
  simp only [ho, resolve, invoke, builtin, Sem.run_bind, Sem.run_pure, Result.andThen_ok, List.map_toArray, List.map_cons, List.map_nil, hs, hx, hr']
  refine h v' w' h2 (Kept.grown h3) (fun k hk => ?_)
  rcases h5 with h5 | h5
  · exact Or.inl (h5 ▸ hk)
  · rw [h5] at hk
    simp only [Option.some.injEq] at hk
    exact Or.inr (by omega)

/-- The same at a plain region's list. -/
theorem wpList_append_row {w : World} {ops : Array Oper} {rest : List Oper} {o : Oper} {a : Act} {Q : Exit → Act → World → Prop} (hgd : o.guard = none) (s x : Operand)
    (ho : o.op = .call { callee := .builtin .append, args := #[s, x], argTypes := #[34, 34] })
    (base : Nat) (v : Value) (n : Nat) (xs : List Value) (hs : a.eval s = v) (hown : w.ownsRow base 30 3 v n xs)
    (u : Value) (m : Nat) (news : List Value) (hx : a.eval x = u) (hr : Row3 w u m news) (h63 : n + m ≤ 1000000000) (hbase : base ≤ w.heap.size)
    (h : ∀ v' w', w'.ownsRow base 30 3 v' (n + m) (xs ++ news) → Kept w w' (fun k => v.ownBlock = some k) → Moved w v v' → wpList Try.prog ops Q rest (a.put o.dst v') w') :
    wpList Try.prog ops Q (o :: rest) a w := by
  obtain ⟨i, hi, hz0, hz1, hz2⟩ := info_parts Try.infoDg
  obtain ⟨ad, c, rfl, hc⟩ := hr.val
  refine wpList_append_own_at w hgd s x 34 ho base 30 i _ 3 40 Try.underlying34 hi hz0 hz1 hz2 rfl (by omega) v n xs hs hown ad m c news hx hr.len hc hr.one (by unfold maxLen; omega) (by omega) hbase ?_
  intro v' w' h2 h3 _ h5
  refine h v' w' h2 (Kept.grown h3) (fun k hk => ?_)
  rcases h5 with h5 | h5
  · exact Or.inl (h5 ▸ hk)
  · rw [h5] at hk
    simp only [Option.some.injEq] at hk
    exact Or.inr (by omega)

/-- A part of a row. -/
theorem DgNew.part {h g : Nat} {w : World} {v : Value} {rs : List (Dg × Value)} (q : DgNew h w v rs g) (lo n c o : Nat) (ho : o = lo * 3 ∨ n = 0) (hn : lo + n ≤ rs.length) : Row3 w (.slice (some ⟨g, o, none⟩) n c) n (((rs.drop lo).take n).flatMap dgCells) := by
  have hone : ∀ u ∈ (((rs.drop lo).take n).flatMap dgCells), u.oneCell' = true := by
    intro u hu
    obtain ⟨r, hr, hu2⟩ := List.mem_flatMap.1 hu
    obtain ⟨k, _, _, e, _⟩ := q.bs r (List.mem_of_mem_drop (List.mem_of_mem_take hr))
    simp only [dgCells, List.mem_cons, List.not_mem_nil, or_false] at hu2
    rcases hu2 with rfl | rfl | rfl
    · rfl
    · rfl
    · rw [e]; rfl
  refine ⟨by rw [length_flat3 dgCells (fun _ => rfl)]; simp; omega, ⟨_, _, rfl, fun j u hj => ?_⟩, hone⟩
  rw [← take_flat3 dgCells (fun _ => rfl), ← drop_flat3 dgCells (fun _ => rfl), List.getElem?_take] at hj
  split at hj
  · next hlt =>
    have ho' : o = lo * 3 := by omega
    rw [Addr.add_at, cell_of_row w g _ _ _ _ q.blk, ho']
    rw [List.getElem?_drop] at hj
    simpa using hj
  · cases hj

/-- A row that is its owner's is a slice of its datagrams. -/
theorem Dgs.ofOwns {w : World} {base : Nat} {v : Value} {rs : List (Dg × Value)} {ds : List Dg} {n : Nat} (h : w.ownsRow base 30 3 v n (rs.flatMap dgCells)) (hn : n = ds.length) (hm : rs.map Prod.fst = ds) (hbs : ∀ r ∈ rs, Bs w r.2 r.1.b) : Dgs w v ds := by
  subst hn
  obtain ⟨_, ⟨rfl, h0⟩ | ⟨g, cap, cur, rfl, hb, hg, hnc, _, hs, ht⟩⟩ := h
  · have : ds = [] := List.eq_nil_of_length_eq_zero h0
    subst this
    exact ⟨none, 0, rfl, ⟨Nat.zero_le _, fun _ => rfl⟩, fun h => absurd rfl h⟩
  · exact Dgs.ofBlock hm hg ht hnc hbs

theorem own_none3 {w : World} {g : Nat} (hg : w.heap[g]? = some (.cells #[] 30 (0, 0))) : w.ownsRow g 30 3 (.slice (some ⟨g, 0, none⟩) 0 0) 0 [] :=
  ⟨by simp, Or.inr ⟨g, 0, #[], rfl, Nat.le_refl _, hg, Nat.le_refl _, Nat.zero_le _, by simp, by simp⟩⟩

theorem own_base3 {w : World} {base : Nat} {e : TypeId} {sz : Nat} {v : Value} {n : Nat} {xs : List Value} (h : w.ownsRow base e sz v n xs) : ∀ k, v.ownBlock = some k → base ≤ k := by
  intro k hk
  obtain ⟨_, ⟨rfl, h0⟩ | ⟨g, cap, cur, rfl, hb, hg, _⟩⟩ := h
  · simp [Value.ownBlock] at hk
  · simp only [Value.ownBlock, Option.some.injEq] at hk
    subst hk
    exact hb
theorem own_form3 {w : World} {base : Nat} {e : TypeId} {sz : Nat} {v : Value} {n : Nat} {xs : List Value} (h : w.ownsRow base e sz v n xs) : ∃ ao n' c, v = .slice ao n' c := by
  rcases h.2 with ⟨rfl, _⟩ | ⟨g, cap, cur, rfl, _⟩
  · exact ⟨_, _, _, rfl⟩
  · exact ⟨_, _, _, rfl⟩
theorem DgNew.keep {h g : Nat} {w w' : World} {v : Value} {rs : List (Dg × Value)} {S : Nat → Prop} (q : DgNew h w v rs g) (hk : Kept w w' S) (hs : ∀ k, S k → k < h) : DgNew h w' v rs g := by
  refine ⟨q.val, q.ge, (hk.block g (Array.getElem?_eq_some_iff.1 q.blk).1 (fun e => by have := hs _ e; have := q.ge; omega)).trans q.blk, fun r hr => ?_⟩
  obtain ⟨k, h1, h2, h3, h4⟩ := q.bs r hr
  exact ⟨k, h1, h2, h3, (hk.block k (Array.getElem?_eq_some_iff.1 h4).1 (fun e => by have := hs _ e; omega)).trans h4⟩
theorem DgNew.below {h g : Nat} {w w' : World} {v : Value} {rs : List (Dg × Value)} (q : DgNew h w v rs g) (hb : Below w.heap.size w w') : DgNew h w' v rs g := q.keep (kept_of_below hb (fun _ => False)) (fun _ e => e.elim)
theorem DgNew.rbs {h g : Nat} {w : World} {v : Value} {rs : List (Dg × Value)} (q : DgNew h w v rs g) : ∀ r ∈ rs, Bs w r.2 r.1.b := fun r hr => by
  obtain ⟨k, _, _, e, hg⟩ := q.bs r hr
  rw [e]
  exact Bs.ofBlock hg (List.take_of_length_le (by simp)) (Nat.le_refl _)
theorem OwnB.keep {h : Nat} {w1 w2 : World} {F : Nat → Prop} {v : Value} {l : List UInt8} (q : OwnB h w1 v l) (hk : Kept w1 w2 F) (hF : ∀ k, F k → k < h) : OwnB h w2 v l := by
  rcases q with q | ⟨g, hg, rfl, hh⟩
  · exact Or.inl q
  · exact Or.inr ⟨g, hg, rfl, (hk.block g (Array.getElem?_eq_some_iff.1 hh).1 (fun e => by have := hF _ e; omega)).trans hh⟩

end Go.Proofs.Ytibgpbflchfbnaa
