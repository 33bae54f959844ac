/- Rows of elements of any width in blocks of their own: copy, clear, append, and what a row is behind an insertion or a deletion. No program's text is in it. -/
import Derived.Test.YtdafpfdmnccelaaDoorBase
import Derived.Deep.AppendSrc
import Derived.Deep.AppendLies
import Derived.Lib.AppendZerosOnto
import Derived.Lib.Overlaps
import Derived.Lib.SliceRun
import Derived.Laws.IdiomCopy
namespace Go.Proofs.YtdafpfdmnccelaaDoor
open Go.RowKit

theorem hidden {p : Prop} (h : p) : Hid p := h

theorem info_parts {P : Program} {t : TypeId} {z : Value} {s b : Nat} (h : (P.info? t).map (fun i => (i.zero, i.size, i.bytes)) = some (some z, s, b)) : ∃ i, P.info? t = some i ∧ i.zero = some z ∧ i.size = s ∧ i.bytes = b := by
  cases hq : P.info? t with
  | none => simp [hq] at h
  | some i => simp [hq] at h; exact ⟨i, rfl, h⟩

theorem splice_cons {α : Type} (L : List α) (o : Nat) (v : α) (r : List α) (h : o < L.length) : splice (L.set o v) (o + 1) r = splice L o (v :: r) := by
  unfold splice
  have e1 : (L.set o v).take (o + 1) = L.take o ++ [v] := by
    rw [List.take_succ_eq_append_getElem (by simpa using h), List.take_set_of_le (by omega)]
    simp
  have e2 : (L.set o v).drop (o + 1 + r.length) = L.drop (o + (v :: r).length) := by
    rw [List.drop_set_of_lt (by omega)]
    congr 1
    simp; omega
  rw [e1, e2]
  simp

theorem setCells_block (b : Nat) : ∀ (vs : List Value) (o : Nat) (w : World) (cur : Array Value) (T : TypeId), w.heap[b]? = some (.cells cur T (0, 0)) → o + vs.length ≤ cur.size →
    (w.setCells b o vs).heap[b]? = some (.cells (splice cur.toList o vs).toArray T (0, 0)) ∧ Kept w (w.setCells b o vs) (fun k => k = b) := by
  intro vs
  induction vs with
  | nil =>
    intro o w cur T h ho
    refine ⟨?_, Kept.refl _ _⟩
    show w.heap[b]? = _
    rw [h]
    simp [splice]
  | cons v r ih =>
    intro o w cur T h ho
    simp at ho
    have h1 := heap_setCell_same w b o _ _ v h
    obtain ⟨h2, h3⟩ := ih (o + 1) _ _ _ h1 (by simp; omega)
    have hk : Kept w (w.setCell ⟨b, o, none⟩ v) (fun k => k = b) := Kept.setCell _ _ _
    refine ⟨?_, hk.trans h3 (fun _ _ e => e)⟩
    show ((w.setCell ⟨b, o, none⟩ v).setCells b (o + 1) r).heap[b]? = _
    rw [h2]
    have e : (cur.setIfInBounds o v).toList = cur.toList.set o v := by simp
    rw [e, splice_cons _ _ _ _ (by simp; omega)]

theorem cell_of_row (w : World) (g i : Nat) (cur : Array Value) (T : TypeId) (fr : Nat × Nat) (h : w.heap[g]? = some (.cells cur T fr)) : w.cell? ⟨g, i, none⟩ = cur[i]? := by
  simp [World.cell?, h]
theorem take_splice {α : Type} (L : List α) (o n : Nat) (cs : List α) (hn : n ≤ o) (ho : o ≤ L.length) : (splice L o cs).take n = L.take n := by
  unfold splice
  rw [List.take_append_of_le_length (by simp; omega), List.take_take, Nat.min_eq_left hn]
theorem take_splice_to {α : Type} (L : List α) (o : Nat) (cs : List α) (ho : o ≤ L.length) : (splice L o cs).take (o + cs.length) = L.take o ++ cs := by
  unfold splice
  rw [← List.append_assoc, List.take_append_of_le_length (by simp; omega), List.take_of_length_le (by simp; omega)]

/-- 'copy(d, s)' of elements of any width: all is read ahead of the first write. -/
theorem run_copy_wide {P : Program} (w : World) (dT sT ty elem : TypeId) (c b o dLen dCap : Nat) (a : Addr) (sLen sCap k : Nat) (cs : List Value)
    (hu : P.underlying dT = some (.slice elem)) (hs : (P.info? elem).map (·.size) = some c) (hk : k = Nat.min sLen dLen) (hn : cs.length = k * c)
    (hsrc : ∀ j v, cs[j]? = some v → w.cell? (a.add j) = some v) (hc : ∀ j, j < cs.length → (w.cell? ⟨b, o + j, none⟩).isSome = true) (hf : ∀ j, j < cs.length → w.frozen? ⟨b, o + j, none⟩ = false) (h1 : ∀ v ∈ cs, v.oneCell' = true) :
    (Builtin.copy_ #[dT, sT] ty #[.slice (some ⟨b, o, none⟩) dLen dCap, .slice (some a) sLen sCap]).run P w = .ok (goInt k) (w.setCells b o cs) := by
  have hl := run_loadCells_list (P := P) w a cs hsrc
  have hst := run_storeCells_cells (P := P) b o cs 0 w (by simpa using hc) (by simpa using hf) h1
  rw [hn] at hl
  cases hq : P.info? elem with
  | none => simp [hq] at hs
  | some i =>
    have hi : i.size = c := by simpa [hq] using hs
    simp [Builtin.copy_, run_underlying hu, Builtin.lenOf, Builtin.firstCells, sizeOf, typeInfo, hq, hi, ← hk, hl, hst]

/-- 'clear(s)' over one element. -/
theorem run_clear_one {P : Program} (w : World) (t e ty : TypeId) (z : Value) (ht : P.underlying t = some (.slice e)) (hv : ∀ w, (zeroValue e).run P w = .ok z w) (h1 : ∀ u ∈ z.cells.toList, u.oneCell' = true) (b o c : Nat)
    (hc : ∀ j, j < z.cells.size → (w.cell? ⟨b, o + j, none⟩).isSome = true) (hf : ∀ j, j < z.cells.size → w.frozen? ⟨b, o + j, none⟩ = false) :
    (Builtin.clear_ #[t] ty #[.slice (some ⟨b, o, none⟩) 1 c]).run P w = .ok (.tuple #[]) (w.setCells b o z.cells.toList) := by
  have hzc : (Builtin.zeroCells z.cells 1).toList = z.cells.toList := by
    simp only [Builtin.zeroCells, Nat.one_mul]
    apply List.ext_getElem
    · simp
    · intro k h1 h2
      simp at h2
      simp [Nat.mod_eq_of_lt h2, h2]
  have hst := run_storeCells_cells (P := P) b o z.cells.toList 0 w (by simpa using hc) (by simpa using hf) h1
  simp only [Nat.add_zero] at hst
  simp [Builtin.clear_, run_underlying ht, hv, hzc, hst]

/-- The operation 'copy(d, s)' where its run is known. -/
theorem wpList_copy_by {P : Program} {w : World} {ops : Array Oper} {rest : List Oper} {o : Oper} {a : Act} {Q : Exit → Act → World → Prop} (hgd : o.guard = none) (d s : Operand) (t t' : TypeId)
    (ho : o.op = .call { callee := .builtin .copy, args := #[d, s], argTypes := #[t, t'] }) (v u : Value) (hd : a.eval d = v) (hs : a.eval s = u) {v' : Value} {w' : World}
    (hr : (Builtin.copy_ #[t, t'] o.type #[v, u]).run P w = .ok v' w') (h : wpList P ops Q rest (a.put o.dst v') w') : wpList P ops Q (o :: rest) a w := by
  refine wpList_plain hgd fun K hK => ?_
  unfold Oper.wp execOp
  simp only [ho, resolve, invoke, builtin, Sem.run_bind, Sem.run_pure, Result.andThen_ok, List.map_toArray, List.map_cons, List.map_nil, hd, hs, hr]
  exact hK _ _ h
theorem step_copy_by {P : Program} {ops : Array Oper} {o : Oper} {a : Act} {w : World} {K : Act → World → Prop} {Q : Exit → Act → World → Prop} {E : Prop}
    (hg : o.guard = none) (d x : Operand) (t t' : TypeId) (hop : o.op = Op.call { callee := Callee.builtin Builtin.copy, args := #[d, x], argTypes := #[t, t'] })
    (v u : Value) (hd : a.eval d = v) (hx : a.eval x = u) {v' : Value} {w' : World} (hr : (Builtin.copy_ #[t, t'] o.type #[v, u]).run P w = .ok v' w') (hK : K (a.put o.dst v') w') :
    if Region.wanted o (yielded ops a.tmps) = true then Oper.wp P o a w K Q else E := by
  have hw : Region.wanted o (yielded ops a.tmps) = true := by simp [Region.wanted, hg]
  rw [if_pos hw]
  unfold Oper.wp execOp
  simp only [hop, resolve, invoke, builtin, Sem.run_bind, Sem.run_pure, Result.andThen_ok, List.map_toArray, List.map_cons, List.map_nil, hd, hx, hr]
  exact hK

/-- A slice, nil or not, whose cells, c for each of its n elements, are xs. -/
structure Sr (w : World) (v : Value) (c n : Nat) (xs : List Value) : Prop where
  len : xs.length = n * c
  val : (v = .slice none 0 0 ∧ n = 0) ∨ ∃ ad k, v = .slice (some ad) n k ∧ ∀ j u, xs[j]? = some u → w.cell? (ad.add j) = some u
  one : ∀ u ∈ xs, u.oneCell' = true

theorem Sr.below {w w' : World} {v : Value} {c n : Nat} {xs : List Value} (h : Sr w v c n xs) (hb : Below w.heap.size w w') : Sr w' v c n xs := by
  refine ⟨h.len, ?_, h.one⟩
  rcases h.val with h1 | ⟨ad, k, hv, hc⟩
  · exact Or.inl h1
  · exact Or.inr ⟨ad, k, hv, fun j u hu => by
      have h1 := hc j u hu
      have h2 : (ad.add j).block < w.heap.size := World.block_lt_of_cell? w _ h1
      exact (hb.cell (p := ad.add j) h2).trans h1⟩
theorem Sr.kept {w w' : World} {S : Nat → Prop} {v : Value} {c n : Nat} {xs : List Value} (h : Sr w v c n xs) (hk : Kept w w' S) (hs : ∀ k, v.ownBlock = some k → ¬ S k) : Sr w' v c n xs := by
  refine ⟨h.len, ?_, h.one⟩
  rcases h.val with h1 | ⟨ad, k, rfl, hc⟩
  · exact Or.inl h1
  · exact Or.inr ⟨ad, k, rfl, fun j u hu => by
      have h1 := hc j u hu
      have hbe : (ad.add j).block = ad.block := by unfold Addr.add; split <;> rfl
      have h2 : (ad.add j).block < w.heap.size := World.block_lt_of_cell? w _ h1
      exact (World.cell?_of_block (a := ad.add j) (hk.block _ h2 (by rw [hbe]; exact hs _ rfl))).trans h1⟩

/-- 'append(v, u...)' onto a row that is its owner's, of elements of any width; u may be nil. -/
theorem run_append_sr {P : Program} (w : World) (t ty e : TypeId) (i : TypeInfo) (z : Value) (c bytes : Nat) (ht : P.underlying t = some (.slice e)) (hi : P.info? e = some i) (hz : i.zero = some z)
    (hsize : i.size = c) (hby : i.bytes = bytes) (hzs : z.cells.size = c) (hc0 : 0 < c) (base : Nat) (v : Value) (n : Nat) (xs : List Value) (hown : w.ownsRow base e c v n xs)
    (u : Value) (m : Nat) (news : List Value) (hr : Sr w u c m news) (h63 : n + m ≤ 1000000000) (hb : bytes ≤ 100000) (hbase : base ≤ w.heap.size) :
    ∃ v' w', (Builtin.append_ #[t, t] ty #[v, u]).run P w = .ok v' w' ∧ w'.ownsRow base e c v' (n + m) (xs ++ news) ∧ Kept w w' (fun k => v.ownBlock = some k) ∧ Moved w v v' := by
  rcases hr.val with ⟨rfl, rfl⟩ | ⟨ad, k, rfl, hc⟩
  · have hx : news = [] := List.eq_nil_of_length_eq_zero (by simpa using hr.len)
    subst hx
    exact ⟨v, w, run_append_owned_none (P := P) (w := w) base t ty e i c ht hi v n xs hown, by simpa using hown, Kept.refl _ _, Moved.refl _ _⟩
  · have hbb : (n + m) * bytes ≤ 140737488355328 := Nat.le_trans (Nat.mul_le_mul h63 hb) (by omega)
    obtain ⟨v', w', h1, h2, h3, h4, h5⟩ := run_append_own_at (P := P) w base t ty e i z c bytes ht hi hz hsize hby hzs hc0 v n xs hown ad m k news hr.len hc hr.one (by unfold maxLen; omega) hbb hbase
    refine ⟨v', w', h1, h2, Kept.grown h3, fun k hk => ?_⟩
    rcases h5 with h5 | h5
    · exact Or.inl (h5 ▸ hk)
    · rw [h5] at hk
      simp only [Option.some.injEq] at hk
      exact Or.inr (by omega)
theorem wpList_append_sr {P : Program} {w : World} {ops : Array Oper} {rest : List Oper} {o : Oper} {a : Act} {Q : Exit → Act → World → Prop} (hgd : o.guard = none) (s x : Operand) (t : TypeId)
    (ho : o.op = .call { callee := .builtin .append, args := #[s, x], argTypes := #[t, t] })
    (e : TypeId) (i : TypeInfo) (z : Value) (c bytes : Nat) (ht : P.underlying t = some (.slice e)) (hi : P.info? e = some i) (hz : i.zero = some z)
    (hsize : i.size = c) (hby : i.bytes = bytes) (hzs : z.cells.size = c) (hc0 : 0 < c) (base : Nat) (v : Value) (n : Nat) (xs : List Value) (hs : a.eval s = v) (hown : w.ownsRow base e c v n xs)
    (u : Value) (m : Nat) (news : List Value) (hx : a.eval x = u) (hr : Sr w u c m news) (h63 : n + m ≤ 1000000000) (hb : bytes ≤ 100000) (hbase : base ≤ w.heap.size)
    (h : ∀ v' w', w'.ownsRow base e c v' (n + m) (xs ++ news) → Kept w w' (fun k => v.ownBlock = some k) → Moved w v v' → wpList P ops Q rest (a.put o.dst v') w') :
    wpList P ops Q (o :: rest) a w := by
  refine wpList_plain hgd fun K hK => ?_
  obtain ⟨v', w', h1, h2, h3, h4⟩ := run_append_sr w t o.type e i z c bytes ht hi hz hsize hby hzs hc0 base v n xs hown u m news hr h63 hb hbase
  unfold Oper.wp execOp
  simp only [ho, resolve, invoke, builtin, Sem.run_bind, Sem.run_pure, Result.andThen_ok, List.map_toArray, List.map_cons, List.map_nil, hs, hx, h1]
  exact hK _ _ (h v' w' h2 h3 h4)
theorem step_append_sr {P : Program} {w : World} {ops : Array Oper} {o : Oper} {a : Act} {K : Act → World → Prop} {Q : Exit → Act → World → Prop} {E : Prop} (hgd : o.guard = none) (s x : Operand) (t : TypeId)
    (ho : o.op = .call { callee := .builtin .append, args := #[s, x], argTypes := #[t, t] })
    (e : TypeId) (i : TypeInfo) (z : Value) (c bytes : Nat) (ht : P.underlying t = some (.slice e)) (hi : P.info? e = some i) (hz : i.zero = some z)
    (hsize : i.size = c) (hby : i.bytes = bytes) (hzs : z.cells.size = c) (hc0 : 0 < c) (base : Nat) (v : Value) (n : Nat) (xs : List Value) (hs : a.eval s = v) (hown : w.ownsRow base e c v n xs)
    (u : Value) (m : Nat) (news : List Value) (hx : a.eval x = u) (hr : Sr w u c m news) (h63 : n + m ≤ 1000000000) (hb : bytes ≤ 100000) (hbase : base ≤ w.heap.size)
    (h : ∀ v' w', w'.ownsRow base e c v' (n + m) (xs ++ news) → Kept w w' (fun k => v.ownBlock = some k) → Moved w v v' → K (a.put o.dst v') w') :
    if Region.wanted o (yielded ops a.tmps) = true then Oper.wp P o a w K Q else E := by
  have hw : Region.wanted o (yielded ops a.tmps) = true := by simp [Region.wanted, hgd]
  rw [if_pos hw]
  obtain ⟨v', w', h1, h2, h3, h4⟩ := run_append_sr w t o.type e i z c bytes ht hi hz hsize hby hzs hc0 base v n xs hown u m news hr h63 hb hbase
  unfold Oper.wp execOp
  simp only [ho, resolve, invoke, builtin, Sem.run_bind, Sem.run_pure, Result.andThen_ok, List.map_toArray, List.map_cons, List.map_nil, hs, hx, h1]
  exact h v' w' h2 h3 h4

/-- A row that is its owner's, elsewhere untouched. -/
theorem own_kept {w w' : World} {base c n : Nat} {e : TypeId} {v : Value} {xs : List Value} {S : Nat → Prop} (h : w.ownsRow base e c v n xs) (hk : Kept w w' S) (hs : ∀ k, v.ownBlock = some k → ¬ S k) : w'.ownsRow base e c v n xs := by
  refine ⟨h.1, ?_⟩
  rcases h.2 with h1 | ⟨g, cap, cur, rfl, h2, h3, h4⟩
  · exact Or.inl h1
  · exact Or.inr ⟨g, cap, cur, rfl, h2, (hk.block g (Array.getElem?_eq_some_iff.1 h3).1 (hs g rfl)).trans h3, h4⟩
theorem own_slice {w : World} {base c n : Nat} {e : TypeId} {v : Value} {xs : List Value} (h : w.ownsRow base e c v n xs) : ∃ ao cap, v = .slice ao n cap ∧ n ≤ cap ∧ cap ≤ maxLen ∧ (ao = none → cap = 0) := by
  rcases h.2 with ⟨rfl, rfl⟩ | ⟨g, cap, cur, rfl, h2, h3, h4, h5, _⟩
  · exact ⟨_, _, rfl, Nat.le_refl _, Nat.zero_le _, fun _ => rfl⟩
  · exact ⟨_, _, rfl, h4, h5, fun h => by cases h⟩
theorem own_sr {w : World} {base c n : Nat} {e : TypeId} {v : Value} {xs : List Value} (h : w.ownsRow base e c v n xs) (h1 : ∀ u ∈ xs, u.oneCell' = true) : Sr w v c n xs := by
  refine ⟨h.1, ?_, h1⟩
  rcases h.2 with ⟨rfl, h0⟩ | ⟨g, cap, cur, rfl, h2, h3, h4⟩
  · exact Or.inl ⟨rfl, h0⟩
  · exact Or.inr ⟨⟨g, 0, none⟩, cap, rfl, h.cells rfl⟩

/-- What a row is behind an insertion in its place, in a new row, and behind a deletion. -/
theorem splice_shift {α : Type} (cur xs x : List α) (a : Nat) (ha : a ≤ xs.length) (hc : cur.take xs.length = xs) (hl : xs.length + x.length ≤ cur.length) : (splice (splice cur (a + x.length) (xs.drop a)) a x).take (xs.length + x.length) = xs.take a ++ (x ++ xs.drop a) := by
  have e1 : (splice cur (a + x.length) (xs.drop a)).take a = xs.take a := by
    rw [take_splice _ _ _ _ (by omega) (by omega)]
    have e : xs.take a = (cur.take xs.length).take a := by rw [hc]
    rw [e, List.take_take, Nat.min_eq_left ha]
  have e2 : (splice cur (a + x.length) (xs.drop a)).drop (a + x.length) = xs.drop a ++ cur.drop (a + x.length + (xs.drop a).length) := by
    unfold splice
    rw [List.drop_append_of_le_length (by simp; omega), List.drop_of_length_le (by simp; omega), List.nil_append]
  rw [splice, e1, e2, ← List.append_assoc x, ← List.append_assoc, List.take_append_of_le_length (by simp; omega), List.take_of_length_le (by simp; omega)]
theorem splice_grow {α : Type} (ROW xs x : List α) (a : Nat) (ha : a ≤ xs.length) (hc : ROW.take a = xs.take a) (hl : xs.length + x.length ≤ ROW.length) : (splice (splice ROW a x) (a + x.length) (xs.drop a)).take (xs.length + x.length) = xs.take a ++ (x ++ xs.drop a) := by
  have e : xs.length + x.length = a + x.length + (xs.drop a).length := by simp; omega
  rw [e, take_splice_to _ _ _ (by rw [length_splice _ _ _ (by omega)]; omega), take_splice_to _ _ _ (by omega), hc, List.append_assoc]

end Go.Proofs.YtdafpfdmnccelaaDoor
