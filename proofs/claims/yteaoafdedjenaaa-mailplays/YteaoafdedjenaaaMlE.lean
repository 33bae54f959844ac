/- Slices of one-cell values: as they came in, and a window of a block of one's own that is appended to. -/
import Derived.Test.YteaoafdedjenaaaMlC
import Derived.Deep.AppendSrc
import Derived.Deep.Slices
import Derived.Laws.AppendOwn
import Derived.ProofKit
import Derived.SizedLaws
namespace Go.Proofs.Yteaoafdedjenaaa
open Go.RowKit Go.Conc

/-- A slice whose elements are these values. -/
def Vs (w : World) (v : Value) (l : List Value) : Prop :=
  ∃ ao cap, v = .slice ao l.length cap ∧ (l.length ≤ cap ∧ (ao = none → cap = 0)) ∧ (l ≠ [] → ∃ b off, ao = some ⟨b, off, none⟩ ∧ b < w.heap.size ∧ ∀ i u, l[i]? = some u → w.cell? ⟨b, off + i, none⟩ = some u)

theorem Vs.below {w w' : World} {v : Value} {l : List Value} (h : Vs w v l) (hb : Below w.heap.size w w') : Vs w' v l := by
  obtain ⟨ao, cap, rfl, hc, hx⟩ := h
  refine ⟨ao, cap, rfl, hc, fun hl => ?_⟩
  obtain ⟨b, off, rfl, hlt, hs⟩ := hx hl
  exact ⟨b, off, rfl, Nat.lt_of_lt_of_le hlt hb.size, fun i u hu => (hb.cell (p := ⟨b, off + i, none⟩) hlt).trans (hs i u hu)⟩
theorem Vs.ofRow {w : World} {g : Nat} {T : TypeId} {l : List Value} (h : Row w g T l) : Vs w (.slice (some ⟨g, 0, none⟩) l.length l.length) l :=
  ⟨_, _, rfl, ⟨Nat.le_refl _, fun h => by cases h⟩, fun _ => ⟨g, 0, rfl, (Array.getElem?_eq_some_iff.1 h).1, fun i u hu => by
    have hi := (List.getElem?_eq_some_iff.1 hu).1
    rw [Nat.zero_add, h.cell i hi]
    exact (List.getElem?_eq_getElem hi).symm.trans hu⟩⟩
theorem Vs.take {w : World} {ao : Option Addr} {n cap : Nat} {l : List Value} (h : Vs w (.slice ao n cap) l) (k : Nat) (hk : k ≤ l.length) : Vs w (.slice ao k cap) (l.take k) := by
  obtain ⟨ao', cap', e, hc, hx⟩ := h
  cases e
  refine ⟨ao, cap, by rw [List.length_take, Nat.min_eq_left hk], ⟨by rw [List.length_take]; omega, hc.2⟩, fun hl => ?_⟩
  obtain ⟨b, off, rfl, hlt, hs⟩ := hx (fun e => hl (by simp [e]))
  exact ⟨b, off, rfl, hlt, fun i u hu => hs i u (by
    rw [List.getElem?_take] at hu
    split at hu
    · exact hu
    · cases hu)⟩
theorem Vs.cell {w : World} {ao : Option Addr} {n cap : Nat} {l : List Value} (h : Vs w (.slice ao n cap) l) (k : Nat) (hk : k < l.length) : ∃ b off, ao = some ⟨b, off, none⟩ ∧ b < w.heap.size ∧ w.cell? ⟨b, off + k, none⟩ = some l[k] := by
  obtain ⟨ao', cap', e, hc, hx⟩ := h
  cases e
  obtain ⟨b, off, rfl, hlt, hs⟩ := hx (fun e => by subst e; simp at hk)
  exact ⟨b, off, rfl, hlt, hs k _ (List.getElem?_eq_getElem hk)⟩

/-- A slice that came in. -/
theorem open_vs {α H : Type} [Inhabited α] {enc : TypeId × Value → H} {P : Program} {W : World} {t e : TypeId} {v : Value} {d : DataW H} {p : List MemPlace} (f : α → Value) (ht : P.underlying t = some (.slice e)) (hc : P.cellsOf e = 1)
    (each : ∀ n u (y : DataW H × List MemPlace), DataW.trod enc P W 0 (fun _ => true) true n e [u] = some y → ∃ x, u = f x)
    (hv : ∃ a len cap, v = .slice a len cap) (h : DataW.Trod enc P W 0 (fun _ => true) true t v d p) :
    ∃ xs : List α, Vs W v (xs.map f) ∧ ((d = .nil ∧ xs = []) ∨ ∃ elems spare, d = .slice elems spare ∧ elems.length = xs.length) := by
  obtain ⟨a0, len, cap, rfl⟩ := hv
  obtain ⟨fuel, hf⟩ := h
  rcases Go.Deep.open_slice1 ht hc hf with ⟨hcs, hx⟩ | ⟨a, len', cap', m, n, V, D, Pl, hcs, _, hl, hm, hmm, hx, hcell⟩
  · simp [Value.cells] at hcs
    obtain ⟨rfl, rfl, rfl⟩ := hcs
    simp only [Prod.mk.injEq] at hx
    exact ⟨[], ⟨none, 0, rfl, ⟨Nat.le_refl _, fun _ => rfl⟩, fun h => absurd rfl h⟩, Or.inl ⟨hx.1, rfl⟩⟩
  · simp [Value.cells] at hcs
    obtain ⟨rfl, rfl, rfl⟩ := hcs
    simp only [Prod.mk.injEq] at hx
    simp only [if_true] at hmm
    subst hmm
    obtain ⟨X, hX⟩ := Go.Deep.choose_lt (α := α) (p := fun i x => V i = f x) (fun i (hi : i < m) => each _ _ _ (hcell i hi).2)
    refine ⟨(List.range len).map X, ?_, Or.inr ⟨_, _, hx.1, by simp⟩⟩
    refine ⟨some a, m, by simp, ⟨by simpa using hl, fun h => by cases h⟩, fun hne => ?_⟩
    have hpos : 0 < len := by
      rcases Nat.eq_zero_or_pos len with h0 | h0
      · subst h0; simp at hne
      · exact h0
    obtain ⟨b, off, spot⟩ := a
    have h0 := (hcell 0 (by omega)).1
    have hspot : spot = none := by simpa [Addr.add] using World.cell?_spot h0
    subst hspot
    rw [Addr.add_at] at h0
    refine ⟨b, off, rfl, World.block_lt_of_cell? W _ h0, fun i u hu => ?_⟩
    have hi : i < len := by
      have := (List.getElem?_eq_some_iff.1 hu).1
      simpa using this
    have hc2 := (hcell i (by omega)).1
    rw [Addr.add_at] at hc2
    rw [hc2, hX i (by omega)]
    simpa [hi] using hu

/-- A window of block g: the slice v, of the elements xs. -/
structure Win (w : World) (g : Option Nat) (v : Value) (T : TypeId) (xs : List Value) : Prop where
  is : (g = none ∧ v = .slice none 0 0 ∧ xs = []) ∨ ∃ b off cap cur, g = some b ∧ v = .slice (some ⟨b, off, none⟩) xs.length cap ∧ w.heap[b]? = some (.cells cur T (0, 0)) ∧ xs.length ≤ cap ∧ cap ≤ maxLen ∧ off + cap ≤ cur.size ∧ ∀ i u, xs[i]? = some u → cur[off + i]? = some u

theorem Win.nil (w : World) (T : TypeId) : Win w none (.slice none 0 0) T [] := ⟨Or.inl ⟨rfl, rfl, rfl⟩⟩
theorem Win.kept {w w' : World} {S : Nat → Prop} {g : Option Nat} {v : Value} {T : TypeId} {xs : List Value} (h : Win w g v T xs) (hk : Kept w w' S) (hs : ∀ b, g = some b → ¬ S b) : Win w' g v T xs := by
  obtain ⟨h | ⟨b, off, cap, cur, rfl, rfl, hb, h1, h2, h3, h4⟩⟩ := h
  · exact ⟨Or.inl h⟩
  · exact ⟨Or.inr ⟨b, off, cap, cur, rfl, rfl, (hk.block b (Array.getElem?_eq_some_iff.1 hb).1 (hs b rfl)).trans hb, h1, h2, h3, h4⟩⟩
theorem Win.lt {w : World} {b : Nat} {v : Value} {T : TypeId} {xs : List Value} (h : Win w (some b) v T xs) : b < w.heap.size := by
  obtain ⟨⟨h, _⟩ | ⟨b', off, cap, cur, h, rfl, hb, h1⟩⟩ := h
  · cases h
  · cases h
    exact (Array.getElem?_eq_some_iff.1 hb).1
theorem Win.slice {w : World} {g : Option Nat} {v : Value} {T : TypeId} {xs : List Value} (h : Win w g v T xs) : ∃ ao cap, v = .slice ao xs.length cap := by
  obtain ⟨⟨_, rfl, rfl⟩ | ⟨b', off, cap, cur, h, rfl, hb, h1⟩⟩ := h
  · exact ⟨_, _, rfl⟩
  · exact ⟨_, _, rfl⟩
theorem Win.vs {w : World} {g : Option Nat} {v : Value} {T : TypeId} {xs : List Value} (h : Win w g v T xs) : Vs w v xs := by
  obtain ⟨⟨_, rfl, rfl⟩ | ⟨b, off, cap, cur, h, rfl, hb, h1, h2, h3, h4⟩⟩ := h
  · exact ⟨_, _, rfl, ⟨Nat.le_refl _, fun _ => rfl⟩, fun h => absurd rfl h⟩
  · refine ⟨_, _, rfl, ⟨h1, fun h => by cases h⟩, fun _ => ⟨b, off, rfl, (Array.getElem?_eq_some_iff.1 hb).1, fun i u hu => ?_⟩⟩
    simp only [World.cell?, hb]
    simpa using h4 i u hu
/-- Its first element goes. -/
theorem Win.tail {w : World} {g : Option Nat} {T : TypeId} {x : Value} {xs : List Value} {ao : Option Addr} {n cap : Nat} (h : Win w g (.slice ao n cap) T (x :: xs)) :
    ∃ b off, ao = some ⟨b, off, none⟩ ∧ n = xs.length + 1 ∧ n ≤ cap ∧ w.cell? ⟨b, off, none⟩ = some x ∧ Win w g (.slice (some ⟨b, off + 1, none⟩) xs.length (cap - 1)) T xs := by
  obtain ⟨⟨_, h, _⟩ | ⟨b, off, cap', cur, rfl, h, hb, h1, h2, h3, h4⟩⟩ := h
  · cases h; simp_all
  · cases h
    simp only [List.length_cons] at h1
    have h0 := h4 0 x rfl
    refine ⟨b, off, rfl, rfl, h1, ?_, ⟨Or.inr ⟨b, off + 1, cap - 1, cur, rfl, rfl, hb, by omega, by omega, by omega, fun i u hu => ?_⟩⟩⟩
    · simp only [World.cell?, hb]
      simpa using h0
    · have := h4 (i + 1) u (by simpa using hu)
      rw [show off + 1 + i = off + (i + 1) by omega]
      exact this

theorem setCells_one (w : World) (b o : Nat) (x : Value) : w.setCells b o [x] = w.setCell ⟨b, o, none⟩ x := rfl

/-- 'append(v, x)' onto a window: in its place, or in a new block. -/
theorem run_append_win {P : Program} {w : World} {g : Option Nat} {v : Value} {T : TypeId} {xs : List Value} (h : Win w g v T xs) (t ty : TypeId) (i : TypeInfo) (z : Value) (ht : P.underlying t = some (.slice T)) (hi : P.info? T = some i) (hz : i.zero = some z)
    (hs : i.size = 1) (hzs : z.cells.size = 1) (bytes : Nat) (hby : i.bytes = bytes) (x : Value) (ad : Addr) (c : Nat) (hx : w.cell? ad = some x) (h1 : x.oneCell' = true) (hn : (xs.length + 1) * bytes ≤ 70368744177664) (hn2 : xs.length + 1 ≤ 70368744177664) :
    ∃ g' v' w', (Builtin.append_ #[t, t] ty #[v, .slice (some ad) 1 c]).run P w = .ok v' w' ∧ Win w' (some g') v' T (xs ++ [x]) ∧ Kept w w' (fun k => g = some k) ∧ (g = some g' ∨ g' = w.heap.size) := by
  have hsrc : Src P i.size t (.slice (some ad) 1 c) 1 [x] w := Src.ofSlice w ht ad 1 c [x] (by simp [hs]) (by
    intro j u hu
    cases j with
    | zero => simpa [Addr.add] using (by simpa using hu : x = u) ▸ hx
    | succ j => simp at hu) (by simpa using h1)
  have grow : ∀ (ao : Option Addr) (cap : Nat) (hcap : cap < xs.length + 1) (hold : (Builtin.firstCells i.size xs.length (.slice ao xs.length cap)).run P w.drew = .ok xs.toArray w.drew),
      ∃ g' v' w', (Builtin.append_ #[t, t] ty #[.slice ao xs.length cap, .slice (some ad) 1 c]).run P w = .ok v' w' ∧ Win w' (some g') v' T (xs ++ [x]) ∧ Kept w w' (fun k => g = some k) ∧ (g = some g' ∨ g' = w.heap.size) := by
    intro ao cap hcap hold
    have hfit : Builtin.nextslicecap (xs.length + 1) cap * i.bytes ≤ 281474976710656 := growslice_fits hcap (by rw [hby]; omega)
    have hr := run_append_grow_src (P := P) w t t ty T i z ht hi hz ao xs.length cap xs hold (.slice (some ad) 1 c) 1 [x] hsrc hcap (by omega) hfit
    have hge := grownCap_ge w (xs.length + 1) cap T
    have hcm : grownCap w (xs.length + 1) cap T ≤ maxLen := grownCap_le_maxLen w (xs.length + 1) cap T (by unfold maxLen; omega)
    refine ⟨w.heap.size, _, _, hr, ⟨Or.inr ⟨w.heap.size, 0, _, _, rfl, by simp, heap_alloc_new w.drew _, by simpa using hge, hcm, ?_, ?_⟩⟩, ⟨rfl, rfl, rfl, by simp, fun k hk _ => Below.heap_alloc w.drew _ k hk⟩, Or.inr rfl⟩
    · simp only [Array.size_append, List.size_toArray, size_zeroCells, hzs, List.length_append, List.length_cons, List.length_nil]
      omega
    · intro j u hu
      rw [Nat.zero_add, Array.getElem?_append_left (by simpa using (List.getElem?_eq_some_iff.1 hu).1)]
      simpa using hu
  obtain ⟨⟨rfl, rfl, rfl⟩ | ⟨b, off, cap, cur, rfl, rfl, hb, q1, q2, q3, q4⟩⟩ := h
  · exact grow none 0 (by simp) (by simpa using run_firstCells_none (P := P) w.drew i.size 0 0 0)
  · by_cases hr : xs.length + 1 ≤ cap
    · have hlt : off + xs.length < cur.size := by omega
      have hc : w.cell? ⟨b, off + xs.length, none⟩ = some cur[off + xs.length] := by
        simp [World.cell?, hb, hlt]
      have hrun := run_append_room_src (P := P) w t t ty T i ht hi b off xs.length cap (.slice (some ad) 1 c) 1 [x] hsrc hr
        (fun j hj => by simp at hj; subst hj; rw [hs]; simp [hc])
        (fun j hj => by simp at hj; subst hj; exact frozen_of_row w b _ _ _ hb)
      rw [hs, Nat.mul_one, setCells_one] at hrun
      have hxlt := (Array.getElem?_eq_some_iff.1 hb).1
      have hxe := (Array.getElem?_eq_some_iff.1 hb).2
      refine ⟨b, _, _, hrun, ⟨Or.inr ⟨b, off, cap, cur.setIfInBounds (off + xs.length) x, rfl, by simp, ?_, by simpa using hr, q2, by simpa using q3, ?_⟩⟩, (Kept.setCell w _ x).mono (fun k _ e => by simp at e; simp [e]), Or.inl rfl⟩
      · simp [World.setCell, hxlt, hxe, Array.getElem_modify]
      · intro j u hu
        have hj := (List.getElem?_eq_some_iff.1 hu).1
        simp at hj
        by_cases hjl : j < xs.length
        · rw [Array.getElem?_setIfInBounds_ne (by omega)]
          rw [List.getElem?_append_left hjl] at hu
          exact q4 j u hu
        · have : j = xs.length := by omega
          subst this
          simp at hu
          subst hu
          simp [hlt]
    · refine grow (some ⟨b, off, none⟩) cap (by omega) (run_firstCells_some (P := P) w.drew i.size xs.length ⟨b, off, none⟩ xs.length cap xs (by rw [hs, Nat.mul_one]) ?_)
      intro j u hu
      have := q4 j u hu
      show w.cell? _ = _
      rw [Addr.add_at]
      simp only [World.cell?, hb]
      simpa using this

/-- The same at the list of a plain region's operations. -/
theorem wpList_append_win {P : Program} {w : World} {ops : Array Oper} {rest : List Oper} {o : Oper} {a : Act} {Q : Exit → Act → World → Prop} (hgd : o.guard = none) (s y : Operand) (t : TypeId)
    (ho : o.op = .call { callee := .builtin .append, args := #[s, y], argTypes := #[t, t] })
    {g : Option Nat} {v : Value} {T : TypeId} {xs : List Value} (h : Win w g v T xs) (i : TypeInfo) (z : Value) (ht : P.underlying t = some (.slice T)) (hi : P.info? T = some i) (hz : i.zero = some z)
    (hs : i.size = 1) (hzs : z.cells.size = 1) (bytes : Nat) (hby : i.bytes = bytes) (x : Value) (ad : Addr) (c : Nat) (hv : a.eval s = v) (hy : a.eval y = .slice (some ad) 1 c) (hx : w.cell? ad = some x) (h1 : x.oneCell' = true) (hn : (xs.length + 1) * bytes ≤ 70368744177664) (hn2 : xs.length + 1 ≤ 70368744177664)
    (hK : ∀ g' v' w', Win w' (some g') v' T (xs ++ [x]) → Kept w w' (fun k => g = some k) → (g = some g' ∨ g' = w.heap.size) → wpList P ops Q rest (a.put o.dst v') w') : wpList P ops Q (o :: rest) a w := by
  refine wpList_plain hgd fun K hK' => ?_
  obtain ⟨g', v', w', hr, h2, h3, h4⟩ := run_append_win h t o.type i z ht hi hz hs hzs bytes hby x ad c hx h1 hn hn2
  unfold Oper.wp execOp
  simp only [ho, resolve, invoke, builtin, Sem.run_bind, Sem.run_pure, Result.andThen_ok, List.map_toArray, List.map_cons, List.map_nil, hv, hy, hr]
  exact hK' _ _ (hK g' v' w' h2 h3 h4)

end Go.Proofs.Yteaoafdedjenaaa
