/- Rows of numbers that are the call's own: read, cut, appended to (as ArS, with no arena beneath). -/
import Derived.Test.YtbbdcjllmjhiiaaRows
import Derived.Test.YtbbdcjllmjhiiaaTbL
import Derived.Deep.RegionLaw
namespace Go.Proofs.Ytbbdcjllmjhiiaa
open Go.RowKit

theorem Try.infoInt : (Try.prog.info? 3).map (fun i => (i.zero, i.size, i.bytes)) = some (some (.int .i64 0), 1, 8) := by kernel_rfl
def iV (n : Nat) : Value := .int .i64 (n : Int)
theorem iV_one (l : List Nat) : ∀ u ∈ l.map iV, u.oneCell' = true := by
  intro u hu
  obtain ⟨n, _, rfl⟩ := List.mem_map.1 hu
  rfl
/-- v is a slice of l in memory of its own, from block base on. -/
def Ow (w : World) (base : Nat) (v : Value) (l : List Nat) : Prop := w.ownsRow base 3 1 v l.length (l.map iV)
theorem Ow.nil (w : World) (base : Nat) : Ow w base (.slice none 0 0) [] := ⟨rfl, Or.inl ⟨rfl, rfl⟩⟩
theorem Ow.ge {w : World} {base : Nat} {v : Value} {l : List Nat} (h : Ow w base v l) : ∀ k, v.ownBlock = some k → base ≤ k ∧ k < w.heap.size := by
  intro k hk
  obtain ⟨_, ⟨rfl, h0⟩ | ⟨g, cap, cur, rfl, hb, hg, _⟩⟩ := h
  · simp [Value.ownBlock] at hk
  · simp only [Value.ownBlock, Option.some.injEq] at hk
    subst hk
    exact ⟨hb, (Array.getElem?_eq_some_iff.1 hg).1⟩
theorem Ow.kept {w w' : World} {base : Nat} {v : Value} {l : List Nat} {S : Nat → Prop} (h : Ow w base v l) (hk : Kept w w' S) (hs : ∀ k, v.ownBlock = some k → ¬ S k) : Ow w' base v l := own_kept h hk hs
theorem Ow.below {w w' : World} {base : Nat} {v : Value} {l : List Nat} (h : Ow w base v l) (hb : Below w.heap.size w w') : Ow w' base v l := h.kept (kept_of_below hb (fun _ => False)) (fun _ _ => id)
theorem Ow.slice {w : World} {base : Nat} {v : Value} {l : List Nat} (h : Ow w base v l) : ∃ ao cap, v = .slice ao l.length cap ∧ l.length ≤ cap ∧ cap ≤ maxLen ∧ (ao = none → cap = 0) := own_slice h
theorem Ow.at {w : World} {base : Nat} {v : Value} {l : List Nat} (h : Ow w base v l) (i : Nat) (hi : i < l.length) : ∃ g cap, v = .slice (some ⟨g, 0, none⟩) l.length cap ∧ base ≤ g ∧ g < w.heap.size ∧ l.length ≤ cap ∧ ∀ j (hj : j < l.length), w.cell? ⟨g, j, none⟩ = some (.int .i64 (l[j] : Int)) := by
  obtain ⟨_, ⟨rfl, h0⟩ | ⟨g, cap, cur, rfl, hb, hg, hn, hm, hs, ht⟩⟩ := h
  · omega
  · refine ⟨g, cap, rfl, hb, (Array.getElem?_eq_some_iff.1 hg).1, hn, fun j hj => ?_⟩
    rw [cell_of_row w g j _ _ _ hg]
    have h2 : (cur.toList.take (l.length * 1))[j]? = some (.int .i64 (l[j] : Int)) := by
      rw [ht, List.getElem?_map, List.getElem?_eq_getElem hj]
      rfl
    rw [List.getElem?_take_of_lt (by omega)] at h2
    simpa using h2
theorem Ow.pre {w : World} {base g n cap : Nat} {l : List Nat} (h : Ow w base (.slice (some ⟨g, 0, none⟩) n cap) l) (k : Nat) (hk : k ≤ l.length) (hl : 0 < l.length) : Sr w (.slice (some ⟨g, 0, none⟩) k cap) 1 (l.take k).length ((l.take k).map iV) := by
  obtain ⟨g', cap', e, _, _, _, hc⟩ := h.at 0 hl
  cases e
  refine ⟨by simp, Or.inr ⟨_, _, by rw [List.length_take, Nat.min_eq_left hk], fun j u hu => ?_⟩, iV_one _⟩
  have hj : j < (l.take k).length := by
    have := (List.getElem?_eq_some_iff.1 hu).1
    simpa using this
  rw [List.length_take] at hj
  rw [Addr.add_at, Nat.zero_add, hc j (by omega)]
  rw [List.getElem?_map, List.getElem?_take_of_lt (by omega), List.getElem?_eq_getElem (by omega)] at hu
  simpa [iV] using hu
theorem Ow.post {w : World} {base g n cap : Nat} {l : List Nat} (h : Ow w base (.slice (some ⟨g, 0, none⟩) n cap) l) (k : Nat) (hk : k ≤ l.length) (hl : 0 < l.length) (c : Nat) : Sr w (.slice (some ⟨g, k, none⟩) (l.length - k) c) 1 (l.drop k).length ((l.drop k).map iV) := by
  obtain ⟨g', cap', e, _, _, _, hc⟩ := h.at 0 hl
  cases e
  refine ⟨by simp, Or.inr ⟨_, _, by rw [List.length_drop], fun j u hu => ?_⟩, iV_one _⟩
  have hj : j < (l.drop k).length := by
    have := (List.getElem?_eq_some_iff.1 hu).1
    simpa using this
  rw [List.length_drop] at hj
  rw [Addr.add_at, hc (k + j) (by omega)]
  rw [List.getElem?_map, List.getElem?_drop, List.getElem?_eq_getElem (by omega)] at hu
  simpa [iV] using hu
theorem sr_none (w : World) (ad : Addr) (c : Nat) : Sr w (.slice (some ad) 0 c) 1 ([] : List Nat).length (([] : List Nat).map iV) := ⟨rfl, Or.inr ⟨ad, c, rfl, fun j u hu => by simp at hu⟩, by simp⟩
theorem sr_zero (w : World) (ad : Addr) (n c : Nat) (hn : n = 0) : Sr w (.slice (some ad) n c) 1 ([] : List Nat).length (([] : List Nat).map iV) := by subst hn; exact sr_none w ad c
theorem sr_one (w : World) (x : Nat) (T : TypeId) : Sr (w.alloc (.cells #[.int .i64 (x : Int)] T)) (.slice (some ⟨w.heap.size, 0, none⟩) 1 1) 1 [x].length ([x].map iV) := by
  refine ⟨rfl, Or.inr ⟨_, _, rfl, fun j u hu => ?_⟩, iV_one _⟩
  have hj : j < 1 := by simpa using (List.getElem?_eq_some_iff.1 hu).1
  have hj0 : j = 0 := by omega
  subst hj0
  simp only [List.map_cons, List.map_nil, List.getElem?_cons_zero, Option.some.injEq] at hu
  subst hu
  rw [Addr.add_at, cell_of_row _ _ _ _ _ _ (heap_alloc_new w _)]
  rfl
theorem own_mono' {w : World} {b b' : Nat} {v : Value} {l : List Nat} (h : Ow w b v l) (hb : b' ≤ b) : Ow w b' v l := by
  refine ⟨h.1, ?_⟩
  rcases h.2 with h1 | ⟨g, cap, cur, rfl, h2, h3⟩
  · exact Or.inl h1
  · exact Or.inr ⟨g, cap, cur, rfl, Nat.le_trans hb h2, h3⟩
theorem ow_empty {w : World} {g base : Nat} (h : w.heap[g]? = some (.cells #[] 3 (0, 0))) (hb : base ≤ g) : Ow w base (.slice (some ⟨g, 0, none⟩) 0 0) [] :=
  ⟨by simp, Or.inr ⟨_, 0, #[], rfl, hb, h, Nat.le_refl _, Nat.zero_le _, by simp, by simp⟩⟩

theorem wpList_ow {w : World} {ops : Array Oper} {rest : List Oper} {o : Oper} {a : Act} {Q : Exit → Act → World → Prop} (hgd : o.guard = none) (s x : Operand)
    (ho : o.op = .call { callee := .builtin .append, args := #[s, x], argTypes := #[30, 30] })
    (base : Nat) (v : Value) (l : List Nat) (hs : a.eval s = v) (hown : Ow w base v l) (u : Value) (m : List Nat) (hx : a.eval x = u) (hr : Sr w u 1 m.length (m.map iV)) (h63 : l.length + m.length ≤ 1000000000) (hbase : base ≤ w.heap.size)
    (h : ∀ v' w', Ow w' base v' (l ++ m) → Kept w w' (fun k => v.ownBlock = some k) → Moved w v v' → wpList Try.prog ops Q rest (a.put o.dst v') w') :
    wpList Try.prog ops Q (o :: rest) a w := by
  obtain ⟨i, hi, hz0, hz1, hz2⟩ := info_parts Try.infoInt
  refine wpList_append_sr hgd s x 30 ho 3 i (.int .i64 0) 1 8 Try.underlying30 hi hz0 hz1 hz2 rfl (by omega) base v l.length (l.map iV) hs hown u m.length (m.map iV) hx hr h63 (by omega) hbase ?_
  intro v' w' h1 h2 h3
  refine h v' w' ?_ h2 h3
  unfold Ow
  rw [List.length_append, List.map_append]
  exact h1
theorem step_ow {w : World} {ops : Array Oper} {o : Oper} {a : Act} {K : Act → World → Prop} {Q : Exit → Act → World → Prop} {E : Prop} (hgd : o.guard = none) (s x : Operand)
    (ho : o.op = .call { callee := .builtin .append, args := #[s, x], argTypes := #[30, 30] })
    (base : Nat) (v : Value) (l : List Nat) (hs : a.eval s = v) (hown : Ow w base v l) (u : Value) (m : List Nat) (hx : a.eval x = u) (hr : Sr w u 1 m.length (m.map iV)) (h63 : l.length + m.length ≤ 1000000000) (hbase : base ≤ w.heap.size)
    (h : ∀ v' w', Ow w' base v' (l ++ m) → Kept w w' (fun k => v.ownBlock = some k) → Moved w v v' → K (a.put o.dst v') w') :
    if Region.wanted o (yielded ops a.tmps) = true then Oper.wp Try.prog o a w K Q else E := by
  obtain ⟨i, hi, hz0, hz1, hz2⟩ := info_parts Try.infoInt
  refine step_append_sr hgd s x 30 ho 3 i (.int .i64 0) 1 8 Try.underlying30 hi hz0 hz1 hz2 rfl (by omega) base v l.length (l.map iV) hs hown u m.length (m.map iV) hx hr h63 (by omega) hbase ?_
  intro v' w' h1 h2 h3
  refine h v' w' ?_ h2 h3
  unfold Ow
  rw [List.length_append, List.map_append]
  exact h1

end Go.Proofs.Ytbbdcjllmjhiiaa
