/- One is taken out of a row: slices.Delete at a slice of datagrams. -/
import Derived.Test.YtibgpbflchfbnaaNtD
import Derived.Lib.SliceRun
namespace Go.Proofs.Ytibgpbflchfbnaa
open Go.RowKit

theorem splice_cons {α : Type} (L : List α) (o : Nat) (v : α) (r : List α) (h : o < L.length) : splice (L.set o v) (o + 1) r = splice L o (v :: r) := by
  unfold splice
  have e1 : (L.set o v).take (o + 1) = L.take o ++ [v] := by
    rw [List.take_succ_eq_append_getElem (by simpa using h), List.take_set_of_le (by omega)]
    simp
  have e2 : (L.set o v).drop (o + 1 + r.length) = L.drop (o + (v :: r).length) := by
    rw [List.drop_set_of_lt (by omega)]
    congr 1
    simp; omega
  rw [e1, e2]
  simp

theorem setCells_block (b : Nat) : ∀ (vs : List Value) (o : Nat) (w : World) (cur : Array Value) (T : TypeId), w.heap[b]? = some (.cells cur T (0, 0)) → o + vs.length ≤ cur.size →
    (w.setCells b o vs).heap[b]? = some (.cells (splice cur.toList o vs).toArray T (0, 0)) ∧ Kept w (w.setCells b o vs) (fun k => k = b) := by
  intro vs
  induction vs with
  | nil =>
    intro o w cur T h ho
    refine ⟨?_, Kept.refl _ _⟩
    show w.heap[b]? = _
    rw [h]
    simp [splice]
  | cons v r ih =>
    intro o w cur T h ho
    simp at ho
    have h1 := heap_setCell_same w b o _ _ v h
    obtain ⟨h2, h3⟩ := ih (o + 1) _ _ _ h1 (by simp; omega)
    have hk : Kept w (w.setCell ⟨b, o, none⟩ v) (fun k => k = b) := Kept.setCell _ _ _
    refine ⟨?_, hk.trans h3 (fun _ _ e => e)⟩
    show ((w.setCell ⟨b, o, none⟩ v).setCells b (o + 1) r).heap[b]? = _
    rw [h2]
    have e : (cur.setIfInBounds o v).toList = cur.toList.set o v := by simp
    rw [e, splice_cons _ _ _ _ (by simp; omega)]

/-- 'clear(s)' over one element of three cells. -/
theorem run_clear_three {P : Program} (w : World) (t e ty : TypeId) (x y z : Value) (ht : P.underlying t = some (.slice e)) (hv : ∀ w, (zeroValue e).run P w = .ok (.agg #[x, y, z]) w) (hx : x.oneCell' = true) (hy : y.oneCell' = true) (hz : z.oneCell' = true) (hcells : (Value.agg #[x, y, z]).cells = #[x, y, z]) (b o c : Nat)
    (hc : ∀ j, j < 3 → (w.cell? ⟨b, o + j, none⟩).isSome = true) (hf : ∀ j, j < 3 → w.frozen? ⟨b, o + j, none⟩ = false) :
    (Builtin.clear_ #[t] ty #[.slice (some ⟨b, o, none⟩) 1 c]).run P w = .ok (.tuple #[]) (w.setCells b o [x, y, z]) := by
  have hzc : (Builtin.zeroCells (Value.agg #[x, y, z]).cells 1).toList = [x, y, z] := by rw [hcells]; simp [Builtin.zeroCells, List.range_succ]
  have hst := run_storeCells_cells (P := P) b o [x, y, z] 0 w (by simpa using hc) (by simpa using hf) (by intro v hv'; simp at hv'; rcases hv' with rfl | rfl | rfl <;> assumption)
  simp only [Nat.add_zero] at hst
  simp [Builtin.clear_, run_underlying ht, hv, hzc, hst]

theorem erase_flat3 {α : Type} (f : α → List Value) (hf : ∀ x, (f x).length = 3) (l : List α) (k : Nat) : (l.eraseIdx k).flatMap f = (l.flatMap f).take (k * 3) ++ (l.flatMap f).drop ((k + 1) * 3) := by
  rw [List.eraseIdx_eq_take_drop_succ, List.flatMap_append, take_flat3 f hf, drop_flat3 f hf]

theorem take_splice {α : Type} (L : List α) (o n : Nat) (cs : List α) (hn : n ≤ o) (ho : o ≤ L.length) : (splice L o cs).take n = L.take n := by
  unfold splice
  rw [List.take_append_of_le_length (by simp; omega), List.take_take, Nat.min_eq_left hn]
theorem take_splice_to {α : Type} (L : List α) (o : Nat) (cs : List α) (ho : o ≤ L.length) : (splice L o cs).take (o + cs.length) = L.take o ++ cs := by
  unfold splice
  rw [← List.append_assoc, List.take_append_of_le_length (by simp; omega), List.take_of_length_le (by simp; omega)]

set_option maxHeartbeats 4000000 in
set_option maxRecDepth 1000000 in
theorem ndelete_any (g cap k J : Nat) (rs : List (Dg × Value)) (w : World) (hown : w.ownsRow 0 30 3 (.slice (some ⟨g, 0, none⟩) rs.length cap) rs.length (rs.flatMap dgCells)) (hone : ∀ r ∈ rs, r.2.oneCell' = true) (hk : k < rs.length) (hJ : J = k + 1) :
    Calls Try.prog 27 #[.slice (some ⟨g, 0, none⟩) rs.length cap, .int .i64 (k : Int), .int .i64 (J : Int)] w fun e w' => e = .returned (.slice (some ⟨g, 0, none⟩) (rs.length - 1) cap) ∧
      w'.ownsRow 0 30 3 (.slice (some ⟨g, 0, none⟩) (rs.length - 1) cap) (rs.length - 1) ((rs.eraseIdx k).flatMap dgCells) ∧ Kept w w' (fun i => i = g) := by
  obtain ⟨hlen, ⟨h0, _⟩ | ⟨g', cap', cur, hv, _, hg, hn, hm, hs, ht⟩⟩ := hown
  · cases h0
  cases hv
  obtain ⟨xs, hxs⟩ : ∃ xs, xs = rs.flatMap dgCells := ⟨_, rfl⟩
  rw [erase_flat3 dgCells (fun _ => rfl)]
  rw [← hxs] at ht hlen ⊢
  have hone' : ∀ u ∈ xs, u.oneCell' = true := by
    intro u hu
    rw [hxs] at hu
    obtain ⟨r, hr, hu2⟩ := List.mem_flatMap.1 hu
    simp only [dgCells, List.mem_cons, List.not_mem_nil, or_false] at hu2
    rcases hu2 with rfl | rfl | rfl
    · rfl
    · rfl
    · exact hone r hr
  generalize hN : rs.length = N at *
  clear hxs hN hone
  obtain ⟨news, hnews⟩ : ∃ news, news = xs.drop (J * 3) := ⟨_, rfl⟩
  have hnl : news.length = (N - J) * 3 := by rw [hnews, List.length_drop, hlen]; omega
  have hcell : ∀ i, w.drew.cell? ⟨g, i, none⟩ = cur[i]? := fun i => cell_of_row w g i _ _ _ hg
  have hcx : ∀ (i : Nat) (u : Value), xs[i]? = some u → cur[i]? = some u := by
    intro i u hu
    rw [← ht, List.getElem?_take] at hu
    split at hu
    · simpa using hu
    · cases hu
  obtain ⟨A, hA, hsrc⟩ : ∃ A : Addr, (if cap = J then some (⟨g, 0, none⟩ : Addr) else some ⟨g, J * 3, none⟩) = some A ∧ Hid (∀ (t : Nat) (u : Value), news[t]? = some u → w.drew.cell? (A.add t) = some u) := by
    by_cases h : cap = J
    · refine ⟨⟨g, 0, none⟩, by simp [h], fun t u hu => ?_⟩
      have h0 : news.length = 0 := by rw [hnl]; omega
      rw [List.length_eq_zero_iff.1 h0] at hu
      simp at hu
    · refine ⟨⟨g, J * 3, none⟩, by simp [h], fun t u hu => ?_⟩
      rw [hnews, List.getElem?_drop] at hu
      rw [Addr.add_at, hcell]
      exact hcx _ _ hu
  have s2 : Hid (∀ u ∈ news, u.oneCell' = true) := by
    intro u hu
    rw [hnews] at hu
    exact hone' u (List.mem_of_mem_drop hu)
  have hfr : ∀ i, w.drew.frozen? ⟨g, i, none⟩ = false := fun i => frozen_of_row w g i _ _ hg
  have s3 : Hid (∀ t, t < news.length → (w.drew.cell? ⟨g, 0 + k * 3 + t, none⟩).isSome = true ∧ w.drew.frozen? ⟨g, 0 + k * 3 + t, none⟩ = false) := by
    intro t ht'
    refine ⟨?_, hfr _⟩
    rw [hcell, Array.getElem?_eq_getElem (by omega)]; rfl
  have s1 : Hid (news.length = (N - J) * 3) := hnl
  obtain ⟨W1, hW1⟩ : ∃ W1, W1 = w.drew.setCells g (0 + k * 3) news := ⟨_, rfl⟩
  obtain ⟨hb1, hk1⟩ := setCells_block g news (0 + k * 3) w.drew cur 30 hg (by omega)
  rw [← hW1] at hb1 hk1
  have e1 : N - (k + (N - J)) = 1 := by omega
  have e2 : k + (N - J) = N - 1 := by omega
  have hcl : ∀ ty, (Builtin.clear_ #[34] ty #[.slice (some ⟨g, (k + (N - J)) * 3, none⟩) (N - (k + (N - J))) (cap - (k + (N - J)))]).run Try.prog W1 = .ok (.tuple #[]) (W1.setCells g ((k + (N - J)) * 3) [.int .i64 0, .int .i64 0, .slice none 0 0]) := fun ty => by
    rw [e1]
    exact run_clear_three W1 _ _ ty _ _ _ Try.underlying34 (fun w => by go_simp) rfl rfl rfl rfl g _ _ (fun j hj => by rw [cell_of_row W1 g _ _ _ _ hb1, Array.getElem?_eq_getElem (by simp; rw [length_splice _ _ _ (by simp; omega)]; simp; omega)]; rfl) (fun j _ => frozen_of_row W1 g _ _ _ hb1)
  have X : Hid (W1.heap[g]? = some (.cells (splice cur.toList (0 + k * 3) news).toArray 30 (0, 0))) := hb1
  have hW : Hid (W1 = w.drew.setCells g (0 + k * 3) news) := hW1
  have hkJ : Hid (J = k + 1) := hJ
  have hkc : k ≤ cap := by omega
  have hJc : J ≤ cap := by omega
  have hJN : J ≤ N := by omega
  have hMc : k + (N - J) < cap := by omega
  have hMc2 : ¬ cap = k + (N - J) := by omega
  have hMN : k + (N - J) ≤ N := by omega
  have hkJ2 : k < J := by omega
  have E2 : Hid (k + (N - J) = N - 1) := e2
  have HT : Hid (cur.toList.take (N * 3) = xs) := ht
  have HN : Hid (news = xs.drop (J * 3)) := hnews
  obtain ⟨i, hi, hz0, hz1, hz2⟩ := info_parts Try.infoDg
  clear hW1 hb1 hnews hnl hcell hcx hfr hJ e1 e2 ht
  unfold maxLen at hm
  go_enter Try.func27, Try.ntmps27
  go_wp2_with fail
  go_region_law (refine step_append_room rfl (.tmp 22) (.tmp 25) 34 rfl 30 i 3 Try.underlying34 hi hz1 g 0 k cap (by simp [Act.eval, Act.put]) A (N - J) (cap - J) news (by simp [Act.eval, Act.put]) s1.out hsrc.out s2.out (by omega) s3.out ?_; rw [← hW.out])
  go_wp2
  go_ret
  have hb1 := X.out
  have hJk := hkJ.out
  have e2 := E2.out
  have hnl := s1.out
  have hl1 : (splice cur.toList (0 + k * 3) news).length = cap * 3 := by rw [length_splice _ _ _ (by simp; omega)]; simpa using hs
  obtain ⟨hb2, hk2⟩ := setCells_block g [.int .i64 0, .int .i64 0, .slice none 0 0] ((k + (N - J)) * 3) W1 _ 30 hb1 (by simp only [List.size_toArray, hl1, List.length_cons, List.length_nil]; omega)
  refine ⟨by rw [e2]; rfl, ⟨?_, Or.inr ⟨g, cap, _, rfl, Nat.zero_le _, hb2, by omega, by unfold maxLen; omega, ?_, ?_⟩⟩, (kept_of_below (Below.refl w.heap.size w).drew (fun i => i = g)).trans (hk1.trans hk2 (fun _ _ e => e)) (fun _ _ e => e)⟩
  · rw [List.length_append, List.length_take, List.length_drop, hlen]; omega
  · simp only [List.size_toArray]
    rw [length_splice _ _ _ (by rw [hl1]; simp; omega), hl1]
  · simp only []
    rw [take_splice _ _ _ _ (by omega) (by rw [hl1]; omega), show (N - 1) * 3 = 0 + k * 3 + news.length by omega, take_splice_to _ _ _ (by simp; omega), HN.out, hJk, ← HT.out, List.take_take]
    congr 1
    congr 1
    omega

end Go.Proofs.Ytibgpbflchfbnaa
