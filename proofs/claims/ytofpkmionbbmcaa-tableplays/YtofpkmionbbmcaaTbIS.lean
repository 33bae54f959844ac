/- slices.Insert of one element and slices.Delete of one element at a slice of string that lies at the head of a block of its own. -/
import Derived.Test.YtofpkmionbbmcaaRows
import Derived.Test.YtofpkmionbbmcaaTbL
import Derived.Deep.CutRange
import Derived.Deep.DeepAppendRoom
namespace Go.Proofs.Ytofpkmionbbmcaa
open Go.RowKit

theorem Try.infoS : (Try.prog.info? 9).map (fun i => (i.zero, i.size, i.bytes)) = some (some (.string ⟨#[]⟩), 1, 16) := by kernel_rfl

set_option maxHeartbeats 4000000 in
set_option maxRecDepth 1000000 in
/-- There is room, and it does not come to the end: in place. (m: how many are put in.) -/
theorem insS_shift (g cap n i xb m : Nat) (hm1 : m = 1) (cur : Array Value) (xs x : List Value) (w : World) (hg : w.heap[g]? = some (.cells cur 9 (0, 0))) (hxb : w.heap[xb]? = some (.cells x.toArray 9 (0, 0))) (hne : xb ≠ g)
    (hi : i < n) (hroom : n + m ≤ cap) (hm : cap ≤ maxLen) (hs : cur.size = cap * 1) (ht : cur.toList.take (n * 1) = xs) (hl : xs.length = n * 1) (hx : x.length = m * 1) (h1 : ∀ u ∈ xs, u.oneCell' = true) (h1x : ∀ u ∈ x, u.oneCell' = true) :
    Calls Try.prog 42 #[.slice (some ⟨g, 0, none⟩) n cap, .int .i64 (i : Int), .slice (some ⟨xb, 0, none⟩) m 1] w fun e w' =>
      e = .returned (.slice (some ⟨g, 0, none⟩) (n + m) cap) ∧ w' = (w.drew.setCells g (i + m) (xs.drop (i))).setCells g (i) x := by
  have hz1 : ¬ ((m : Int) = 0) := by omega
  have hz2 : ¬ ((i : Int) = (n : Int)) := by omega
  have hz3 : ¬ (cap = i) := by omega
  have hz4 : ¬ (cap = i + m) := by omega
  have hsz : (Try.prog.info? 9).map (·.size) = some 1 := by kernel_rfl
  have hcell : ∀ j, w.drew.cell? ⟨g, j, none⟩ = cur[j]? := fun j => cell_of_row w g j _ _ _ hg
  have hov : ∀ lb cb, (callFunc 54 #[.slice (some ⟨xb, 0, none⟩) m 1, .slice (some ⟨g, i + m, none⟩) lb cb]).run Try.prog w = .ok (.value (.bool false)) w := fun lb cb => by
    rw [run_callFunc_extern Try.func54 (by kernel_rfl) (by kernel_rfl) (by kernel_rfl) (e := Extern.SlicesOverlaps.overlaps #[33, 33] #[4]) (by kernel_rfl),
      Lib.run_overlaps_apart w 33 4 9 Try.underlying33 1 (fun w => by go_simp) ⟨xb, 0, none⟩ ⟨g, i + m, none⟩ m 1 lb cb hne 9 9 (m * 1) cur.size (by simp [World.shape?, hxb, hx]) (by simp [World.shape?, hg]) (by omega) (frozen_of_row w xb _ _ _ hxb) (frozen_of_row w xb _ _ _ hxb)]
    rfl
  have hdl : (xs.drop (i)).length = (n - i) * 1 := by rw [List.length_drop, hl]; omega
  have hcp1 : ∀ ty dc sc, (Builtin.copy_ #[33, 33] ty #[.slice (some ⟨g, i + m, none⟩) (n + m - (i + m)) dc, .slice (some ⟨g, i, none⟩) (n + m - i) sc]).run Try.prog w.drew = .ok (goInt ((n - i : Nat) : Int)) (w.drew.setCells g (i + m) (xs.drop (i))) := fun ty dc sc =>
    run_copy_wide w.drew _ _ ty 9 1 g (i + m) (n + m - (i + m)) dc ⟨g, i, none⟩ (n + m - i) sc (n - i) (xs.drop (i)) Try.underlying33 hsz (by simp only [Nat.min_def]; split <;> omega) hdl
      (fun j v hj => by
        rw [Addr.add_at, hcell]
        rw [List.getElem?_drop, ← ht, List.getElem?_take] at hj
        split at hj
        · simpa using hj
        · cases hj)
      (fun j hj => by rw [hcell, Array.getElem?_eq_getElem (by omega)]; rfl) (fun j hj => frozen_of_row w g _ _ _ hg) (fun v hv => h1 v (List.mem_of_mem_drop hv))
  obtain ⟨W1, hW1⟩ : ∃ W1, W1 = w.drew.setCells g (i + m) (xs.drop (i)) := ⟨_, rfl⟩
  obtain ⟨hb1, hk1⟩ := setCells_block g (xs.drop (i)) (i + m) w.drew cur 9 hg (by omega)
  rw [← hW1] at hb1 hk1 hcp1
  have hx1 : W1.heap[xb]? = some (.cells x.toArray 9 (0, 0)) := (hk1.block xb (Array.getElem?_eq_some_iff.1 hxb).1 hne).trans hxb
  have hcp2 : ∀ ty dc, (Builtin.copy_ #[33, 33] ty #[.slice (some ⟨g, i, none⟩) (n + m - i) dc, .slice (some ⟨xb, 0, none⟩) m 1]).run Try.prog W1 = .ok (goInt (m : Int)) (W1.setCells g (i) x) := fun ty dc =>
    run_copy_wide W1 _ _ ty 9 1 g (i) (n + m - i) dc ⟨xb, 0, none⟩ m 1 m x Try.underlying33 hsz (by simp only [Nat.min_def]; split <;> omega) (by omega)
      (fun j v hj => by rw [Addr.add_at, cell_of_row W1 xb _ _ _ _ hx1]; simpa using hj)
      (fun j hj => by rw [cell_of_row W1 g _ _ _ _ hb1, Array.getElem?_eq_getElem (by rw [List.size_toArray, length_splice _ _ _ (by simp; omega)]; simp; omega)]; rfl) (fun j hj => frozen_of_row W1 g _ _ _ hb1) h1x
  have hW : Hid (W1 = w.drew.setCells g (i + m) (xs.drop (i))) := hW1
  have hin : i ≤ n := by omega
  have hw1 : IntKind.i64.wrap ((i : Int) + (m : Int)) = (i : Int) + (m : Int) := by unfold maxLen at hm; rw [IntKind.wrap_i64]; omega
  have hb1 : (0 : Int) ≤ (i : Int) + (m : Int) := by omega
  have htn : ((i : Int) + (m : Int)).toNat = i + m := by omega
  have hb3 : (i : Int) ≤ (n : Int) + (m : Int) := by omega
  have hc63 : cap ≤ 9223372036854775807 := by unfold maxLen at hm; omega
  have hm0 : 0 < m := by omega
  clear hW1 hb1 hk1 hx1 hdl hcell ht hl hs hm1 hm hx
  have hb1 : (0 : Int) ≤ (i : Int) + (m : Int) := by omega
  go_enter Try.func42, Try.ntmps42
  go_wp2_with (simp only [hov])
  go_region_law (refine step_copy_by rfl (.tmp 73) (.tmp 76) 33 33 rfl _ _ (by simp [Act.eval, Act.put]) (by simp [Act.eval, Act.put]) (hcp1 _ _ _) ?_)
  go_wp2_with (at_builtin; refine wpList_copy_by rfl (.tmp 80) (.tmp 81) 33 33 rfl _ _ rfl rfl (hcp2 _ _) ?_)
  go_ret
  exact ⟨rfl, by rw [hW.out]⟩

set_option maxHeartbeats 4000000 in
set_option maxRecDepth 1000000 in
/-- There is no room, and it does not come to the end: a new row. -/
theorem insS_grow (g cap n i xb m : Nat) (hm1 : m = 1) (cur : Array Value) (xs x : List Value) (w : World) (hg : w.heap[g]? = some (.cells cur 9 (0, 0))) (hxb : w.heap[xb]? = some (.cells x.toArray 9 (0, 0)))
    (hi : i < n) (hnc : n ≤ cap) (hroom : cap < n + m) (hn : n ≤ 1000000) (hs : cur.size = cap * 1) (ht : cur.toList.take (n * 1) = xs) (hl : xs.length = n * 1) (hx : x.length = m * 1) (h1 : ∀ u ∈ xs, u.oneCell' = true) (h1x : ∀ u ∈ x, u.oneCell' = true) :
    Calls Try.prog 42 #[.slice (some ⟨g, 0, none⟩) n cap, .int .i64 (i : Int), .slice (some ⟨xb, 0, none⟩) m 1] w fun e w' =>
      ∃ (G : Nat) (ROW : Array Value), e = .returned (.slice (some ⟨w.heap.size, 0, none⟩) (n + m) G) ∧ (n + m ≤ G ∧ G ≤ maxLen) ∧ ROW.size = G * 1 ∧ ROW.toList.take (i) = xs.take (i) ∧ Kept w w' (fun _ => False) ∧
      w'.heap[w.heap.size]? = some (.cells (splice (splice ROW.toList (i) x) (i + m) (xs.drop (i))).toArray 9 (0, 0)) := by
  obtain ⟨i0, hi0, hz0, hzs, hzb⟩ := info_parts Try.infoS
  have hz1 : ¬ ((m : Int) = 0) := by omega
  have hz2 : ¬ ((i : Int) = (n : Int)) := by omega
  have hz3 : (cap : Int) < (n : Int) + (m : Int) := by omega
  have hsz : (Try.prog.info? 9).map (·.size) = some 1 := by kernel_rfl
  have hgw : g < w.heap.size := (Array.getElem?_eq_some_iff.1 hg).1
  have hxw : xb < w.heap.size := (Array.getElem?_eq_some_iff.1 hxb).1
  have hcx : ∀ (j : Nat) (u : Value), xs[j]? = some u → cur[j]? = some u := by
    intro j u hu
    rw [← ht, List.getElem?_take] at hu
    split at hu
    · simpa using hu
    · cases hu
  have hkk : (n : Int) + (m : Int) - (i : Int) = ((n + m - i : Nat) : Int) := by omega
  have hik : i + (n + m - i) = n + m := by omega
  have hold : (Builtin.firstCells i0.size i (.slice (some ⟨g, 0, none⟩) i cap)).run Try.prog w.drew = .ok (xs.take (i)).toArray w.drew := by
    rw [hzs]
    exact run_firstCells_some w.drew 1 i ⟨g, 0, none⟩ i cap (xs.take (i)) (by rw [List.length_take, hl]; omega) (fun j v hj => by
      rw [List.getElem?_take] at hj
      split at hj
      · show w.cell? _ = _
        rw [Addr.add_at, Nat.zero_add, cell_of_row w g j _ _ _ hg]
        exact hcx j v hj
      · cases hj)
  have hrz : ∀ ty, (Builtin.append_ #[33, 3] ty #[.slice (some ⟨g, 0, none⟩) i cap, .int .i64 ((n : Int) + (m : Int) - (i : Int))]).run Try.prog w =
      .ok (.slice (some ⟨w.heap.size, 0, none⟩) (n + m) (grownCap w (n + m) cap 9)) (w.drew.alloc (.cells ((xs.take (i)).toArray ++ Builtin.zeroCells (Value.cells (.string ⟨#[]⟩)) (n + m - i) ++ Builtin.zeroCells (Value.cells (.string ⟨#[]⟩)) (grownCap w (n + m) cap 9 - (n + m))) 9)) := fun ty => by
    have h := Lib.run_append_grow_zeros w 33 3 ty 9 i0 _ .i64 .i64 Try.underlying33 Try.underlying3 hi0 hz0 (some ⟨g, 0, none⟩) i cap (xs.take (i)) hold (n + m - i) (by omega) (by omega) (by omega) (by omega) (by rw [hzb]; omega) (by rw [hzb, hik]; exact growslice_fits hroom (by omega))
    rw [hik] at h
    rw [hkk]
    exact h
  obtain ⟨G, hG⟩ : ∃ G, G = grownCap w (n + m) cap 9 := ⟨_, rfl⟩
  have hGn : n + m ≤ G := by rw [hG]; exact grownCap_ge w _ _ _
  have hGm : G ≤ maxLen := by rw [hG]; exact grownCap_le_maxLen w (n + m) cap _ (by unfold maxLen; omega)
  obtain ⟨ROW, hROW⟩ : ∃ ROW : Array Value, ROW = (xs.take (i)).toArray ++ Builtin.zeroCells (Value.cells (.string ⟨#[]⟩)) (n + m - i) ++ Builtin.zeroCells (Value.cells (.string ⟨#[]⟩)) (G - (n + m)) := ⟨_, rfl⟩
  rw [← hG] at hrz
  rw [← hROW] at hrz
  have hzc : (Value.cells (.string ⟨#[]⟩)).size = 1 := rfl
  have hRl : ROW.size = G * 1 := by
    rw [hROW, Array.size_append, Array.size_append, size_zeroCells, size_zeroCells, hzc, List.size_toArray, List.length_take, hl]
    omega
  have hRt : ROW.toList.take (i) = xs.take (i) := by
    rw [hROW, Array.toList_append, Array.toList_append, List.append_assoc, List.take_append_of_le_length (by simp [hl]; omega)]
    show (xs.take (i)).take (i) = _
    rw [List.take_take, Nat.min_self]
  obtain ⟨W1, hW1⟩ : ∃ W1, W1 = w.drew.alloc (.cells ROW 9) := ⟨_, rfl⟩
  rw [← hW1] at hrz
  have hb1 : W1.heap[w.heap.size]? = some (.cells ROW 9 (0, 0)) := by rw [hW1]; exact heap_alloc_new w.drew _
  have hk1 : Kept w W1 (fun _ => False) := by rw [hW1]; exact ⟨rfl, rfl, rfl, by simp, fun k hk _ => Below.heap_alloc w.drew _ k hk⟩
  have hg1 := (hk1.block g hgw id).trans hg
  have hx1 := (hk1.block xb hxw id).trans hxb
  have hcpA : ∀ ty dc, (Builtin.copy_ #[33, 33] ty #[.slice (some ⟨w.heap.size, i, none⟩) (n + m - i) dc, .slice (some ⟨xb, 0, none⟩) m 1]).run Try.prog W1 = .ok (goInt (m : Int)) (W1.setCells w.heap.size (i) x) := fun ty dc =>
    run_copy_wide W1 _ _ ty 9 1 w.heap.size (i) (n + m - i) dc ⟨xb, 0, none⟩ m 1 m x Try.underlying33 hsz (by simp only [Nat.min_def]; split <;> omega) (by omega)
      (fun j v hj => by rw [Addr.add_at, cell_of_row W1 xb _ _ _ _ hx1]; simpa using hj)
      (fun j hj => by rw [cell_of_row W1 _ _ _ _ _ hb1, Array.getElem?_eq_getElem (by omega)]; rfl) (fun j hj => frozen_of_row W1 _ _ _ _ hb1) h1x
  obtain ⟨W2, hW2⟩ : ∃ W2, W2 = W1.setCells w.heap.size (i) x := ⟨_, rfl⟩
  obtain ⟨hb2, hk2⟩ := setCells_block w.heap.size x (i) W1 ROW 9 hb1 (by omega)
  rw [← hW2] at hb2 hk2 hcpA
  have hg2 := (hk2.block g (Array.getElem?_eq_some_iff.1 hg1).1 (by show ¬ g = w.heap.size; omega)).trans hg1
  have hdl : (xs.drop (i)).length = (n - i) * 1 := by rw [List.length_drop, hl]; omega
  have hls : (splice ROW.toList (i) x).length = G * 1 := by rw [length_splice _ _ _ (by simp; omega)]; simpa using hRl
  have hcpB : ∀ ty dc sc, (Builtin.copy_ #[33, 33] ty #[.slice (some ⟨w.heap.size, i + m, none⟩) (n + m - (i + m)) dc, .slice (some ⟨g, i, none⟩) (n - i) sc]).run Try.prog W2.drew = .ok (goInt ((n - i : Nat) : Int)) (W2.drew.setCells w.heap.size (i + m) (xs.drop (i))) := fun ty dc sc =>
    run_copy_wide W2.drew _ _ ty 9 1 w.heap.size (i + m) (n + m - (i + m)) dc ⟨g, i, none⟩ (n - i) sc (n - i) (xs.drop (i)) Try.underlying33 hsz (by simp only [Nat.min_def]; split <;> omega) hdl
      (fun j v hj => by
        show W2.cell? _ = _
        rw [Addr.add_at, cell_of_row W2 g _ _ _ _ hg2]
        rw [List.getElem?_drop] at hj
        exact hcx _ v hj)
      (fun j hj => by
        show (W2.cell? _).isSome = true
        rw [cell_of_row W2 _ _ _ _ _ hb2, Array.getElem?_eq_getElem (by rw [List.size_toArray, hls]; omega)]; rfl) (fun j hj => frozen_of_row W2 _ _ _ _ hb2) (fun v hv => h1 v (List.mem_of_mem_drop hv))
  obtain ⟨W3, hW3⟩ : ∃ W3, W3 = W2.drew.setCells w.heap.size (i + m) (xs.drop (i)) := ⟨_, rfl⟩
  obtain ⟨hb3, hk3⟩ := setCells_block w.heap.size (xs.drop (i)) (i + m) W2.drew _ 9 hb2 (by rw [List.size_toArray, hls]; omega)
  rw [← hW3] at hb3 hk3 hcpB
  have hkA : Hid (Kept w W3 (fun _ => False)) := by
    have h12 : Kept w W2 (fun _ => False) := hk1.trans hk2 (fun k hk e => by have e' : k = w.heap.size := e; omega)
    have h2d : Kept W2 W2.drew (fun _ => False) := ⟨rfl, rfl, rfl, Nat.le_refl _, fun _ _ _ => rfl⟩
    exact (h12.trans h2d (fun _ _ e => e)).trans hk3 (fun k hk e => by have e' : k = w.heap.size := e; omega)
  have hbA : Hid _ := hidden hb3
  have hRA : Hid (ROW.size = G * 1 ∧ ROW.toList.take (i) = xs.take (i)) := ⟨hRl, hRt⟩
  have hGA : Hid (n + m ≤ G ∧ G ≤ maxLen) := ⟨hGn, hGm⟩
  have hG63 : G ≤ 9223372036854775807 := by unfold maxLen at hGm; omega
  have hGi : ¬ (G = i) := by omega
  have hGim : ¬ (G = i + m) := by omega
  have hci : ¬ (cap = i) := by omega
  have hw1 : IntKind.i64.wrap ((i : Int) + (m : Int)) = (i : Int) + (m : Int) := by rw [IntKind.wrap_i64]; omega
  have hq1 : (0 : Int) ≤ (i : Int) + (m : Int) := by omega
  have hin : i ≤ n := by omega
  have htn : ((i : Int) + (m : Int)).toNat = i + m := by omega
  have hq3 : (i : Int) ≤ (n : Int) := by omega
  have hm0 : 0 < m := by omega
  have hn63 : n + m ≤ 9223372036854775807 := by omega
  have hHS : Hid (w.heap.size = w.heap.size) := rfl
  generalize hB : w.heap.size = B at *
  clear hkk hik hold hROW hG hRl hRt hW1 hW2 hW3 hb1 hk1 hg1 hx1 hb2 hk2 hg2 hdl hls hb3 hk3 hcx hs ht hl hx hm1 hi0 hz0 hzs hzb hgw hxw hGm hzc hB
  go_enter Try.func42, Try.ntmps42
  go_wp2_with (first
    | (at_builtin; refine Lib.wpList_append_run _ rfl (.tmp 34) (.tmp 39) 33 3 rfl _ _ rfl rfl _ _ (hrz _) ?_)
    | (at_builtin; refine wpList_copy_by rfl (.tmp 43) (.tmp 44) 33 33 rfl _ _ rfl rfl (hcpA _ _) ?_))
  go_region_law (refine step_copy_by rfl (.tmp 50) (.tmp 53) 33 33 rfl _ _ (by simp [Act.eval, Act.put]) (by simp [Act.eval, Act.put]) (hcpB _ _ _) ?_)
  go_wp2
  go_ret
  exact ⟨G, ROW, rfl, hGA.out, hRA.out.1, hRA.out.2, hkA.out, hbA.out⟩

set_option maxHeartbeats 4000000 in
set_option maxRecDepth 1000000 in
/-- It comes to the end. -/
theorem insS_end (v : Value) (n xb : Nat) (xs x : List Value) (w : World) (hown : w.ownsRow 0 9 1 v n xs) (hn : n ≤ 1000000) (hxb : w.heap[xb]? = some (.cells x.toArray 9 (0, 0))) (hx : x.length = 1) (h1x : ∀ u ∈ x, u.oneCell' = true) :
    Calls Try.prog 42 #[v, .int .i64 (n : Int), .slice (some ⟨xb, 0, none⟩) 1 1] w fun e w' =>
      ∃ v', e = .returned v' ∧ w'.ownsRow 0 9 1 v' (n + 1) (xs ++ x) ∧ Kept w w' (fun k => v.ownBlock = some k) ∧ Moved w v v' := by
  obtain ⟨i0, hi0, hz0, hzs, hzb⟩ := info_parts Try.infoS
  have hsr : Sr w (.slice (some ⟨xb, 0, none⟩) 1 1) 1 1 x := ⟨by omega, Or.inr ⟨_, _, rfl, fun j u hj => by rw [Addr.add_at, cell_of_row w xb _ _ _ _ hxb]; simpa using hj⟩, h1x⟩
  have HS : Hid _ := hidden hsr
  have HO : Hid _ := hidden hown
  obtain ⟨ao, cap, rfl, hnc, hcm, hao⟩ := own_slice hown
  unfold maxLen at hcm
  clear hsr hown hxb
  cases ao with
  | none =>
    have h0 := hao rfl
    subst h0
    have h0 : n = 0 := by omega
    subst h0
    clear hao
    go_enter Try.func42, Try.ntmps42
    go_wp2_with (at_builtin; refine wpList_append_sr rfl (.tmp 23) (.tmp 24) 33 rfl 9 i0 _ 1 16 Try.underlying33 hi0 hz0 hzs hzb rfl (by omega) 0 _ 0 xs rfl HO.out _ 1 x rfl HS.out (by omega) (by omega) (Nat.zero_le _) ?_; intro v' w' ho' hk' hm')
    go_ret
    exact ⟨v', rfl, ho', hk', hm'⟩
  | some ad =>
    clear hao
    by_cases hcn : cap = n
    · subst hcn
      go_enter Try.func42, Try.ntmps42
      go_wp2_with (at_builtin; refine wpList_append_sr rfl (.tmp 23) (.tmp 24) 33 rfl 9 i0 _ 1 16 Try.underlying33 hi0 hz0 hzs hzb rfl (by omega) 0 _ cap xs rfl HO.out _ 1 x rfl HS.out (by omega) (by omega) (Nat.zero_le _) ?_; intro v' w' ho' hk' hm')
      go_ret
      exact ⟨v', rfl, ho', hk', hm'⟩
    · go_enter Try.func42, Try.ntmps42
      go_wp2_with (at_builtin; refine wpList_append_sr rfl (.tmp 23) (.tmp 24) 33 rfl 9 i0 _ 1 16 Try.underlying33 hi0 hz0 hzs hzb rfl (by omega) 0 _ n xs rfl HO.out _ 1 x rfl HS.out (by omega) (by omega) (Nat.zero_le _) ?_; intro v' w' ho' hk' hm')
      go_ret
      exact ⟨v', rfl, ho', hk', hm'⟩

/-- slices.Insert of one element. -/
theorem insS_any (v : Value) (n i xb : Nat) (xs x : List Value) (w : World) (hown : w.ownsRow 0 9 1 v n xs) (hi : i ≤ n) (hn : n ≤ 1000000) (hxb : w.heap[xb]? = some (.cells x.toArray 9 (0, 0))) (hx : x.length = 1) (hne : v.ownBlock ≠ some xb) (h1 : ∀ u ∈ xs, u.oneCell' = true) (h1x : ∀ u ∈ x, u.oneCell' = true) :
    Calls Try.prog 42 #[v, .int .i64 (i : Int), .slice (some ⟨xb, 0, none⟩) 1 1] w fun e w' =>
      ∃ v', e = .returned v' ∧ w'.ownsRow 0 9 1 v' (n + 1) (xs.take (i * 1) ++ (x ++ xs.drop (i * 1))) ∧ Kept w w' (fun k => v.ownBlock = some k) ∧ Moved w v v' := by
  by_cases hin : i = n
  · subst hin
    have hl := hown.1
    rw [List.take_of_length_le (by omega), List.drop_of_length_le (by omega), List.append_nil]
    exact insS_end v i xb xs x w hown hn hxb hx h1x
  · have hlx := hown.1
    obtain ⟨hl, ⟨rfl, h0⟩ | ⟨g, cap, cur, rfl, _, hg, hnc, hcm, hs, ht⟩⟩ := hown
    · omega
    · have hxg : xb ≠ g := fun e => hne (by rw [e]; rfl)
      have htl : cur.toList.take xs.length = xs := by rw [hl]; exact ht
      by_cases hroom : n + 1 ≤ cap
      · refine (insS_shift g cap n i xb 1 rfl cur xs x w hg hxb hxg (by omega) hroom hcm hs ht hl (by omega) h1 h1x).mono ?_
        rintro e w' ⟨rfl, rfl⟩
        obtain ⟨hb1, hk1⟩ := setCells_block g (xs.drop (i)) (i + 1) w.drew cur 9 hg (by simp; omega)
        obtain ⟨hb2, hk2⟩ := setCells_block g x (i) _ _ 9 hb1 (by rw [List.size_toArray, length_splice _ _ _ (by simp; omega)]; simp; omega)
        refine ⟨_, rfl, ⟨by simp; omega, Or.inr ⟨g, cap, _, rfl, Nat.zero_le _, hb2, hroom, hcm, ?_, ?_⟩⟩, ?_, fun k hk => Or.inl hk⟩
        · rw [List.size_toArray, length_splice _ _ _ (by simp only []; rw [length_splice _ _ _ (by simp; omega)]; simp; omega)]
          simp only []
          rw [length_splice _ _ _ (by simp; omega)]
          simpa using hs
        · have q := splice_shift cur.toList xs x (i) (by omega) htl (by simp; omega)
          rw [show i + x.length = i + 1 by omega, show xs.length + x.length = (n + 1) * 1 by omega] at q
          have e : i * 1 = i := by omega
          simp only [e]
          exact q
        · have hd : Kept w w.drew (fun k => (Value.slice (some ⟨g, 0, none⟩) n cap).ownBlock = some k) := ⟨rfl, rfl, rfl, Nat.le_refl _, fun _ _ _ => rfl⟩
          exact hd.trans (hk1.trans hk2 (fun _ _ e => e)) (fun k _ e => by have e' : k = g := e; rw [e']; rfl)
      · refine (insS_grow g cap n i xb 1 rfl cur xs x w hg hxb (by omega) hnc (by omega) hn hs ht hl (by omega) h1 h1x).mono ?_
        rintro e w' ⟨G, ROW, rfl, hG, hRl, hRt, hk, hb⟩
        refine ⟨_, rfl, ⟨by simp; omega, Or.inr ⟨w.heap.size, G, _, rfl, Nat.zero_le _, hb, hG.1, hG.2, ?_, ?_⟩⟩, hk.mono (fun _ _ e => e.elim), fun k hk => Or.inr ?_⟩
        · rw [List.size_toArray, length_splice _ _ _ (by rw [length_splice _ _ _ (by simp; omega)]; simp; omega), length_splice _ _ _ (by simp; omega)]
          simpa using hRl
        · have q := splice_grow ROW.toList xs x (i) (by omega) hRt (by simp; omega)
          rw [show i + x.length = i + 1 by omega, show xs.length + x.length = (n + 1) * 1 by omega] at q
          have e : i * 1 = i := by omega
          simp only [e]
          exact q
        · simp only [Value.ownBlock, Option.some.injEq] at hk
          omega

set_option maxHeartbeats 4000000 in
set_option maxRecDepth 1000000 in
/-- slices.Delete of one element. -/
theorem delS_any (g cap N k J : Nat) (xs : List Value) (w : World) (hown : w.ownsRow 0 9 1 (.slice (some ⟨g, 0, none⟩) N cap) N xs) (hone' : ∀ u ∈ xs, u.oneCell' = true) (hk : k < N) (hJ : J = k + 1) :
    Calls Try.prog 44 #[.slice (some ⟨g, 0, none⟩) N cap, .int .i64 (k : Int), .int .i64 (J : Int)] w fun e w' => e = .returned (.slice (some ⟨g, 0, none⟩) (N - 1) cap) ∧
      w'.ownsRow 0 9 1 (.slice (some ⟨g, 0, none⟩) (N - 1) cap) (N - 1) (xs.take (k * 1) ++ xs.drop ((k + 1) * 1)) ∧ Kept w w' (fun i => i = g) := by
  obtain ⟨hlen, ⟨h0, _⟩ | ⟨g', cap', cur, hv, _, hg, hn, hm, hs, ht⟩⟩ := hown
  · cases h0
  cases hv
  obtain ⟨news, hnews⟩ : ∃ news, news = xs.drop (J * 1) := ⟨_, rfl⟩
  have hnl : news.length = (N - J) * 1 := by rw [hnews, List.length_drop, hlen]; omega
  have hcell : ∀ i, w.drew.cell? ⟨g, i, none⟩ = cur[i]? := fun i => cell_of_row w g i _ _ _ hg
  have hcx : ∀ (i : Nat) (u : Value), xs[i]? = some u → cur[i]? = some u := by
    intro i u hu
    rw [← ht, List.getElem?_take] at hu
    split at hu
    · simpa using hu
    · cases hu
  obtain ⟨A, hA, hsrc⟩ : ∃ A : Addr, (if cap = J then some (⟨g, 0, none⟩ : Addr) else some ⟨g, J, none⟩) = some A ∧ Hid (∀ (t : Nat) (u : Value), news[t]? = some u → w.drew.cell? (A.add t) = some u) := by
    by_cases h : cap = J
    · refine ⟨⟨g, 0, none⟩, by simp [h], fun t u hu => ?_⟩
      have h0 : news.length = 0 := by rw [hnl]; omega
      rw [List.length_eq_zero_iff.1 h0] at hu
      simp at hu
    · refine ⟨⟨g, J, none⟩, by simp [h], fun t u hu => ?_⟩
      rw [hnews, List.getElem?_drop] at hu
      rw [Addr.add_at, hcell]
      exact hcx _ _ (by rw [show J + t = J * 1 + t by omega]; exact hu)
  have s2 : Hid (∀ u ∈ news, u.oneCell' = true) := by
    intro u hu
    rw [hnews] at hu
    exact hone' u (List.mem_of_mem_drop hu)
  have hfr : ∀ i, w.drew.frozen? ⟨g, i, none⟩ = false := fun i => frozen_of_row w g i _ _ hg
  have s3 : Hid (∀ t, t < news.length → (w.drew.cell? ⟨g, 0 + k * 1 + t, none⟩).isSome = true ∧ w.drew.frozen? ⟨g, 0 + k * 1 + t, none⟩ = false) := by
    intro t ht'
    refine ⟨?_, hfr _⟩
    rw [hcell, Array.getElem?_eq_getElem (by omega)]; rfl
  have s1 : Hid (news.length = (N - J) * 1) := hnl
  obtain ⟨W1, hW1⟩ : ∃ W1, W1 = w.drew.setCells g (0 + k * 1) news := ⟨_, rfl⟩
  obtain ⟨hb1, hk1⟩ := setCells_block g news (0 + k * 1) w.drew cur 9 hg (by omega)
  rw [← hW1] at hb1 hk1
  have e1 : N - (k + (N - J)) = 1 := by omega
  have e2 : k + (N - J) = N - 1 := by omega
  have hcl : ∀ ty, (Builtin.clear_ #[33] ty #[.slice (some ⟨g, k + (N - J), none⟩) (N - (k + (N - J))) (cap - (k + (N - J)))]).run Try.prog W1 = .ok (.tuple #[]) (W1.setCells g (k + (N - J)) (Value.cells (.string ⟨#[]⟩)).toList) := fun ty => by
    rw [e1]
    exact run_clear_one W1 _ _ ty _ Try.underlying33 (fun w => by go_simp) (by simp [Value.cells, Value.oneCell']) g _ _ (fun j hj => by have hj' : j < 1 := hj; rw [cell_of_row W1 g _ _ _ _ hb1, Array.getElem?_eq_getElem (by simp; rw [length_splice _ _ _ (by simp; omega)]; simp; omega)]; rfl) (fun j _ => frozen_of_row W1 g _ _ _ hb1)
  obtain ⟨ZC, hZC⟩ : ∃ ZC, ZC = (Value.cells (.string ⟨#[]⟩)).toList := ⟨_, rfl⟩
  have hZl : Hid (ZC.length = 1) := by rw [hZC]; exact (rfl : _ = _)
  rw [← hZC] at hcl
  have X : Hid (W1.heap[g]? = some (.cells (splice cur.toList (0 + k * 1) news).toArray 9 (0, 0))) := hb1
  have hW : Hid (W1 = w.drew.setCells g (0 + k * 1) news) := hW1
  have hkJ : Hid (J = k + 1) := hJ
  have hkc : k ≤ cap := by omega
  have hJc : J ≤ cap := by omega
  have hJN : J ≤ N := by omega
  have hMc : k + (N - J) < cap := by omega
  have hMc2 : ¬ cap = k + (N - J) := by omega
  have hMN : k + (N - J) ≤ N := by omega
  have hkJ2 : k < J := by omega
  have E2 : Hid (k + (N - J) = N - 1) := e2
  have HT : Hid (cur.toList.take (N * 1) = xs) := ht
  have HN : Hid (news = xs.drop (J * 1)) := hnews
  obtain ⟨i, hi, hz0, hz1, hz2⟩ := info_parts Try.infoS
  clear hW1 hb1 hnews hnl hcell hcx hfr hJ e1 e2 ht hZC
  unfold maxLen at hm
  go_enter Try.func44, Try.ntmps44
  go_wp2_with fail
  go_region_law (refine step_append_room rfl (.tmp 22) (.tmp 25) 33 rfl 9 i 1 Try.underlying33 hi hz1 g 0 k cap (by simp [Act.eval, Act.put]) A (N - J) (cap - J) news (by simp [Act.eval, Act.put]) s1.out hsrc.out s2.out (by omega) s3.out ?_; rw [← hW.out])
  go_wp2
  go_ret
  have hb1 := X.out
  have hJk := hkJ.out
  have e2 := E2.out
  have hnl := s1.out
  have hzl := hZl.out
  have hl1 : (splice cur.toList (0 + k * 1) news).length = cap * 1 := by rw [length_splice _ _ _ (by simp; omega)]; simpa using hs
  obtain ⟨hb2, hk2⟩ := setCells_block g ZC (k + (N - J)) W1 _ 9 hb1 (by simp only [List.size_toArray, hl1]; omega)
  refine ⟨by rw [e2]; rfl, ⟨?_, Or.inr ⟨g, cap, _, rfl, Nat.zero_le _, hb2, by omega, by unfold maxLen; omega, ?_, ?_⟩⟩, (kept_of_below (Below.refl w.heap.size w).drew (fun i => i = g)).trans (hk1.trans hk2 (fun _ _ e => e)) (fun _ _ e => e)⟩
  · rw [List.length_append, List.length_take, List.length_drop, hlen]; omega
  · simp only [List.size_toArray]
    rw [length_splice _ _ _ (by rw [hl1]; omega), hl1]
  · simp only []
    rw [take_splice _ _ _ _ (by omega) (by rw [hl1]; omega), show (N - 1) * 1 = 0 + k * 1 + news.length by omega, take_splice_to _ _ _ (by simp; omega), HN.out, hJk, ← HT.out, List.take_take]
    congr 1
    congr 1
    omega

end Go.Proofs.Ytofpkmionbbmcaa
