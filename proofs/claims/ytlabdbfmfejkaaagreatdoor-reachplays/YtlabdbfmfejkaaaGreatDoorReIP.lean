import Derived.Test.YtlabdbfmfejkaaaGreatDoorRows
import Derived.Test.YtlabdbfmfejkaaaGreatDoorTbLP
import Derived.Deep.CutRange
import Derived.Deep.DeepAppendRoom
import Derived.Test.YtlabdbfmfejkaaaGreatDoorReMP
import Derived.Test.YtlabdbfmfejkaaaGreatDoorPaKP
import Derived.Deep.LoopGhost
import Derived.BigQuiet
import Derived.Test.YtlabdbfmfejkaaaGreatDoorReDP
import Derived.Laws.EntriesVeiled
import Derived.WalkSpells
import Derived.BigRegion
/- slices.Insert of one element and slices.Delete of one element at a slice of api.ID that lies at the head of a block of its own. -/
/- The comparison of IDs, and slices.BinarySearchFunc over IDs that rise. -/
/- A row's meet, and a row that begins. -/
/- A row that begins. -/
/- A row is ended; the place moves on. -/
/- The rows that are ended, told. -/
/- The law's own hand: whether lists of IDs, rows are alike. -/
namespace Go.Proofs.YtlabdbfmfejkaaaGreatDoor
open Go.RowKit

theorem Tryz.infoD : (Tryz.prog.info? 55).map (fun i => (i.zero, i.size, i.bytes)) = some (some (.agg #[.int .i64 0, .int .u64 0]), 2, 16) := by kernel_rfl

set_option maxHeartbeats 4000000 in
set_option maxRecDepth 1000000 in
/-- There is room, and it does not come to the end: in place. (m: how many are put in.) -/
theorem insD_shift (g cap n i xb m : Nat) (hm1 : m = 1) (cur : Array Value) (xs x : List Value) (w : World) (hg : w.heap[g]? = some (.cells cur 55 (0, 0))) (hxb : w.heap[xb]? = some (.cells x.toArray 55 (0, 0))) (hne : xb ≠ g)
    (hi : i < n) (hroom : n + m ≤ cap) (hm : cap ≤ maxLen) (hs : cur.size = cap * 2) (ht : cur.toList.take (n * 2) = xs) (hl : xs.length = n * 2) (hx : x.length = m * 2) (h1 : ∀ u ∈ xs, u.oneCell' = true) (h1x : ∀ u ∈ x, u.oneCell' = true) :
    Calls Tryz.prog 87 #[.slice (some ⟨g, 0, none⟩) n cap, .int .i64 (i : Int), .slice (some ⟨xb, 0, none⟩) m 1] w fun e w' =>
      e = .returned (.slice (some ⟨g, 0, none⟩) (n + m) cap) ∧ w' = (w.drew.setCells g ((i + m) * 2) (xs.drop (i * 2))).setCells g (i * 2) x := by
  have hz1 : ¬ ((m : Int) = 0) := by omega
  have hz2 : ¬ ((i : Int) = (n : Int)) := by omega
  have hz3 : ¬ (cap = i) := by omega
  have hz4 : ¬ (cap = i + m) := by omega
  have hsz : (Tryz.prog.info? 55).map (·.size) = some 2 := by kernel_rfl
  have hcell : ∀ j, w.drew.cell? ⟨g, j, none⟩ = cur[j]? := fun j => cell_of_row w g j _ _ _ hg
  have hov : ∀ lb cb, (callFunc 94 #[.slice (some ⟨xb, 0, none⟩) m 1, .slice (some ⟨g, (i + m) * 2, none⟩) lb cb]).run Tryz.prog w = .ok (.value (.bool false)) w := fun lb cb => by
    rw [run_callFunc_extern Tryz.func94 (by kernel_rfl) (by kernel_rfl) (by kernel_rfl) (e := Extern.SlicesOverlaps.overlaps #[46, 46] #[4]) (by kernel_rfl),
      Lib.run_overlaps_apart w 46 4 55 Tryz.underlying46 2 (fun w => by go_simp) ⟨xb, 0, none⟩ ⟨g, (i + m) * 2, none⟩ m 1 lb cb hne 55 55 (m * 2) cur.size (by simp [World.shape?, hxb, hx]) (by simp [World.shape?, hg]) (by omega) (frozen_of_row w xb _ _ _ hxb) (frozen_of_row w xb _ _ _ hxb)]
    rfl
  have hdl : (xs.drop (i * 2)).length = (n - i) * 2 := by rw [List.length_drop, hl]; omega
  have hcp1 : ∀ ty dc sc, (Builtin.copy_ #[46, 46] ty #[.slice (some ⟨g, (i + m) * 2, none⟩) (n + m - (i + m)) dc, .slice (some ⟨g, i * 2, none⟩) (n + m - i) sc]).run Tryz.prog w.drew = .ok (goInt ((n - i : Nat) : Int)) (w.drew.setCells g ((i + m) * 2) (xs.drop (i * 2))) := fun ty dc sc =>
    run_copy_wide w.drew _ _ ty 55 2 g ((i + m) * 2) (n + m - (i + m)) dc ⟨g, i * 2, none⟩ (n + m - i) sc (n - i) (xs.drop (i * 2)) Tryz.underlying46 hsz (by simp only [Nat.min_def]; split <;> omega) hdl
      (fun j v hj => by
        rw [Addr.add_at, hcell]
        rw [List.getElem?_drop, ← ht, List.getElem?_take] at hj
        split at hj
        · simpa using hj
        · cases hj)
      (fun j hj => by rw [hcell, Array.getElem?_eq_getElem (by omega)]; rfl) (fun j hj => frozen_of_row w g _ _ _ hg) (fun v hv => h1 v (List.mem_of_mem_drop hv))
  obtain ⟨W1, hW1⟩ : ∃ W1, W1 = w.drew.setCells g ((i + m) * 2) (xs.drop (i * 2)) := ⟨_, rfl⟩
  obtain ⟨hb1, hk1⟩ := setCells_block g (xs.drop (i * 2)) ((i + m) * 2) w.drew cur 55 hg (by omega)
  rw [← hW1] at hb1 hk1 hcp1
  have hx1 : W1.heap[xb]? = some (.cells x.toArray 55 (0, 0)) := (hk1.block xb (Array.getElem?_eq_some_iff.1 hxb).1 hne).trans hxb
  have hcp2 : ∀ ty dc, (Builtin.copy_ #[46, 46] ty #[.slice (some ⟨g, i * 2, none⟩) (n + m - i) dc, .slice (some ⟨xb, 0, none⟩) m 1]).run Tryz.prog W1 = .ok (goInt (m : Int)) (W1.setCells g (i * 2) x) := fun ty dc =>
    run_copy_wide W1 _ _ ty 55 2 g (i * 2) (n + m - i) dc ⟨xb, 0, none⟩ m 1 m x Tryz.underlying46 hsz (by simp only [Nat.min_def]; split <;> omega) (by omega)
      (fun j v hj => by rw [Addr.add_at, cell_of_row W1 xb _ _ _ _ hx1]; simpa using hj)
      (fun j hj => by rw [cell_of_row W1 g _ _ _ _ hb1, Array.getElem?_eq_getElem (by rw [List.size_toArray, length_splice _ _ _ (by simp; omega)]; simp; omega)]; rfl) (fun j hj => frozen_of_row W1 g _ _ _ hb1) h1x
  have hW : Hid (W1 = w.drew.setCells g ((i + m) * 2) (xs.drop (i * 2))) := hW1
  have hin : i ≤ n := by omega
  have hw1 : IntKind.i64.wrap ((i : Int) + (m : Int)) = (i : Int) + (m : Int) := by unfold maxLen at hm; rw [IntKind.wrap_i64]; omega
  have hb1 : (0 : Int) ≤ (i : Int) + (m : Int) := by omega
  have htn : ((i : Int) + (m : Int)).toNat = i + m := by omega
  have hb3 : (i : Int) ≤ (n : Int) + (m : Int) := by omega
  have hc63 : cap ≤ 9223372036854775807 := by unfold maxLen at hm; omega
  have hm0 : 0 < m := by omega
  clear hW1 hb1 hk1 hx1 hdl hcell ht hl hs hm1 hm hx
  have hb1 : (0 : Int) ≤ (i : Int) + (m : Int) := by omega
  go_enter Tryz.func87, Tryz.ntmps87
  go_wp2_with (simp only [hov])
  go_region_law (refine step_copy_by rfl (.tmp 73) (.tmp 76) 46 46 rfl _ _ (by simp [Act.eval, Act.put]) (by simp [Act.eval, Act.put]) (hcp1 _ _ _) ?_)
  go_wp2_with (at_builtin; refine wpList_copy_by rfl (.tmp 80) (.tmp 81) 46 46 rfl _ _ rfl rfl (hcp2 _ _) ?_)
  go_ret
  exact ⟨rfl, by rw [hW.out]⟩

set_option maxHeartbeats 4000000 in
set_option maxRecDepth 1000000 in
/-- There is no room, and it does not come to the end: a new row. -/
theorem insD_grow (g cap n i xb m : Nat) (hm1 : m = 1) (cur : Array Value) (xs x : List Value) (w : World) (hg : w.heap[g]? = some (.cells cur 55 (0, 0))) (hxb : w.heap[xb]? = some (.cells x.toArray 55 (0, 0)))
    (hi : i < n) (hnc : n ≤ cap) (hroom : cap < n + m) (hn : n ≤ 1000000) (_hs : cur.size = cap * 2) (ht : cur.toList.take (n * 2) = xs) (hl : xs.length = n * 2) (hx : x.length = m * 2) (h1 : ∀ u ∈ xs, u.oneCell' = true) (h1x : ∀ u ∈ x, u.oneCell' = true) :
    Calls Tryz.prog 87 #[.slice (some ⟨g, 0, none⟩) n cap, .int .i64 (i : Int), .slice (some ⟨xb, 0, none⟩) m 1] w fun e w' =>
      ∃ (G : Nat) (ROW : Array Value), e = .returned (.slice (some ⟨w.heap.size, 0, none⟩) (n + m) G) ∧ (n + m ≤ G ∧ G ≤ maxLen) ∧ ROW.size = G * 2 ∧ ROW.toList.take (i * 2) = xs.take (i * 2) ∧ Kept w w' (fun _ => False) ∧
      w'.heap[w.heap.size]? = some (.cells (splice (splice ROW.toList (i * 2) x) ((i + m) * 2) (xs.drop (i * 2))).toArray 55 (0, 0)) := by
  obtain ⟨i0, hi0, hz0, hzs, hzb⟩ := info_parts Tryz.infoD
  have hz1 : ¬ ((m : Int) = 0) := by omega
  have hz2 : ¬ ((i : Int) = (n : Int)) := by omega
  have hz3 : (cap : Int) < (n : Int) + (m : Int) := by omega
  have hsz : (Tryz.prog.info? 55).map (·.size) = some 2 := by kernel_rfl
  have hgw : g < w.heap.size := (Array.getElem?_eq_some_iff.1 hg).1
  have hxw : xb < w.heap.size := (Array.getElem?_eq_some_iff.1 hxb).1
  have hcx : ∀ (j : Nat) (u : Value), xs[j]? = some u → cur[j]? = some u := by
    intro j u hu
    rw [← ht, List.getElem?_take] at hu
    split at hu
    · simpa using hu
    · cases hu
  have hkk : (n : Int) + (m : Int) - (i : Int) = ((n + m - i : Nat) : Int) := by omega
  have hik : i + (n + m - i) = n + m := by omega
  have hold : (Builtin.firstCells i0.size i (.slice (some ⟨g, 0, none⟩) i cap)).run Tryz.prog w.drew = .ok (xs.take (i * 2)).toArray w.drew := by
    rw [hzs]
    exact run_firstCells_some w.drew 2 i ⟨g, 0, none⟩ i cap (xs.take (i * 2)) (by rw [List.length_take, hl]; omega) (fun j v hj => by
      rw [List.getElem?_take] at hj
      split at hj
      · show w.cell? _ = _
        rw [Addr.add_at, Nat.zero_add, cell_of_row w g j _ _ _ hg]
        exact hcx j v hj
      · cases hj)
  have hrz : ∀ ty, (Builtin.append_ #[46, 3] ty #[.slice (some ⟨g, 0, none⟩) i cap, .int .i64 ((n : Int) + (m : Int) - (i : Int))]).run Tryz.prog w =
      .ok (.slice (some ⟨w.heap.size, 0, none⟩) (n + m) (grownCap w (n + m) cap 55)) (w.drew.alloc (.cells ((xs.take (i * 2)).toArray ++ Builtin.zeroCells (Value.cells (.agg #[.int .i64 0, .int .u64 0])) (n + m - i) ++ Builtin.zeroCells (Value.cells (.agg #[.int .i64 0, .int .u64 0])) (grownCap w (n + m) cap 55 - (n + m))) 55)) := fun ty => by
    have h := Lib.run_append_grow_zeros w 46 3 ty 55 i0 _ .i64 .i64 Tryz.underlying46 Tryz.underlying3 hi0 hz0 (some ⟨g, 0, none⟩) i cap (xs.take (i * 2)) hold (n + m - i) (by omega) (by omega) (by omega) (by omega) (by rw [hzb]; omega) (by rw [hzb, hik]; exact growslice_fits hroom (by omega))
    rw [hik] at h
    rw [hkk]
    exact h
  obtain ⟨G, hG⟩ : ∃ G, G = grownCap w (n + m) cap 55 := ⟨_, rfl⟩
  have hGn : n + m ≤ G := by rw [hG]; exact grownCap_ge w _ _ _
  have hGm : G ≤ maxLen := by rw [hG]; exact grownCap_le_maxLen w (n + m) cap _ (by unfold maxLen; omega)
  obtain ⟨ROW, hROW⟩ : ∃ ROW : Array Value, ROW = (xs.take (i * 2)).toArray ++ Builtin.zeroCells (Value.cells (.agg #[.int .i64 0, .int .u64 0])) (n + m - i) ++ Builtin.zeroCells (Value.cells (.agg #[.int .i64 0, .int .u64 0])) (G - (n + m)) := ⟨_, rfl⟩
  rw [← hG] at hrz
  rw [← hROW] at hrz
  have hzc : (Value.cells (.agg #[.int .i64 0, .int .u64 0])).size = 2 := rfl
  have hRl : ROW.size = G * 2 := by
    rw [hROW, Array.size_append, Array.size_append, size_zeroCells, size_zeroCells, hzc, List.size_toArray, List.length_take, hl]
    omega
  have hRt : ROW.toList.take (i * 2) = xs.take (i * 2) := by
    rw [hROW, Array.toList_append, Array.toList_append, List.append_assoc, List.take_append_of_le_length (by simp [hl]; omega)]
    show (xs.take (i * 2)).take (i * 2) = _
    rw [List.take_take, Nat.min_self]
  obtain ⟨W1, hW1⟩ : ∃ W1, W1 = w.drew.alloc (.cells ROW 55) := ⟨_, rfl⟩
  rw [← hW1] at hrz
  have hb1 : W1.heap[w.heap.size]? = some (.cells ROW 55 (0, 0)) := by rw [hW1]; exact heap_alloc_new w.drew _
  have hk1 : Kept w W1 (fun _ => False) := by rw [hW1]; exact ⟨rfl, rfl, rfl, by simp, fun k hk _ => Below.heap_alloc w.drew _ k hk⟩
  have hg1 := (hk1.block g hgw id).trans hg
  have hx1 := (hk1.block xb hxw id).trans hxb
  have hcpA : ∀ ty dc, (Builtin.copy_ #[46, 46] ty #[.slice (some ⟨w.heap.size, i * 2, none⟩) (n + m - i) dc, .slice (some ⟨xb, 0, none⟩) m 1]).run Tryz.prog W1 = .ok (goInt (m : Int)) (W1.setCells w.heap.size (i * 2) x) := fun ty dc =>
    run_copy_wide W1 _ _ ty 55 2 w.heap.size (i * 2) (n + m - i) dc ⟨xb, 0, none⟩ m 1 m x Tryz.underlying46 hsz (by simp only [Nat.min_def]; split <;> omega) (by omega)
      (fun j v hj => by rw [Addr.add_at, cell_of_row W1 xb _ _ _ _ hx1]; simpa using hj)
      (fun j hj => by rw [cell_of_row W1 _ _ _ _ _ hb1, Array.getElem?_eq_getElem (by omega)]; rfl) (fun j hj => frozen_of_row W1 _ _ _ _ hb1) h1x
  obtain ⟨W2, hW2⟩ : ∃ W2, W2 = W1.setCells w.heap.size (i * 2) x := ⟨_, rfl⟩
  obtain ⟨hb2, hk2⟩ := setCells_block w.heap.size x (i * 2) W1 ROW 55 hb1 (by omega)
  rw [← hW2] at hb2 hk2 hcpA
  have hg2 := (hk2.block g (Array.getElem?_eq_some_iff.1 hg1).1 (by show ¬ g = w.heap.size; omega)).trans hg1
  have hdl : (xs.drop (i * 2)).length = (n - i) * 2 := by rw [List.length_drop, hl]; omega
  have hls : (splice ROW.toList (i * 2) x).length = G * 2 := by rw [length_splice _ _ _ (by simp; omega)]; simpa using hRl
  have hcpB : ∀ ty dc sc, (Builtin.copy_ #[46, 46] ty #[.slice (some ⟨w.heap.size, (i + m) * 2, none⟩) (n + m - (i + m)) dc, .slice (some ⟨g, i * 2, none⟩) (n - i) sc]).run Tryz.prog W2.drew = .ok (goInt ((n - i : Nat) : Int)) (W2.drew.setCells w.heap.size ((i + m) * 2) (xs.drop (i * 2))) := fun ty dc sc =>
    run_copy_wide W2.drew _ _ ty 55 2 w.heap.size ((i + m) * 2) (n + m - (i + m)) dc ⟨g, i * 2, none⟩ (n - i) sc (n - i) (xs.drop (i * 2)) Tryz.underlying46 hsz (by simp only [Nat.min_def]; split <;> omega) hdl
      (fun j v hj => by
        show W2.cell? _ = _
        rw [Addr.add_at, cell_of_row W2 g _ _ _ _ hg2]
        rw [List.getElem?_drop] at hj
        exact hcx _ v hj)
      (fun j hj => by
        show (W2.cell? _).isSome = true
        rw [cell_of_row W2 _ _ _ _ _ hb2, Array.getElem?_eq_getElem (by rw [List.size_toArray, hls]; omega)]; rfl) (fun j hj => frozen_of_row W2 _ _ _ _ hb2) (fun v hv => h1 v (List.mem_of_mem_drop hv))
  obtain ⟨W3, hW3⟩ : ∃ W3, W3 = W2.drew.setCells w.heap.size ((i + m) * 2) (xs.drop (i * 2)) := ⟨_, rfl⟩
  obtain ⟨hb3, hk3⟩ := setCells_block w.heap.size (xs.drop (i * 2)) ((i + m) * 2) W2.drew _ 55 hb2 (by rw [List.size_toArray, hls]; omega)
  rw [← hW3] at hb3 hk3 hcpB
  have hkA : Hid (Kept w W3 (fun _ => False)) := by
    have h12 : Kept w W2 (fun _ => False) := hk1.trans hk2 (fun k hk e => by have e' : k = w.heap.size := e; omega)
    have h2d : Kept W2 W2.drew (fun _ => False) := ⟨rfl, rfl, rfl, Nat.le_refl _, fun _ _ _ => rfl⟩
    exact (h12.trans h2d (fun _ _ e => e)).trans hk3 (fun k hk e => by have e' : k = w.heap.size := e; omega)
  have hbA : Hid _ := hidden hb3
  have hRA : Hid (ROW.size = G * 2 ∧ ROW.toList.take (i * 2) = xs.take (i * 2)) := ⟨hRl, hRt⟩
  have hGA : Hid (n + m ≤ G ∧ G ≤ maxLen) := ⟨hGn, hGm⟩
  have hG63 : G ≤ 9223372036854775807 := by unfold maxLen at hGm; omega
  have hGi : ¬ (G = i) := by omega
  have hGim : ¬ (G = i + m) := by omega
  have hci : ¬ (cap = i) := by omega
  have hw1 : IntKind.i64.wrap ((i : Int) + (m : Int)) = (i : Int) + (m : Int) := by rw [IntKind.wrap_i64]; omega
  have hq1 : (0 : Int) ≤ (i : Int) + (m : Int) := by omega
  have hin : i ≤ n := by omega
  have htn : ((i : Int) + (m : Int)).toNat = i + m := by omega
  have hq3 : (i : Int) ≤ (n : Int) := by omega
  have hm0 : 0 < m := by omega
  have hn63 : n + m ≤ 9223372036854775807 := by omega
  have hHS : Hid (w.heap.size = w.heap.size) := rfl
  generalize hB : w.heap.size = B at *
  clear hkk hik hold hROW hG hRl hRt hW1 hW2 hW3 hb1 hk1 hg1 hx1 hb2 hk2 hg2 hdl hls hb3 hk3 hcx _hs ht hl hx hm1 hi0 hz0 hzs hzb hgw hxw hGm hzc hB
  go_enter Tryz.func87, Tryz.ntmps87
  go_wp2_with (first
    | (at_builtin; refine Lib.wpList_append_run _ rfl (.tmp 34) (.tmp 39) 46 3 rfl _ _ rfl rfl _ _ (hrz _) ?_)
    | (at_builtin; refine wpList_copy_by rfl (.tmp 43) (.tmp 44) 46 46 rfl _ _ rfl rfl (hcpA _ _) ?_))
  go_region_law (refine step_copy_by rfl (.tmp 50) (.tmp 53) 46 46 rfl _ _ (by simp [Act.eval, Act.put]) (by simp [Act.eval, Act.put]) (hcpB _ _ _) ?_)
  go_wp2
  go_ret
  exact ⟨G, ROW, rfl, hGA.out, hRA.out.1, hRA.out.2, hkA.out, hbA.out⟩

set_option maxHeartbeats 4000000 in
set_option maxRecDepth 1000000 in
/-- It comes to the end. -/
theorem insD_end (v : Value) (n xb : Nat) (xs x : List Value) (w : World) (hown : w.ownsRow 0 55 2 v n xs) (hn : n ≤ 1000000) (hxb : w.heap[xb]? = some (.cells x.toArray 55 (0, 0))) (hx : x.length = 2) (h1x : ∀ u ∈ x, u.oneCell' = true) :
    Calls Tryz.prog 87 #[v, .int .i64 (n : Int), .slice (some ⟨xb, 0, none⟩) 1 1] w fun e w' =>
      ∃ v', e = .returned v' ∧ w'.ownsRow 0 55 2 v' (n + 1) (xs ++ x) ∧ Kept w w' (fun k => v.ownBlock = some k) ∧ Moved w v v' := by
  obtain ⟨i0, hi0, hz0, hzs, hzb⟩ := info_parts Tryz.infoD
  have hsr : Sr w (.slice (some ⟨xb, 0, none⟩) 1 1) 2 1 x := ⟨by omega, Or.inr ⟨_, _, rfl, fun j u hj => by rw [Addr.add_at, cell_of_row w xb _ _ _ _ hxb]; simpa using hj⟩, h1x⟩
  have HS : Hid _ := hidden hsr
  have HO : Hid _ := hidden hown
  obtain ⟨ao, cap, rfl, hnc, hcm, hao⟩ := own_slice hown
  unfold maxLen at hcm
  clear hsr hown hxb
  cases ao with
  | none =>
    have h0 := hao rfl
    subst h0
    have h0 : n = 0 := by omega
    subst h0
    clear hao
    go_enter Tryz.func87, Tryz.ntmps87
    go_wp2_with (at_builtin; refine wpList_append_sr rfl (.tmp 23) (.tmp 24) 46 rfl 55 i0 _ 2 16 Tryz.underlying46 hi0 hz0 hzs hzb rfl (by omega) 0 _ 0 xs rfl HO.out _ 1 x rfl HS.out (by omega) (by omega) (Nat.zero_le _) ?_; intro v' w' ho' hk' hm')
    go_ret
    exact ⟨v', rfl, ho', hk', hm'⟩
  | some ad =>
    clear hao
    by_cases hcn : cap = n
    · subst hcn
      go_enter Tryz.func87, Tryz.ntmps87
      go_wp2_with (at_builtin; refine wpList_append_sr rfl (.tmp 23) (.tmp 24) 46 rfl 55 i0 _ 2 16 Tryz.underlying46 hi0 hz0 hzs hzb rfl (by omega) 0 _ cap xs rfl HO.out _ 1 x rfl HS.out (by omega) (by omega) (Nat.zero_le _) ?_; intro v' w' ho' hk' hm')
      go_ret
      exact ⟨v', rfl, ho', hk', hm'⟩
    · go_enter Tryz.func87, Tryz.ntmps87
      go_wp2_with (at_builtin; refine wpList_append_sr rfl (.tmp 23) (.tmp 24) 46 rfl 55 i0 _ 2 16 Tryz.underlying46 hi0 hz0 hzs hzb rfl (by omega) 0 _ n xs rfl HO.out _ 1 x rfl HS.out (by omega) (by omega) (Nat.zero_le _) ?_; intro v' w' ho' hk' hm')
      go_ret
      exact ⟨v', rfl, ho', hk', hm'⟩

/-- slices.Insert of one element. -/
theorem insD_any (v : Value) (n i xb : Nat) (xs x : List Value) (w : World) (hown : w.ownsRow 0 55 2 v n xs) (hi : i ≤ n) (hn : n ≤ 1000000) (hxb : w.heap[xb]? = some (.cells x.toArray 55 (0, 0))) (hx : x.length = 2) (hne : v.ownBlock ≠ some xb) (h1 : ∀ u ∈ xs, u.oneCell' = true) (h1x : ∀ u ∈ x, u.oneCell' = true) :
    Calls Tryz.prog 87 #[v, .int .i64 (i : Int), .slice (some ⟨xb, 0, none⟩) 1 1] w fun e w' =>
      ∃ v', e = .returned v' ∧ w'.ownsRow 0 55 2 v' (n + 1) (xs.take (i * 2) ++ (x ++ xs.drop (i * 2))) ∧ Kept w w' (fun k => v.ownBlock = some k) ∧ Moved w v v' := by
  by_cases hin : i = n
  · subst hin
    have hl := hown.1
    rw [List.take_of_length_le (by omega), List.drop_of_length_le (by omega), List.append_nil]
    exact insD_end v i xb xs x w hown hn hxb hx h1x
  · have hlx := hown.1
    obtain ⟨hl, ⟨rfl, h0⟩ | ⟨g, cap, cur, rfl, _, hg, hnc, hcm, hs, ht⟩⟩ := hown
    · omega
    · have hxg : xb ≠ g := fun e => hne (by rw [e]; rfl)
      have htl : cur.toList.take xs.length = xs := by rw [hl]; exact ht
      by_cases hroom : n + 1 ≤ cap
      · refine (insD_shift g cap n i xb 1 rfl cur xs x w hg hxb hxg (by omega) hroom hcm hs ht hl (by omega) h1 h1x).mono ?_
        rintro e w' ⟨rfl, rfl⟩
        obtain ⟨hb1, hk1⟩ := setCells_block g (xs.drop (i * 2)) ((i + 1) * 2) w.drew cur 55 hg (by simp; omega)
        obtain ⟨hb2, hk2⟩ := setCells_block g x (i * 2) _ _ 55 hb1 (by rw [List.size_toArray, length_splice _ _ _ (by simp; omega)]; simp; omega)
        refine ⟨_, rfl, ⟨by simp; omega, Or.inr ⟨g, cap, _, rfl, Nat.zero_le _, hb2, hroom, hcm, ?_, ?_⟩⟩, ?_, fun k hk => Or.inl hk⟩
        · rw [List.size_toArray, length_splice _ _ _ (by simp only []; rw [length_splice _ _ _ (by simp; omega)]; simp; omega)]
          simp only []
          rw [length_splice _ _ _ (by simp; omega)]
          simpa using hs
        · have q := splice_shift cur.toList xs x (i * 2) (by omega) htl (by simp; omega)
          rw [show i * 2 + x.length = (i + 1) * 2 by omega, show xs.length + x.length = (n + 1) * 2 by omega] at q
          exact q
        · have hd : Kept w w.drew (fun k => (Value.slice (some ⟨g, 0, none⟩) n cap).ownBlock = some k) := ⟨rfl, rfl, rfl, Nat.le_refl _, fun _ _ _ => rfl⟩
          exact hd.trans (hk1.trans hk2 (fun _ _ e => e)) (fun k _ e => by have e' : k = g := e; rw [e']; rfl)
      · refine (insD_grow g cap n i xb 1 rfl cur xs x w hg hxb (by omega) hnc (by omega) hn hs ht hl (by omega) h1 h1x).mono ?_
        rintro e w' ⟨G, ROW, rfl, hG, hRl, hRt, hk, hb⟩
        refine ⟨_, rfl, ⟨by simp; omega, Or.inr ⟨w.heap.size, G, _, rfl, Nat.zero_le _, hb, hG.1, hG.2, ?_, ?_⟩⟩, hk.mono (fun _ _ e => e.elim), fun k hk => Or.inr ?_⟩
        · rw [List.size_toArray, length_splice _ _ _ (by rw [length_splice _ _ _ (by simp; omega)]; simp; omega), length_splice _ _ _ (by simp; omega)]
          simpa using hRl
        · have q := splice_grow ROW.toList xs x (i * 2) (by omega) hRt (by simp; omega)
          rw [show i * 2 + x.length = (i + 1) * 2 by omega, show xs.length + x.length = (n + 1) * 2 by omega] at q
          exact q
        · simp only [Value.ownBlock, Option.some.injEq] at hk
          omega

end Go.Proofs.YtlabdbfmfejkaaaGreatDoor

namespace Go.Proofs.YtlabdbfmfejkaaaGreatDoor
open Go.Shelf Go.RowKit Go.Lib
open Go.Sort hiding Below

theorem below_grow (w : World) (n : Nat) (os : Array Obj) : Go.RowKit.Below w.heap.size w (grow (w.drewN n) os) :=
  ⟨rfl, rfl, rfl, by simp [grow], fun k hk => by simp [grow, Array.getElem?_append_left hk]⟩
set_option maxRecDepth 20000 in
set_option maxHeartbeats 1000000 in
theorem idcmp_any (x y : Int × Nat) (hx : namesB x = true) (hy : namesB y = true) (W : World) : Calls Tryz.prog 85 #[.agg #[.int .i64 x.1, .int .u64 (x.2 : Int)], .agg #[.int .i64 y.1, .int .u64 (y.2 : Int)]] W fun e w' => e = .returned (.int .i64 (cmpN (keyI x) (keyI y))) ∧ ∃ q os', w' = grow (W.drewN q) os' := by
  obtain ⟨a, n⟩ := x
  obtain ⟨b, m⟩ := y
  have h1 := names_lt hx
  have h2 := names_lt hy
  simp only at h1 h2
  obtain ⟨A, rfl⟩ : ∃ A : Nat, a = (A : Int) := ⟨a.toNat, by omega⟩
  obtain ⟨B, rfl⟩ : ∃ B : Nat, b = (B : Int) := ⟨b.toNat, by omega⟩
  have hK : ∀ (A n : Nat), A ≤ 64 → n < 72057594037927936 → ∀ w : World, Calls Tryz.prog 60 #[.agg #[.int .i64 (A : Int), .int .u64 (n : Int)]] w fun e w' => e = .returned (.int .u64 (keyN A n : Int)) ∧ ∃ q os', w' = grow (w.drewN q) os' := fun A n h1 h2 w => (key_any A n h1 h2 w).mono (fun _ _ ⟨e1, e2⟩ => ⟨e1, 0, _, e2.trans (alloc_eq_grow _ _)⟩)
  have hC : ∀ (x y : Nat) (w : World), Calls Tryz.prog 86 #[.int .u64 (x : Int), .int .u64 (y : Int)] w fun e w' => e = .returned (.int .i64 (cmpN x y)) ∧ ∃ q os', w' = grow (w.drewN q) os' := fun x y w => (compare_any _ _ w).mono (fun _ _ ⟨e1, e2⟩ => ⟨e1, 0, #[], by rw [e2, grow_empty]; rfl⟩)
  have hE : cmpN (keyI ((A : Int), n)) (keyI ((B : Int), m)) = cmpN (keyN A n) (keyN B m) := rfl
  rw [hE]
  have hA : A ≤ 64 := by omega
  have hB : B ≤ 64 := by omega
  have hn : n < 72057594037927936 := by omega
  have hm : m < 72057594037927936 := by omega
  clear hE hx hy h1 h2
  go_enter Tryz.func85, Tryz.ntmps85
  go_wp2
  obtain ⟨w2, hw2⟩ : ∃ z, z = (W.alloc (.cells #[.int .i64 (A : Int), .int .u64 (n : Int)] 55)).alloc (.cells #[.int .i64 (B : Int), .int .u64 (m : Int)] 55) := ⟨_, rfl⟩
  rw [← hw2]
  have a0 := cell_grown (w := w2) (a := ⟨W.heap.size, 0, none⟩) (v := .int .i64 (A : Int)) (by rw [hw2]; simp; omega) (by rw [hw2]; simp)
  have a1 := cell_grown (w := w2) (a := ⟨W.heap.size, 1, none⟩) (v := .int .u64 (n : Int)) (by rw [hw2]; simp; omega) (by rw [hw2]; simp)
  have b0 := cell_grown (w := w2) (a := ⟨W.heap.size + 1, 0, none⟩) (v := .int .i64 (B : Int)) (by rw [hw2]; simp) (by rw [hw2]; simp)
  have b1 := cell_grown (w := w2) (a := ⟨W.heap.size + 1, 1, none⟩) (v := .int .u64 (m : Int)) (by rw [hw2]; simp) (by rw [hw2]; simp)
  have HG : Hid (∀ k os, ∃ q os', grow (w2.drewN k) os = grow (W.drewN q) os') := fun k os => by
    refine ⟨k, #[.cells #[.int .i64 (A : Int), .int .u64 (n : Int)] 55] ++ #[.cells #[.int .i64 (B : Int), .int .u64 (m : Int)] 55] ++ os, ?_⟩
    rw [hw2, alloc_eq_grow, alloc_eq_grow, grow_grow]
    exact grow_grow (W.drewN k) _ _
  clear hw2
  have hmix : Tryz.prog.follows .mixedOrders = true := by kernel_rfl
  go_quiet_grown (first | (go_at_call 86; exact Calls.grown_of (hC _ _ _)) | (go_at_call 60; exact Calls.grown_of (hK _ _ (by assumption) (by assumption) _)))
  go_wp2
  go_ret
  exact ⟨rfl, HG.out _ _⟩

theorem cmp_neg (a b : Nat) : (cmpN a b < 0) = (a < b) := by
  unfold cmpN
  apply propext
  split
  · simp [*]
  · split <;> simp <;> omega
theorem cmp_zero (a b : Nat) : ((cmpN a b : Int) == 0) = decide (a = b) := by
  unfold cmpN
  rw [Bool.eq_iff_iff]
  split
  · simp; omega
  · split <;> simp <;> omega

set_option maxHeartbeats 4000000 in
set_option maxRecDepth 1000000 in
theorem bsF_any (ao : Option Addr) (cap n : Nat) (l : List (Int × Nat)) (x : Int × Nat) (w : World) (hn : n = l.length) (hs : OutL l) (hx : namesB x = true) (hbig : n ≤ 1000000)
    (hao : ∀ j (h : j < l.length), ∃ g, ao = some ⟨g, 0, none⟩ ∧ g < w.heap.size ∧ w.cell? ⟨g, j * 2, none⟩ = some (.int .i64 l[j].1) ∧ w.cell? ⟨g, j * 2 + 1, none⟩ = some (.int .u64 (l[j].2 : Int))) :
    Calls Tryz.prog 84 #[.slice ao n cap, .agg #[.int .i64 x.1, .int .u64 (x.2 : Int)], .func (.func 85) #[] #[]] w fun e w' => e = .returned (.tuple #[.int .i64 (posI x l : Int), .bool (hasI x l)]) ∧ Go.RowKit.Below w.heap.size w w' := by
  have HB : Hid (∀ t (h : t < l.length), t < posI x l → keyI l[t] < keyI x) := fun t h ht => by
    have := posK_below (keyI x) (kis l) t (by simpa [kis] using h) ht
    simpa [ltQ, kis] using this
  have HA : Hid (∀ t (h : t < l.length), posI x l ≤ t → ¬ keyI l[t] < keyI x) := fun t h ht => by
    have := posK_above koQ (keyI x) (kis l) hs.srt t (by simpa [kis] using h) ht
    simpa [ltQ, kis] using this
  have hpl := posI_le x l
  have HH : Hid (∀ h : posI x l < l.length, hasI x l = decide (keyI l[posI x l] = keyI x)) := fun h => by
    show decide ((kis l)[posI x l]? = some (keyI x)) = _
    rw [List.getElem?_eq_getElem (by simpa [kis] using h)]
    simp [kis]
  have HH0 : Hid (¬ posI x l < l.length → hasI x l = false) := fun h => by
    show decide ((kis l)[posI x l]? = some (keyI x)) = _
    rw [List.getElem?_eq_none (by simpa [kis] using h)]
    simp
  have HC : Hid (∀ t (h : t < l.length) W, Calls Tryz.prog 85 #[.agg #[.int .i64 l[t].1, .int .u64 (l[t].2 : Int)], .agg #[.int .i64 x.1, .int .u64 (x.2 : Int)]] W fun e w' => e = .returned (.int .i64 (cmpN (keyI l[t]) (keyI x))) ∧ ∃ q os', w' = grow (W.drewN q) os') := fun t h W => idcmp_any l[t] x (hs.nm _ (List.getElem_mem h)) hx W
  generalize hasI x l = hb at *
  generalize posI x l = P at *
  have HN : Hid (n = l.length) := hn
  rw [← hn] at hpl
  have HO : Hid _ := hidden hao
  clear hn hs hx hao
  have hmix : Tryz.prog.follows .mixedOrders = true := by kernel_rfl
  obtain ⟨a, m⟩ := x
  simp only at *
  obtain ⟨w1, hw1⟩ : ∃ z, z = w.alloc (.cells #[.int .i64 a, .int .u64 (m : Int)] 55) := ⟨_, rfl⟩
  have hB1 : Go.RowKit.Below w.heap.size w w1 := by rw [hw1]; exact bel_alloc _ _
  have x0 : w1.cell? ⟨w.heap.size, 0, none⟩ = some (.int .i64 a) := by rw [hw1]; simp
  have x1 : w1.cell? ⟨w.heap.size, 1, none⟩ = some (.int .u64 (m : Int)) := by rw [hw1]; simp
  have hz1 : w1.heap.size = w.heap.size + 1 := by rw [hw1]; simp
  have HX : Hid (∀ W, Go.RowKit.Below w1.heap.size w1 W → W.cell? ⟨w.heap.size, 0, none⟩ = some (.int .i64 a) ∧ W.cell? ⟨w.heap.size, 1, none⟩ = some (.int .u64 (m : Int)) ∧ w.heap.size < W.heap.size ∧ Go.RowKit.Below w.heap.size w W) := fun W hB => by
    have hl : w.heap.size < w1.heap.size := by omega
    exact ⟨(hB.cell (p := ⟨w.heap.size, 0, none⟩) hl).trans x0, (hB.cell (p := ⟨w.heap.size, 1, none⟩) hl).trans x1, Nat.lt_of_lt_of_le hl hB.size, hB1.trans (hB.mono hB1.size)⟩
  have HOW : Hid (∀ W (hB : Go.RowKit.Below w1.heap.size w1 W) j (h : j < l.length), ∃ g, ao = some ⟨g, 0, none⟩ ∧ g < W.heap.size ∧ W.cell? ⟨g, j * 2, none⟩ = some (.int .i64 l[j].1) ∧ W.cell? ⟨g, j * 2 + 1, none⟩ = some (.int .u64 (l[j].2 : Int))) := fun W hB j h => by
    obtain ⟨g, e, hg, h1, h2⟩ := HO.out j h
    have hB2 := hB1.trans (hB.mono hB1.size)
    exact ⟨g, e, Nat.lt_of_lt_of_le hg hB2.size, (hB2.cell (p := ⟨g, j * 2, none⟩) hg).trans h1, (hB2.cell (p := ⟨g, j * 2 + 1, none⟩) hg).trans h2⟩
  have HW1 : Hid (w.alloc (.cells #[.int .i64 a, .int .u64 (m : Int)] 55) = w1) := hw1.symm
  clear hw1 hB1 x0 x1 hz1 HO
  go_enter Tryz.func84, Tryz.ntmps84
  go_wp2
  rw [HW1.out]
  go_loopg [9, 10] n (fun g s7 s8 wr => ∃ lo hi : Nat, s7 = .int .i64 lo ∧ s8 = .int .i64 hi ∧ lo ≤ P ∧ P ≤ hi ∧ hi ≤ n ∧ hi - lo ≤ g ∧ Go.RowKit.Below w1.heap.size w1 wr)
  case atStart => exact ⟨0, n, rfl, rfl, Nat.zero_le _, hpl, Nat.le_refl _, by omega, Go.RowKit.Below.refl _ _⟩
  case round =>
    obtain ⟨lo, hi, rfl, rfl, hlo, hhi, hin, hgk, hbr⟩ := hrel
    obtain ⟨x0, x1, hxl, _⟩ := HX.out _ hbr
    have X0 := cell_grown (w := wr) (a := ⟨w.heap.size, 0, none⟩) hxl x0
    have X1 := cell_grown (w := wr) (a := ⟨w.heap.size, 1, none⟩) hxl x1
    have HBR : Hid _ := hidden hbr
    clear x0 x1
    by_cases hlt : lo < hi
    · obtain ⟨md, hmd⟩ : ∃ md, md = (lo + hi) / 2 := ⟨_, rfl⟩
      have hme : ((lo : Int) + (hi : Int)) / 2 = (md : Int) := by omega
      have HLO : Hid (lo ≤ md ∧ md < hi) := by
        have e : lo ≤ md ∧ md < hi := by omega
        exact e
      have hm : md < l.length := by have := HN.out; omega
      have hmn : (md : Int) < (n : Int) := by omega
      clear hmd
      obtain ⟨g, rfl, hgl, c0, c1⟩ := HOW.out _ hbr _ hm
      have C0 := cell_grown (w := wr) (a := ⟨g, md * 2, none⟩) hgl c0
      have C1 := cell_grown (w := wr) (a := ⟨g, md * 2 + 1, none⟩) hgl c1
      have hC := HC.out _ hm
      have B1 := HB.out _ hm
      have A1 := HA.out _ hm
      have hne := cmp_neg (keyI l[md]) (keyI (a, m))
      generalize keyI l[md] = k1 at *
      generalize l[md] = y at *
      obtain ⟨ya, yn⟩ := y
      simp only at *
      generalize cmpN k1 (keyI (a, m)) = cm at *
      clear hbr c0 c1
      by_cases hyx : k1 < keyI (a, m)
      · have HP : Hid (md < P) := by
          rcases Nat.lt_or_ge md P with h | h
          · exact h
          · exact absurd hyx (A1 h)
        have hcm : cm < 0 := by rw [hne]; exact hyx
        clear B1 A1 hne hyx hm
        go_upto_region 5 with fail
        go_quiet_grown (first | (go_at_call 85; exact Calls.grown_of (hC _)))
        clear X0 X1 C0 C1 hC
        go_wp2
        go_roundg (hi - (md + 1))
        case measure => have := HLO.out; omega
        case rel => exact ⟨md + 1, hi, by go_num, rfl, by have := HP.out; omega, hhi, hin, Nat.le_refl _, HBR.out.trans ((below_grow _ _ _).mono HBR.out.size)⟩
      · have HP : Hid (P ≤ md) := by
          rcases Nat.lt_or_ge md P with h | h
          · exact absurd (B1 h) hyx
          · exact h
        have hcm : ¬ cm < 0 := by rw [hne]; exact hyx
        clear B1 A1 hne hyx hm
        go_upto_region 5 with fail
        go_quiet_grown (first | (go_at_call 85; exact Calls.grown_of (hC _)))
        clear X0 X1 C0 C1 hC
        go_wp2
        go_roundg (md - lo)
        case measure => have := HLO.out; omega
        case rel => exact ⟨lo, md, rfl, rfl, hlo, HP.out, by have := HLO.out; omega, Nat.le_refl _, HBR.out.trans ((below_grow _ _ _).mono HBR.out.size)⟩
    · have e1 : hi = lo := by omega
      have e2 : P = lo := by omega
      subst e1
      subst e2
      by_cases hpn : (P : Int) < (n : Int)
      · have hm : P < l.length := by have := HN.out; omega
        obtain ⟨g, rfl, hgl, c0, c1⟩ := HOW.out _ hbr _ hm
        have C0 := cell_grown (w := wr) (a := ⟨g, P * 2, none⟩) hgl c0
        have C1 := cell_grown (w := wr) (a := ⟨g, P * 2 + 1, none⟩) hgl c1
        have hC := HC.out _ hm
        have hq := HH.out hm
        rw [← cmp_zero] at hq
        generalize keyI l[P] = k1 at *
        generalize l[P] = y at *
        obtain ⟨ya, yn⟩ := y
        simp only at *
        generalize cmpN k1 (keyI (a, m)) = cm at *
        clear hbr c0 c1 hm
        have HQ : Hid (hb = (cm == 0)) := hq
        clear hq
        go_upto_region 8 with fail
        refine wp_region_quiet_grown (by assumption) (by kernel_rfl) ?_
        iterate 16 (quiet_step (first | (go_at_call 85; exact Calls.grown_of (hC _))))
        refine wpQuiet_nil ?_
        intro _ hw'
        obtain ⟨⟨nq, osq⟩, hw''⟩ := hw'
        subst hw''
        clear X0 X1 C0 C1 hC
        go_wp2
        go_ret2
        exact ⟨by rw [HQ.out]; rfl, (HX.out _ (HBR.out.trans ((below_grow _ _ _).mono HBR.out.size))).2.2.2⟩
      · have HQ : Hid (hb = false) := HH0.out (by have := HN.out; omega)
        clear hbr
        clear X0 X1
        go_upto_region 8 with fail
        go_quiet (fail)
        go_wp2
        go_ret2
        exact ⟨by rw [HQ.out]; rfl, (HX.out _ (HBR.out.trans ((below_drewN0 _ _).mono HBR.out.size))).2.2.2⟩
end Go.Proofs.YtlabdbfmfejkaaaGreatDoor

namespace Go.Proofs.YtlabdbfmfejkaaaGreatDoor
open Go.RowKit

section
variable {w : World} {B ub mv wv mb : Nat} {L : Nat → Nat} {ov tv : Value} {u : Und}
theorem idsV_take (l : List (Int × Nat)) (i : Nat) : (idsV l).take (i * 2) = idsV (l.take i) := by
  induction l generalizing i with
  | nil => simp [idsV]
  | cons x l ih =>
    cases i with
    | zero => simp [idsV]
    | succ i =>
      have e : (i + 1) * 2 = i * 2 + 2 := by omega
      rw [e]
      show (idV x ++ idsV l).take (i * 2 + 2) = idV x ++ idsV (l.take i)
      rw [← ih i]
      rfl
theorem idsV_drop (l : List (Int × Nat)) (i : Nat) : (idsV l).drop (i * 2) = idsV (l.drop i) := by
  induction l generalizing i with
  | nil => simp [idsV]
  | cons x l ih =>
    cases i with
    | zero => simp [idsV]
    | succ i =>
      have e : (i + 1) * 2 = i * 2 + 2 := by omega
      rw [e]
      show (idV x ++ idsV l).drop (i * 2 + 2) = idsV (l.drop i)
      rw [← ih i]
      rfl
/-- A row of the owner's that moved is still its. -/
theorem own_back {w' : World} {c n m : Nat} {e : TypeId} {v v' : Value} {xs ys : List Value} (h : w.ownsRow B e c v n xs) (h' : w'.ownsRow 0 e c v' m ys) (hm : Moved w v v') (hB : B ≤ w.heap.size) : w'.ownsRow B e c v' m ys := by
  refine ⟨h'.1, ?_⟩
  rcases h'.2 with a | ⟨g, cap, cur, rfl, _, h3⟩
  · exact Or.inl a
  · refine Or.inr ⟨g, cap, cur, rfl, ?_, h3⟩
    rcases hm g rfl with a | a
    · exact (own_lt1 h g a).1
    · omega
set_option maxRecDepth 20000 in
set_option maxHeartbeats 2000000 in
theorem meet_in (x : UX w B L ub mv wv mb ov tv u) (hO : OutL u.outs) (hn : u.outs.length ≤ 1000000) (a : Int) (n : Nat) (hx : namesB (a, n) = true) (hh : hasI (a, n) u.outs = true) :
    Calls Tryz.prog 67 #[.pointer (some ⟨ub, 0, none⟩), .agg #[.int .i64 a, .int .u64 (n : Int)]] w fun e w' => e = .returned (.tuple #[]) ∧ UGo w w' B L ub (u.meet (a, n)) := by
  obtain ⟨w1, hw1⟩ : ∃ z, z = w.alloc (.cells #[.int .i64 a, .int .u64 (n : Int)] 55) := ⟨_, rfl⟩
  have b1 : Below w.heap.size w w1 := by rw [hw1]; exact bel_alloc _ _
  have d0 : w1.cell? ⟨w.heap.size, 0, none⟩ = some (.int .i64 a) := by rw [hw1]; simp
  have d1 : w1.cell? ⟨w.heap.size, 1, none⟩ = some (.int .u64 (n : Int)) := by rw [hw1]; simp
  have x1 := x.below b1
  have c1 := x1.c1
  obtain ⟨ao, cap, hov, _, _, hat⟩ := x1.oo.at
  have bd := below_drew0 w1
  have HBS : Hid (∀ W, Below w1.heap.size w1 W → Calls Tryz.prog 84 #[.slice ao u.outs.length cap, .agg #[.int .i64 a, .int .u64 (n : Int)], .func (.func 85) #[] #[]] W fun e w' => e = .returned (.tuple #[.int .i64 (posI (a, n) u.outs : Int), .bool true]) ∧ Below W.heap.size W w') := fun W hW => by
    have := bsF_any ao cap u.outs.length u.outs (a, n) W rfl hO hx hn (fun j hj => by
      obtain ⟨g, e, h2, h3, h4, h5⟩ := hat j hj
      exact ⟨g, e, Nat.lt_of_lt_of_le h3 hW.size, (hW.cell (p := ⟨g, j * 2, none⟩) h3).trans h4, (hW.cell (p := ⟨g, j * 2 + 1, none⟩) h3).trans h5⟩)
    rw [hh] at this
    exact this
  have hBS := HBS.out _ bd
  have HU : Hid (∀ W, Below w1.heap.size w1 W → UGo w W B L ub (u.meet (a, n))) := fun W hW => by
    have e : u.meet (a, n) = u := by
      unfold Und.meet meetL
      rw [if_pos hh]
    rw [e]
    exact UN.go ⟨_, _, _, _, _, x⟩ (b1.trans (hW.mono b1.size))
  have HW : Hid (w.alloc (.cells #[.int .i64 a, .int .u64 (n : Int)] 55) = w1) := hw1.symm
  rw [hov] at c1
  have HBD : Hid _ := hidden bd
  clear x x1 hat hov b1 hw1 hx hh hO HBS bd
  generalize posI (a, n) u.outs = P at *
  generalize u.outs.length = k at *
  go_enter Tryz.func67, Tryz.ntmps67
  go_upto_region 1 with fail
  rw [HW.out]
  go_cut [4, 5] from 6 to 14 (fun s t wc => s = .int .i64 (P : Int) ∧ t = .bool true ∧ Below w1.heap.size w1 wc)
  case first =>
    go_region_with (go_at_call 84; refine hBS.mono ?_; rintro e w2 ⟨rfl, b2⟩)
    all_goals
      go_wp2
      go_meet
      exact ⟨rfl, rfl, HBD.out.trans b2⟩
  case rest =>
    obtain ⟨rfl, rfl, b2⟩ := hcut
    have HB : Hid _ := hidden b2
    clear hBS d0 d1 c1 b2
    go_wp2
    go_end0
    exact ⟨rfl, HU.out _ HB.out⟩
set_option maxRecDepth 20000 in
set_option maxHeartbeats 2000000 in
theorem meet_out (x : UX w B L ub mv wv mb ov tv u) (hB : B ≤ w.heap.size) (hO : OutL u.outs) (hn : u.outs.length ≤ 1000000) (a : Int) (n : Nat) (hx : namesB (a, n) = true) (hh : hasI (a, n) u.outs = false) :
    Calls Tryz.prog 67 #[.pointer (some ⟨ub, 0, none⟩), .agg #[.int .i64 a, .int .u64 (n : Int)]] w fun e w' => e = .returned (.tuple #[]) ∧ UGo w w' B L ub (u.meet (a, n)) := by
  obtain ⟨w1, hw1⟩ : ∃ z, z = w.alloc (.cells #[.int .i64 a, .int .u64 (n : Int)] 55) := ⟨_, rfl⟩
  have b1 : Below w.heap.size w w1 := by rw [hw1]; exact bel_alloc _ _
  have d0 : w1.cell? ⟨w.heap.size, 0, none⟩ = some (.int .i64 a) := by rw [hw1]; simp
  have d1 : w1.cell? ⟨w.heap.size, 1, none⟩ = some (.int .u64 (n : Int)) := by rw [hw1]; simp
  have x1 := x.below b1
  have c1 := x1.c1
  obtain ⟨ao, cap, hov, _, _, hat⟩ := x1.oo.at
  have bd := below_drew0 w1
  have HBS : Hid (∀ W, Below w1.heap.size w1 W → Calls Tryz.prog 84 #[.slice ao u.outs.length cap, .agg #[.int .i64 a, .int .u64 (n : Int)], .func (.func 85) #[] #[]] W fun e w' => e = .returned (.tuple #[.int .i64 (posI (a, n) u.outs : Int), .bool false]) ∧ Below W.heap.size W w') := fun W hW => by
    have := bsF_any ao cap u.outs.length u.outs (a, n) W rfl hO hx hn (fun j hj => by
      obtain ⟨g, e, h2, h3, h4, h5⟩ := hat j hj
      exact ⟨g, e, Nat.lt_of_lt_of_le h3 hW.size, (hW.cell (p := ⟨g, j * 2, none⟩) h3).trans h4, (hW.cell (p := ⟨g, j * 2 + 1, none⟩) h3).trans h5⟩)
    rw [hh] at this
    exact this
  have hBS := HBS.out _ bd
  have hpl := posI_le (a, n) u.outs
  have hul : ub < w1.heap.size := x1.box.lt
  have hwl : w.heap.size < w1.heap.size := cell_lt d0
  have HX : Hid (∀ W, Below w1.heap.size w1 W → W.cell? ⟨ub, 1, none⟩ = some (.slice ao u.outs.length cap) ∧ W.cell? ⟨w.heap.size, 0, none⟩ = some (.int .i64 a) ∧ W.cell? ⟨w.heap.size, 1, none⟩ = some (.int .u64 (n : Int))) := fun W hW => ⟨by rw [← hov]; exact (hW.cell (p := ⟨ub, 1, none⟩) hul).trans c1, (hW.cell (p := ⟨w.heap.size, 0, none⟩) hwl).trans d0, (hW.cell (p := ⟨w.heap.size, 1, none⟩) hwl).trans d1⟩
  have HI : Hid (∀ W, Below w1.heap.size w1 W → Calls Tryz.prog 87 #[.slice ao u.outs.length cap, .int .i64 (posI (a, n) u.outs : Int), .slice (some ⟨W.heap.size, 0, none⟩) 1 1] (W.alloc (.cells #[.int .i64 a, .int .u64 (n : Int)] 55)).drew fun e w' =>
      ∃ v', e = .returned v' ∧ UGo w (w'.setCell ⟨ub, 1, none⟩ v') B L ub (u.meet (a, n)) ∧ w'.cell? ⟨ub, 1, none⟩ = some (.slice ao u.outs.length cap) ∧ w'.frozen? ⟨ub, 1, none⟩ = false ∧ ub < w'.heap.size ∧ ∃ ao5 n5 c5, v' = .slice ao5 n5 c5) := fun W hW => by
    have hA : Below W.heap.size W (W.alloc (.cells #[.int .i64 a, .int .u64 (n : Int)] 55)).drew := (bel_alloc W _).trans ((below_drew0 _).mono (by simp))
    have b2 := hW.trans (hA.mono hW.size)
    have b3 : Below w.heap.size w (W.alloc (.cells #[.int .i64 a, .int .u64 (n : Int)] 55)).drew := b1.trans (b2.mono b1.size)
    have x2 := x.below b3
    have ho := x2.oo
    have hnb : w.heap.size < W.heap.size := Nat.lt_of_lt_of_le hwl hW.size
    have hne : ov.ownBlock ≠ some W.heap.size := fun e => by
      have := (x.oo.ge _ e).2
      omega
    have hrow : (W.alloc (.cells #[.int .i64 a, .int .u64 (n : Int)] 55)).drew.heap[W.heap.size]? = some (.cells ([Value.int .i64 a, Value.int .u64 (n : Int)]).toArray 55 (0, 0)) := heap_alloc_new W _
    have ho0 : World.ownsRow (W.alloc (.cells #[.int .i64 a, .int .u64 (n : Int)] 55)).drew 0 55 2 ov u.outs.length (idsV u.outs) := ho.mono (Nat.zero_le _)
    rw [← hov]
    refine (insD_any ov u.outs.length (posI (a, n) u.outs) W.heap.size (idsV u.outs) [.int .i64 a, .int .u64 (n : Int)] _ ho0 hpl hn hrow rfl hne (idsV_one u.outs) (by simp [Value.oneCell'])).mono ?_
    rintro e w' ⟨v', rfl, ho', hk', hm'⟩
    have hob := own_back (B := B) ho ho' hm' (by have := b3.size; omega)
    have e1 : (idsV u.outs).take (posI (a, n) u.outs * 2) ++ ([.int .i64 a, .int .u64 (n : Int)] ++ (idsV u.outs).drop (posI (a, n) u.outs * 2)) = idsV (meetL u.outs (a, n)) := by
      unfold meetL
      rw [if_neg (by rw [hh]; simp), idsV_take, idsV_drop, idsV_app]
      rfl
    have e2 : u.outs.length + 1 = (meetL u.outs (a, n)).length := by
      unfold meetL
      rw [if_neg (by rw [hh]; simp)]
      simp
      omega
    rw [e1, e2] at hob
    obtain ⟨g, h1, h2⟩ := x.outl b3 hk' (w2 := w') (ov2 := v') (l := meetL u.outs (a, n)) hob hm'
    obtain ⟨ao5, c5, h5, _⟩ := own_slice hob
    exact ⟨v', rfl, g, by rw [← hov] at *; exact h1, h2, cell_lt h1, ao5, _, c5, h5⟩
  have HW : Hid (w.alloc (.cells #[.int .i64 a, .int .u64 (n : Int)] 55) = w1) := hw1.symm
  rw [hov] at c1
  have HBD : Hid _ := hidden bd
  clear x x1 hat hov b1 hw1 hx hh hO HBS bd
  generalize posI (a, n) u.outs = P at *
  generalize u.outs.length = k at *
  go_enter Tryz.func67, Tryz.ntmps67
  go_upto_region 1 with fail
  rw [HW.out]
  go_cut [4, 5] from 6 to 14 (fun s t wc => s = .int .i64 (P : Int) ∧ t = .bool false ∧ Below w1.heap.size w1 wc)
  case first =>
    go_region_with (go_at_call 84; refine hBS.mono ?_; rintro e w2 ⟨rfl, b2⟩)
    all_goals
      go_wp2
      go_meet
      exact ⟨rfl, rfl, HBD.out.trans b2⟩
  case rest =>
    obtain ⟨rfl, rfl, b2⟩ := hcut
    have hI := HI.out _ b2
    obtain ⟨c1', d0', d1'⟩ := HX.out _ b2
    have hul' : ub < wc.heap.size := Nat.lt_of_lt_of_le hul b2.size
    have hwl' : w.heap.size < wc.heap.size := Nat.lt_of_lt_of_le hwl b2.size
    clear hBS d0 d1 c1 b2 HI HX
    go_upto_region 3 with fail
    go_region_with (go_at_call 87; refine hI.mono ?_; rintro e w5 ⟨v5, rfl, g5, e5, e6, e7, ao5, n5, c5, hv5⟩; have HG : Hid _ := hidden g5; clear g5; subst hv5)
    all_goals
      go_end0
      exact ⟨rfl, HG.out⟩
theorem meet_any' (x : UX w B L ub mv wv mb ov tv u) (hB : B ≤ w.heap.size) (hO : OutL u.outs) (hn : u.outs.length ≤ 1000000) (a : Int) (n : Nat) (hx : namesB (a, n) = true) :
    Calls Tryz.prog 67 #[.pointer (some ⟨ub, 0, none⟩), .agg #[.int .i64 a, .int .u64 (n : Int)]] w fun e w' => e = .returned (.tuple #[]) ∧ UGo w w' B L ub (u.meet (a, n)) := by
  cases hh : hasI (a, n) u.outs with
  | true => exact meet_in x hO hn a n hx hh
  | false => exact meet_out x hB hO hn a n hx hh
end
end Go.Proofs.YtlabdbfmfejkaaaGreatDoor

namespace Go.Proofs.YtlabdbfmfejkaaaGreatDoor
open Go.RowKit

section
/-- Four blocks that were laid one behind the other. -/
theorem four_new (w : World) (a b c d : Obj) : (((((w.alloc a).alloc b).alloc c).alloc d).heap[w.heap.size]? = some a) ∧ ((((w.alloc a).alloc b).alloc c).alloc d).heap[w.heap.size + 1]? = some b ∧ ((((w.alloc a).alloc b).alloc c).alloc d).heap[w.heap.size + 1 + 1]? = some c ∧ ((((w.alloc a).alloc b).alloc c).alloc d).heap[w.heap.size + 1 + 1 + 1]? = some d ∧ ((((w.alloc a).alloc b).alloc c).alloc d).heap.size = w.heap.size + 4 := by
  have e : ((((w.alloc a).alloc b).alloc c).alloc d).heap = (((w.heap.push a).push b).push c).push d := rfl
  rw [e]
  refine ⟨?_, ?_, ?_, ?_, ?_⟩
  · rw [Array.getElem?_push, if_neg (by simp only [Array.size_push]; omega), Array.getElem?_push, if_neg (by simp only [Array.size_push]; omega), Array.getElem?_push, if_neg (by simp only [Array.size_push]; omega), Array.getElem?_push, if_pos rfl]
  · rw [Array.getElem?_push, if_neg (by simp only [Array.size_push]; omega), Array.getElem?_push, if_neg (by simp only [Array.size_push]; omega), Array.getElem?_push, if_pos (by simp only [Array.size_push])]
  · rw [Array.getElem?_push, if_neg (by simp only [Array.size_push]; omega), Array.getElem?_push, if_pos (by simp only [Array.size_push])]
  · rw [Array.getElem?_push, if_pos (by simp only [Array.size_push])]
  · simp
set_option maxRecDepth 20000 in
set_option maxHeartbeats 1000000 in
theorem begun_any (s : Nat) (w : World) :
    Calls Tryz.prog 69 #[.int .u64 (s : Int)] w fun e w' => ∃ ub L', e = .returned (.pointer (some ⟨ub, 0, none⟩)) ∧ UN w' w.heap.size L' ub (Und.new s) ∧ (∀ k, 1 ≤ L' k ∧ (6 < L' k → 9 ≤ L' k)) ∧ Below w.heap.size w w' := by
  have hmm := @run_makeMap Tryz.prog
  have hmf : ∀ (fn : Fn) (first cap : Array Value) (w : World), (Instr.makeFunc fn first cap).run Tryz.prog w = .ok (.func fn first cap) w := fun _ _ _ _ => rfl
  obtain ⟨w4, hw4⟩ : ∃ z, z = (((w.alloc (.cells #[.int .u64 (s : Int), .slice none 0 0, .slice none 0 0, .nilFunc] 136)).alloc (.cells #[.pointer (some ⟨w.heap.size, 0, none⟩)] 80)).alloc (.map #[] 0)).alloc (.cells #[.map (some (w.heap.size + 1 + 1))] 168) := ⟨_, rfl⟩
  obtain ⟨n0, n1, n2, n3, n4⟩ := four_new w (.cells #[.int .u64 (s : Int), .slice none 0 0, .slice none 0 0, .nilFunc] 136) (.cells #[.pointer (some ⟨w.heap.size, 0, none⟩)] 80) (.map #[] 0) (.cells #[.map (some (w.heap.size + 1 + 1))] 168)
  rw [← hw4] at n0 n1 n2 n3 n4
  have HW : Hid ((((w.alloc (.cells #[.int .u64 (s : Int), .slice none 0 0, .slice none 0 0, .nilFunc] 136)).alloc (.cells #[.pointer (some ⟨w.heap.size, 0, none⟩)] 80)).alloc (.map #[] 0)).alloc (.cells #[.map (some (w.heap.size + 1 + 1))] 168) = w4) := hw4.symm
  have hB4 : Below w.heap.size w w4 := by
    rw [hw4]
    exact ((((Below.refl _ _).alloc (Nat.le_refl _) _).alloc (by simp only [World.size_alloc]; omega) _).alloc (by simp only [World.size_alloc]; omega) _).alloc (by simp only [World.size_alloc]; omega) _
  have r0 : Row w4 w.heap.size 136 [.int .u64 (s : Int), .slice none 0 0, .slice none 0 0, .nilFunc] := n0
  have r1 : Row w4 (w.heap.size + 1) 80 [.pointer (some ⟨w.heap.size, 0, none⟩)] := n1
  have r3 : Row w4 (w.heap.size + 1 + 1 + 1) 168 [.map (some (w.heap.size + 1 + 1))] := n3
  have q2 : MQ eU w4 (w.heap.size + 1 + 1) (([] : List Nat).map (fun s => (s, Value.agg #[]))) := ⟨⟨[], 0, n2, rfl, by simp, by simp⟩, by simp⟩
  have hks : Kept w4 (w4.setCell ⟨w.heap.size, 3, none⟩ (putV (w.heap.size + 1 + 1 + 1) (w.heap.size + 1))) (fun k => k = w.heap.size) := Kept.setCell _ _ _
  have hB5 : Below w.heap.size w (w4.setCell ⟨w.heap.size, 3, none⟩ (putV (w.heap.size + 1 + 1 + 1) (w.heap.size + 1))) := hB4.trans (hks.below (by omega) (fun i hi => by show ¬ (i = w.heap.size); omega))
  have hz5 := hks.size
  have x5 : UX (w4.setCell ⟨w.heap.size, 3, none⟩ (putV (w.heap.size + 1 + 1 + 1) (w.heap.size + 1))) w.heap.size (fun k => if k = w.heap.size then 1 else if k = w.heap.size + 1 then 3 else if k = w.heap.size + 1 + 1 then 4 else if k = w.heap.size + 1 + 1 + 1 then 2 else 9) w.heap.size (w.heap.size + 1 + 1 + 1) (w.heap.size + 1) (w.heap.size + 1 + 1) (.slice none 0 0) (.slice none 0 0) ⟨s, [], [], []⟩ := by
    refine ⟨r0.set 3 _, r3.kept hks (by show ¬ (_ = _); omega), r1.kept hks (by show ¬ (_ = _); omega), q2.kept hks (by show ¬ (_ = _); omega), OwI.nil _ _, ⟨rfl, Or.inl ⟨rfl, rfl⟩⟩, ?_, ?_, ?_, ?_, (fun k e => by cases e), (fun k e => by cases e), fun k e => ?_⟩
    · simp
    · rw [if_neg (by omega), if_neg (by omega), if_neg (by omega), if_pos rfl]
    · rw [if_neg (by omega), if_pos rfl]
    · rw [if_neg (by omega), if_neg (by omega), if_pos rfl]
    · by_cases e0 : k = w.heap.size
      · omega
      · by_cases e1 : k = w.heap.size + 1
        · omega
        · by_cases e2 : k = w.heap.size + 1 + 1
          · omega
          · by_cases e3 : k = w.heap.size + 1 + 1 + 1
            · omega
            · rw [if_neg e0, if_neg e1, if_neg e2, if_neg e3] at e
              omega
  have c3 := r0.cell 3 (by simp)
  have f3 := r0.frozen 3
  have v0 := r1.cell 0 (by simp)
  simp only [List.getElem_cons_succ, List.getElem_cons_zero] at c3 v0
  have hl4 : w.heap.size < w4.heap.size := by omega
  have hl41 : w.heap.size + 1 < w4.heap.size := by omega
  have HX : Hid _ := hidden x5
  have HB : Hid _ := hidden hB5
  clear x5 hB5 hB4 hks q2 r0 r1 r3 n0 n1 n2 n3 hw4
  go_enter Tryz.func69, Tryz.ntmps69
  go_upto_region 3 with fail
  rw [HW.out]
  go_upto_region 4 with fail
  have hv5 : w.heap.size + 1 < (w4.setCell ⟨w.heap.size, 3, none⟩ (putV (w.heap.size + 1 + 1 + 1) (w.heap.size + 1))).heap.size := by omega
  have v5 := HX.out.v0
  go_wp2_with fail
  refine (put_any HX.out (by omega) s (Nat.zero_le _)).mono ?_
  rintro e w6 ⟨rfl, g6⟩
  have v6 := cell_kept v5 g6.kept (fun e => by
    rw [if_neg (by omega), if_pos rfl] at e
    omega)
  obtain ⟨L', x6, a6, b6⟩ := g6.ex
  have e6 : Und.put ⟨s, [], [], []⟩ s = Und.new s := rfl
  rw [e6] at x6
  have HB6 : Hid (Below w.heap.size w w6) := HB.out.trans (g6.kept.below HB.out.size (fun i hi e => by
    rw [if_neg (by omega), if_neg (by omega), if_neg (by omega), if_neg (by omega)] at e
    omega))
  have HX6 : Hid _ := hidden x6
  have HL6 : Hid (∀ k, 1 ≤ L' k ∧ (6 < L' k → 9 ≤ L' k)) := fun k => by
    by_cases hk : k < (w4.setCell ⟨w.heap.size, 3, none⟩ (putV (w.heap.size + 1 + 1 + 1) (w.heap.size + 1))).heap.size
    · rw [a6 k hk]
      split
      · omega
      · split
        · omega
        · split
          · omega
          · split <;> omega
    · exact b6 k (by omega)
  clear x6 a6 b6 g6 v5 HX HB v0 c3 f3
  go_wp2
  go_ret
  exact ⟨w.heap.size, L', rfl, HX6.out, HL6.out, HB6.out⟩
end
end Go.Proofs.YtlabdbfmfejkaaaGreatDoor

namespace Go.Proofs.YtlabdbfmfejkaaaGreatDoor
open Go.RowKit

theorem Tryz.infoReach : (Tryz.prog.info? 65).map (fun i => (i.zero, i.size, i.bytes)) = some (some (.agg #[.int .u64 0, .slice none 0 0]), 2, 32) := by kernel_rfl
/-- One ended row in a block, as append lays it. -/
theorem sr_reach (w : World) (s : Nat) (v : Value) (h1 : v.oneCell' = true) (T : TypeId) : Sr (w.alloc (.cells #[.int .u64 (s : Int), v] T)) (.slice (some ⟨w.heap.size, 0, none⟩) 1 1) 2 1 [.int .u64 (s : Int), v] := by
  have h := heap_alloc_new w (.cells #[.int .u64 (s : Int), v] T)
  refine ⟨rfl, Or.inr ⟨⟨w.heap.size, 0, none⟩, 1, rfl, fun j x hx => ?_⟩, ?_⟩
  · rw [Addr.add_at, Nat.zero_add, cell_of_row _ _ _ _ _ _ h]
    simpa using hx
  · intro u hu
    simp only [List.mem_cons, List.not_mem_nil, or_false] at hu
    rcases hu with rfl | rfl
    · rfl
    · exact h1
/-- The label behind a row's end. -/
def endL (n : Nat) : Nat := if n = 5 then 8 else if 1 ≤ n ∧ n ≤ 6 then 9 else n
section
variable {w w1 w2 : World} {B xb hb pb ub mv wv mb : Nat} {L L2 : Nat → Nat} {uv ev ov tv : Value} {es : List ((Nat × List (Int × Nat)) × Value)} {r : RSt} {u : Und}
theorem RcX.setPlace (x : RcX w B xb hb pb L uv ev es r) (s : Nat) : RcX (w.setCell ⟨xb, 3, none⟩ (.int .u64 (s : Int))) B xb hb pb L uv ev es { r with place := s } ∧ Kept w (w.setCell ⟨xb, 3, none⟩ (.int .u64 (s : Int))) (fun k => L k < 9) := by
  have hk : Kept w (w.setCell ⟨xb, 3, none⟩ (.int .u64 (s : Int))) (fun k => k = xb) := Kept.setCell _ _ _
  have h0 := x.l0
  refine ⟨⟨x.box.set 3 _, ?_, x.en.kept hk (fun k h1 h2 e => by have e' : k = xb := e; subst e'; omega), x.es, x.l0, fun k e => ⟨(x.lo k e).1, Nat.lt_of_lt_of_le (x.lo k e).2 hk.size⟩⟩, hk.mono (fun k _ e => by have e' : k = xb := e; subst e'; omega)⟩
  have h := x.un
  show match r.und with
    | none => uv = .pointer none
    | some u => ∃ ub, uv = .pointer (some ⟨ub, 0, none⟩) ∧ UN _ B L ub u
  cases hu : r.und with
  | none => rw [hu] at h; exact h
  | some u =>
    rw [hu] at h
    obtain ⟨ub, e, y⟩ := h
    exact ⟨ub, e, y.kept hk (fun k h1 h2 e => by have e' : k = xb := e; subst e'; omega)⟩
/-- The row under way is ended. -/
theorem RcX.ends (x : RcX w B xb hb pb L uv ev es r) (hu : r.und = some u) (y : UX w B L ub mv wv mb ov tv u) (hb1 : Below w.heap.size w w1) {ev2 : Value} (hk : Kept w1 w2 (fun k => ev.ownBlock = some k)) (ho : w2.ownsRow B 65 2 ev2 (es.length + 1) (endV es ++ [.int .u64 (u.inn : Int), ov])) (hm : Moved w1 ev ev2) :
    RcGo w ((w2.setCell ⟨xb, 5, none⟩ ev2).setCell ⟨xb, 4, none⟩ (.pointer none)) B xb hb pb L r.endS ∧ w2.cell? ⟨xb, 5, none⟩ = some ev ∧ w2.cell? ⟨xb, 4, none⟩ = some uv ∧ w2.frozen? ⟨xb, 5, none⟩ = false ∧ w2.frozen? ⟨xb, 4, none⟩ = false := by
  have hs := hb1.size
  have hk2 := hk.size
  have x1 := x.below hb1
  have h0 := x.l0
  have r2 := x1.box.kept hk (fun e => by have := x.en.l7 _ e; omega)
  have hks : Kept w2 ((w2.setCell ⟨xb, 5, none⟩ ev2).setCell ⟨xb, 4, none⟩ (.pointer none)) (fun k => k = xb) := (Kept.setCell w2 ⟨xb, 5, none⟩ ev2).trans (Kept.setCell _ ⟨xb, 4, none⟩ (.pointer none)) (fun _ _ e => e)
  have hall : Kept w1 ((w2.setCell ⟨xb, 5, none⟩ ev2).setCell ⟨xb, 4, none⟩ (.pointer none)) (fun k => k = xb ∨ ev.ownBlock = some k) := (hk.mono (fun _ _ e => Or.inr e)).trans hks (fun _ _ e => Or.inl e)
  have ht2 : ∀ k, ev2.ownBlock = some k → ev.ownBlock = some k ∨ w.heap.size ≤ k := fun k e => by
    rcases hm k e with a | a
    · exact Or.inl a
    · exact Or.inr (by omega)
  have hes : r.endS = ⟨r.sus, r.place, none, (es ++ [((u.inn, u.outs), ov)]).map (·.1)⟩ := by
    unfold RSt.endS
    rw [hu]
    simp only [x.es, List.map_append, List.map_cons, List.map_nil]
  rw [hes]
  refine ⟨⟨⟨reL w (fun k => endL (L k)) (fun k => if ev2.ownBlock = some k then 7 else 9), ⟨.pointer none, ev2, es ++ [((u.inn, u.outs), ov)], ⟨(r2.set 5 ev2).set 4 (.pointer none), rfl, ?_, rfl, ?_, fun k e => ?_⟩⟩, fun k e => ?_⟩, (kept_of_below hb1 _).trans (hall.mono (S' := fun k => L k < 9) (fun k _ e => ?_)) (fun _ _ e => e)⟩, r2.cell 5 (by simp), r2.cell 4 (by simp), r2.frozen 5, r2.frozen 4⟩
  · have e1 : endV es ++ [.int .u64 (u.inn : Int), ov] = endV (es ++ [((u.inn, u.outs), ov)]) := by rw [endV_app]; rfl
    have e2 : es.length + 1 = (es ++ [((u.inn, u.outs), ov)]).length := by simp
    rw [e1, e2] at ho
    refine ⟨own_kept ho hks (fun k h e => ?_), fun k e => ?_, fun e he k h => ?_, fun e he => ?_⟩
    · have e' : k = xb := e
      subst e'
      rcases ht2 k h with a | a
      · have := x.en.l7 _ a; omega
      · have := x.box.lt; omega
    · rcases ht2 k e with a | a
      · rw [reL_old (own_lt1 x.en.ow k a).2]
        show endL (L k) = 7
        rw [x.en.l7 k a]
        rfl
      · rw [reL_new a, if_pos e]
    · rcases List.mem_append.1 he with he | he
      · rw [reL_old ((x.en.sr e he).ge k h).2]
        show endL (L k) = 8
        rw [x.en.l8 e he k h]
        rfl
      · rw [List.mem_singleton] at he
        subst he
        rw [reL_old (y.oo.ge k h).2]
        show endL (L k) = 8
        rw [y.l5 k h]
        rfl
    · rcases List.mem_append.1 he with he | he
      · refine ((x.en.sr e he).below hb1).kept hall (fun k h => ?_)
        have h8 := x.en.l8 e he k h
        rintro (e | e)
        · rw [e] at h8; omega
        · have := x.en.l7 k e; omega
      · rw [List.mem_singleton] at he
        subst he
        refine (y.oo.below hb1).kept hall (fun k h => ?_)
        have h8 := y.l5 k h
        rintro (e | e)
        · rw [e] at h8; omega
        · have := x.en.l7 k e; omega
  · rw [reL_old x.box.lt]
    show endL (L xb) = 0
    rw [h0]
    rfl
  · by_cases hkw : k < w.heap.size
    · have hl := hall.size
      rw [reL_old hkw] at e
      have e' : L k < 9 := by
        unfold endL at e
        by_cases e5 : L k = 5
        · omega
        · rw [if_neg e5] at e
          by_cases e6 : 1 ≤ L k ∧ L k ≤ 6
          · omega
          · rw [if_neg e6] at e
            exact e
      have := x.lo k e'
      exact ⟨this.1, by omega⟩
    · rw [reL_new (by omega)] at e
      by_cases h6 : ev2.ownBlock = some k
      · have h3 := own_lt1 ho k h6
        have h4 := hks.size
        exact ⟨h3.1, by omega⟩
      · rw [if_neg h6] at e
        omega
  · by_cases hkw : k < w.heap.size
    · rw [reL_old hkw] at e
      unfold endL at e
      by_cases e5 : L k = 5
      · exact Or.inl (by omega)
      · rw [if_neg e5] at e
        by_cases e6 : 1 ≤ L k ∧ L k ≤ 6
        · exact Or.inl (by omega)
        · rw [if_neg e6] at e
          exact Or.inl e
    · exact Or.inr (by omega)
  · rcases e with e | e
    · rw [e, h0]; omega
    · rw [x.en.l7 k e]; omega
/-- A row begins. -/
theorem RcX.begins (x : RcX w B xb hb pb L uv ev es r) (hb1 : Below w.heap.size w w1) (hB : B ≤ w.heap.size) (un : UN w1 w.heap.size L2 ub u) :
    RcGo w (w1.setCell ⟨xb, 4, none⟩ (.pointer (some ⟨ub, 0, none⟩))) B xb hb pb L { r with und := some u } ∧ w1.cell? ⟨xb, 4, none⟩ = some uv ∧ w1.frozen? ⟨xb, 4, none⟩ = false := by
  have hs := hb1.size
  have x1 := x.below hb1
  have h0 := x.l0
  have hxl := x.box.lt
  have hks : Kept w1 (w1.setCell ⟨xb, 4, none⟩ (.pointer (some ⟨ub, 0, none⟩))) (fun k => k = xb) := Kept.setCell _ _ _
  have hz := hks.size
  obtain ⟨mv, wv, mb, ov, tv, y⟩ := un
  have hlo := y.lo
  have hnew : ∀ k, L2 k < 9 → reL w L L2 k = L2 k := fun k e => reL_new (hlo k e).1
  refine ⟨⟨⟨reL w L L2, ⟨_, ev, es, ⟨x1.box.set 4 _, ⟨ub, rfl, mv, wv, mb, ov, tv, ?_⟩, (x1.en.label (L' := reL w L L2) (fun k hk h7 h8 => ?_)).kept hks (fun k h7 h8 e => ?_), x.es, (reL_old hxl).trans h0, fun k e => ?_⟩⟩, fun k e => ?_⟩, (kept_of_below hb1 _).trans (hks.mono (S' := fun k => L k < 9) (fun k _ e => by have e' : k = xb := e; subst e'; omega)) (fun _ _ e => e)⟩, x1.box.cell 4 (by simp), x1.box.frozen 4⟩
  · have hn : ∀ k, w.heap.size ≤ k → ¬ (k = xb) := fun k hk e => by omega
    refine ⟨y.box.kept hks (hn _ (hlo _ (by rw [y.l1]; omega)).1), y.rm.kept hks (hn _ (hlo _ (by rw [y.l2]; omega)).1), y.rw.kept hks (hn _ (hlo _ (by rw [y.l3]; omega)).1), y.mq.kept hks (hn _ (hlo _ (by rw [y.l4]; omega)).1), (y.oo.kept hks (fun k h => hn _ (hlo _ (by rw [y.l5 k h]; omega)).1)).mono hB, ?_, (hnew _ (by rw [y.l1]; omega)).trans y.l1, (hnew _ (by rw [y.l2]; omega)).trans y.l2, (hnew _ (by rw [y.l3]; omega)).trans y.l3, (hnew _ (by rw [y.l4]; omega)).trans y.l4, fun k h => (hnew _ (by rw [y.l5 k h]; omega)).trans (y.l5 k h), fun k h => (hnew _ (by rw [y.l6 k h]; omega)).trans (y.l6 k h), fun k e => ?_⟩
    · have ho := own_kept y.ow hks (fun k h => hn _ (hlo _ (by rw [y.l6 k h]; omega)).1)
      refine ⟨ho.1, ?_⟩
      rcases ho.2 with a | ⟨g, cap, cur, q1, q2, q3⟩
      · exact Or.inl a
      · exact Or.inr ⟨g, cap, cur, q1, by omega, q3⟩
    · by_cases hkw : k < w.heap.size
      · rw [reL_old hkw] at e
        exact ⟨(x.lo k e).1, by omega⟩
      · rw [reL_new (by omega)] at e
        have := hlo k e
        exact ⟨by omega, by omega⟩
  · have := x.lo k (by omega)
    exact reL_old this.2
  · have e' : k = xb := e
    subst e'
    rw [reL_old hxl] at h7
    omega
  · by_cases hkw : k < w.heap.size
    · rw [reL_old hkw] at e
      exact ⟨(x.lo k e).1, by omega⟩
    · rw [reL_new (by omega)] at e
      have := hlo k e
      exact ⟨by omega, by omega⟩
  · by_cases hkw : k < w.heap.size
    · rw [reL_old hkw] at e
      exact Or.inl e
    · exact Or.inr (by omega)
theorem end_place (r : RSt) (s : Nat) : RSt.endS { r with place := s } = { r.endS with place := s } := by
  obtain ⟨t, q, un, e⟩ := r
  cases un <;> rfl
end
end Go.Proofs.YtlabdbfmfejkaaaGreatDoor

namespace Go.Proofs.YtlabdbfmfejkaaaGreatDoor
open Go.RowKit

/-- IDs are copied. -/
theorem own_emptyI {w : World} {base g : Nat} (hg : w.heap[g]? = some (.cells #[] 55 (0, 0))) (hb : base ≤ g) : OwI w base (.slice (some ⟨g, 0, none⟩) 0 0) [] :=
  ⟨by simp [idsV], Or.inr ⟨g, 0, #[], rfl, hb, hg, Nat.le_refl _, Nat.zero_le _, by simp, by simp [idsV]⟩⟩
set_option maxRecDepth 20000 in
set_option maxHeartbeats 1000000 in
theorem clone_any {w : World} {B : Nat} {v : Value} {l : List (Int × Nat)} (x : OwI w B v l) (hl : l.length ≤ 1000000) :
    Calls Tryz.prog 42 #[v] w fun e w' => ∃ v', e = .returned v' ∧ OwI w' w.heap.size v' l ∧ Below w.heap.size w w' := by
  obtain ⟨ao, cap, rfl, _, _, hc0⟩ := x.slice
  cases ao with
  | none =>
    have e0 := hc0 rfl
    subst e0
    have e1 : l = [] := by
      rcases x.2 with ⟨_, h0⟩ | ⟨g, cap, cur, h0, _⟩
      · exact List.eq_nil_of_length_eq_zero h0
      · cases h0
    subst e1
    have hq := @Lib.run_eql_slice_nil Tryz.prog
    clear x
    go_enter Tryz.func42, Tryz.ntmps42
    go_wp2
    go_ret
    exact ⟨_, rfl, OwI.nil _ _, Below.refl _ _⟩
  | some ad =>
    have hq := @Lib.run_eql_slice_nil Tryz.prog
    have HX : Hid _ := hidden x
    have HA : Hid (Below w.heap.size w (w.alloc (.cells #[] 55))) := bel_alloc w _
    have HL : Hid (l.length ≤ 1000000) := hl
    have HN : Hid (0 + l.length = l.length) := Nat.zero_add _
    clear x hl hc0
    go_enter Tryz.func42, Tryz.ntmps42
    go_wp2_with (at_builtin; refine wpList_owI rfl (.tmp 5) (.tmp 6) rfl w.heap.size (.slice (some ⟨w.heap.size, 0, none⟩) 0 0) [] (by rfl) (own_emptyI (heap_alloc_new w _) (Nat.le_refl _)) _ l (by rfl) (HX.out.below HA.out).sr (by have := HL.out; simp; omega) (by simp) ?_; intro v5 w5 ho5 hk5 hm5; rw [List.nil_append] at ho5; have HO5 : Hid _ := hidden ho5; have HB5 : Hid (Below w.heap.size w w5) := HA.out.trans (hk5.below (by simp) (fun q hq e => by simp [Value.ownBlock] at e; omega)); obtain ⟨ao5, c5, hv5, _⟩ := ho5.slice; subst hv5; clear ho5 hk5 hm5)
    go_ret
    exact ⟨_, rfl, HO5.out, HB5.out⟩
/-- Rows that were told: in memory from base on. -/
structure RL (w : World) (base : Nat) (v : Value) (ts : List ((Nat × List (Int × Nat)) × Value)) : Prop where
  ow : w.ownsRow base 65 2 v ts.length (endV ts)
  sr : ∀ e ∈ ts, OwI w base e.2 e.1.2
  ne : ∀ e ∈ ts, ∀ k, e.2.ownBlock = some k → v.ownBlock ≠ some k
theorem RL.kept {w w' : World} {base : Nat} {v : Value} {ts : List ((Nat × List (Int × Nat)) × Value)} {S : Nat → Prop} (x : RL w base v ts) (hk : Kept w w' S) (hs : ∀ k, base ≤ k → k < w.heap.size → ¬ S k) : RL w' base v ts :=
  ⟨own_kept x.ow hk (fun k e => hs k (own_lt1 x.ow k e).1 (own_lt1 x.ow k e).2), fun e he => (x.sr e he).kept hk (fun k h => hs k ((x.sr e he).ge k h).1 ((x.sr e he).ge k h).2), x.ne⟩
theorem RL.below {w w' : World} {base : Nat} {v : Value} {ts : List ((Nat × List (Int × Nat)) × Value)} (x : RL w base v ts) (hB : Below w.heap.size w w') : RL w' base v ts := x.kept (kept_of_below hB (fun _ => False)) (fun _ _ _ => id)
theorem RL.nil (w : World) (n base : Nat) (hb : base ≤ w.heap.size) (hn : n ≤ 1000000) : RL (w.alloc (.cells (madeCells (Value.agg #[.int .u64 0, .slice none 0 0]).cells (n * 2)) 65)) base (.slice (some ⟨w.heap.size, 0, none⟩) 0 n) [] :=
  ⟨⟨by simp [endV], Or.inr ⟨w.heap.size, n, _, rfl, hb, heap_alloc_new w _, Nat.zero_le _, by unfold maxLen; omega, by rw [size_madeCells], by simp [endV]⟩⟩, (fun _ he => by cases he), (fun _ he => by cases he)⟩
theorem RL.more {w wx w2 w5 : World} {base : Nat} {v v2 v5 : Value} {ts : List ((Nat × List (Int × Nat)) × Value)} {inn : Nat} {l : List (Int × Nat)} (x : RL w base v ts) (hx : Below w.heap.size w wx) (hb : base ≤ w.heap.size) (o2 : OwI w2 wx.heap.size v2 l) (b2 : Below wx.heap.size wx w2) (o : Obj)
    (ho : w5.ownsRow base 65 2 v5 (ts.length + 1) (endV ts ++ [.int .u64 (inn : Int), v2])) (hk : Kept (w2.alloc o) w5 (fun k => v.ownBlock = some k)) (hm : Moved (w2.alloc o) v v5) : RL w5 base v5 (ts ++ [((inn, l), v2)]) ∧ Below base w w5 := by
  have h1 := hx.size
  have h2 := b2.size
  have e1 : endV ts ++ [.int .u64 (inn : Int), v2] = endV (ts ++ [((inn, l), v2)]) := by rw [endV_app]; rfl
  have e2 : ts.length + 1 = (ts ++ [((inn, l), v2)]).length := by simp
  rw [e1, e2] at ho
  have hB2 : Below w.heap.size w (w2.alloc o) := (hx.trans (b2.mono h1)).trans ((bel_alloc w2 o).mono (by omega))
  have hzz : (w2.alloc o).heap.size = w2.heap.size + 1 := by simp
  have hno : ∀ k, v.ownBlock = some k → base ≤ k ∧ k < w.heap.size := own_lt1 x.ow
  refine ⟨⟨ho, fun e he => ?_, fun e he k h h5 => ?_⟩, (hB2.mono hb).trans (hk.below (by omega) (fun i hi e => by have := hno i e; omega))⟩
  · rcases List.mem_append.1 he with he | he
    · exact ((x.sr e he).below hB2).kept hk (fun k h => x.ne e he k h)
    · rw [List.mem_singleton] at he
      subst he
      refine ((o2.mono (base' := base) (by omega)).below (bel_alloc w2 o)).kept hk (fun k h e => ?_)
      have := (o2.ge k h).1
      have := (hno k e).2
      omega
  · rcases List.mem_append.1 he with he | he
    · rcases hm k h5 with a | a
      · exact x.ne e he k h a
      · have := ((x.sr e he).ge k h).2; omega
    · rw [List.mem_singleton] at he
      subst he
      have q := o2.ge k h
      rcases hm k h5 with a | a
      · have := (hno k a).2; omega
      · omega
set_option maxRecDepth 20000 in
set_option maxHeartbeats 4000000 in
theorem rows_any {w : World} {B xb hb pb : Nat} {L : Nat → Nat} {r : RSt} (x : RcN w B xb hb pb L r) (hl : r.ended.length ≤ 100000) (hlo : ∀ e ∈ r.ended, e.2.length ≤ 1000000) :
    Calls Tryz.prog 14 #[.pointer (some ⟨xb, 0, none⟩)] w fun e w' => ∃ v ts, e = .returned v ∧ RL w' w.heap.size v ts ∧ ts.map (·.1) = r.ended ∧ Below w.heap.size w w' := by
  obtain ⟨uv, ev, es, x⟩ := x
  have c5 := x.c5
  have hes := x.es
  rw [hes] at hl hlo ⊢
  rw [List.length_map] at hl
  obtain ⟨eo, ecap, hev, _⟩ := own_slice x.en.ow
  have hxl := x.box.lt
  have HC : Hid (∀ W i (hB : Below w.heap.size w W) (hi : i < es.length), ∃ ge, eo = some ⟨ge, 0, none⟩ ∧ ge < W.heap.size ∧ W.cell? ⟨ge, i * 2, none⟩ = some (.int .u64 (es[i].1.1 : Int)) ∧ W.cell? ⟨ge, i * 2 + 1, none⟩ = some es[i].2 ∧ OwI W B es[i].2 es[i].1.2 ∧ es[i].1.2.length ≤ 1000000) := fun W i hB hi => by
    obtain ⟨e0, e1⟩ := endV_at es i hi
    have hmem := List.getElem_mem hi
    have ho := (x.en.sr _ hmem).below hB
    have hll := hlo es[i].1 (List.mem_map.2 ⟨_, hmem, rfl⟩)
    rcases x.en.ow.2 with ⟨_, h0⟩ | ⟨g, cap, cur, hv, hbg, hg, hn, hm, hs, ht⟩
    · omega
    · rw [hev] at hv
      simp only [Value.slice.injEq] at hv
      obtain ⟨rfl, _, rfl⟩ := hv
      have hgl := (Array.getElem?_eq_some_iff.1 hg).1
      have hcell : ∀ (j : Nat) (u : Value), (endV es)[j]? = some u → w.cell? ⟨g, j, none⟩ = some u := fun j u hu => by
        rw [cell_of_row w g j _ _ _ hg]
        rw [← ht, List.getElem?_take] at hu
        split at hu
        · simpa using hu
        · cases hu
      exact ⟨g, rfl, Nat.lt_of_lt_of_le hgl hB.size, (hB.cell (p := ⟨g, i * 2, none⟩) hgl).trans (hcell _ _ e0), (hB.cell (p := ⟨g, i * 2 + 1, none⟩) hgl).trans (hcell _ _ e1), ho, hll⟩
  rw [hev] at c5
  obtain ⟨i0, hi0, hz0, hz1, hz2⟩ := info_parts Tryz.infoReach
  have hmk : ∀ W : World, (Instr.makeSlice 43 (.int .i64 0) (.int .i64 (es.length : Int))).run Tryz.prog W = .ok (.slice (some ⟨W.heap.size, 0, none⟩) 0 es.length) (W.alloc (.cells (madeCells (Value.agg #[.int .u64 0, .slice none 0 0]).cells (es.length * 2)) 65)) := fun W => by
    have := run_make (P := Tryz.prog) W 43 65 i0 _ Tryz.underlying43 hi0 hz0 .i64 .i64 (0 : Int) (es.length : Int) (by omega) (by omega) (by rw [hz2]; omega) (by omega)
    rw [hz1, Int.toNat_natCast] at this
    exact this
  have HNil : Hid (RL (w.alloc (.cells (madeCells (Value.agg #[.int .u64 0, .slice none 0 0]).cells (es.length * 2)) 65)) w.heap.size (.slice (some ⟨w.heap.size, 0, none⟩) 0 es.length) []) := RL.nil w es.length w.heap.size (Nat.le_refl _) (by omega)
  clear x hes hlo hev
  obtain ⟨Z, hZ⟩ : ∃ Z, Z = madeCells (Value.agg #[.int .u64 0, .slice none 0 0]).cells (es.length * 2) := ⟨_, rfl⟩
  rw [← hZ] at hmk HNil
  clear hZ
  obtain ⟨n, hn⟩ : ∃ n, n = es.length := ⟨_, rfl⟩
  have HN : Hid (n = es.length) := hidden hn
  rw [← hn] at hl c5 hmk HNil
  clear hn
  have hA : Below w.heap.size w (w.alloc (.cells Z 65)) := bel_alloc w _
  have c5' : ∀ o, (w.alloc o).cell? ⟨xb, 5, none⟩ = some (.slice eo n ecap) := fun o => ((bel_alloc w o).cell (p := ⟨xb, 5, none⟩) hxl).trans c5
  have HA : Hid _ := hidden hA
  clear hA
  go_enter Tryz.func14, Tryz.ntmps14
  go_wp2
  go_loopw [3, 17] (fun v t wr => ∃ (i : Nat) (ts : List ((Nat × List (Int × Nat)) × Value)), i ≤ n ∧ t = .int .i64 (i : Int) ∧ RL wr w.heap.size v ts ∧ ts.map (·.1) = (es.take i).map (·.1) ∧ Below w.heap.size w wr) (fun _ t _ => n - (intOf t).toNat)
  case atStart => exact ⟨0, [], Nat.zero_le _, rfl, HNil.out, rfl, HA.out⟩
  case round =>
    obtain ⟨i, ts, hi, rfl, z, hts, hbr⟩ := hrel
    have htl : ts.length ≤ 100000 := by
      have := congrArg List.length hts
      simp only [List.length_map, List.length_take] at this
      omega
    by_cases hlt : (i : Int) < (n : Int)
    · have hil : i < es.length := by have := HN.out; omega
      obtain ⟨ge, rfl, hgl, d0, d1, do_, hll⟩ := HC.out wr i hbr hil
      have HTS : Hid (∀ v2 : Value, (ts ++ [(es[i].1, v2)]).map (·.1) = (es.take (i + 1)).map (·.1)) := fun v2 => by
        rw [List.map_append, hts, List.take_succ_eq_append_getElem hil, List.map_append]
        rfl
      have HL : Hid (i + 1 ≤ n) := by
        have e : i + 1 ≤ n := by omega
        exact e
      generalize es[i] = y at *
      obtain ⟨⟨inn, l⟩, ov⟩ := y
      simp only at d0 d1 do_ hll
      obtain ⟨ao, cap, hov, _⟩ := do_.slice
      rw [hov] at d1
      have hbz := hbr.size
      obtain ⟨vo, vc, hv, _⟩ := own_slice z.ow
      subst hv
      obtain ⟨wx, hwx⟩ : ∃ q, q = wr.alloc (.cells #[.int .u64 (inn : Int), .slice ao l.length cap] 65) := ⟨_, rfl⟩
      have bx : Below wr.heap.size wr wx := by rw [hwx]; exact bel_alloc _ _
      have bxd : Below wr.heap.size wr wx.drew := bx.trans ((below_drew0 _).mono bx.size)
      have x0 : wx.cell? ⟨wr.heap.size, 0, none⟩ = some (.int .u64 (inn : Int)) := by rw [hwx]; simp
      have x1 : wx.cell? ⟨wr.heap.size, 1, none⟩ = some (.slice ao l.length cap) := by rw [hwx]; simp
      have hxs := cell_lt x0
      have HWX : Hid (wr.alloc (.cells #[.int .u64 (inn : Int), .slice ao l.length cap] 65) = wx) := hwx.symm
      have hCl := clone_any (do_.below bxd) hll
      rw [hov] at hCl
      have HEnd : Hid (∀ w2 v2 w5 v5, OwI w2 wx.drew.heap.size v2 l → Below wx.drew.heap.size wx.drew w2 → w5.ownsRow w.heap.size 65 2 v5 (ts.length + 1) (endV ts ++ [.int .u64 (inn : Int), v2]) → Kept (w2.alloc (.cells #[.int .u64 (inn : Int), v2] 65)) w5 (fun k => (Value.slice vo ts.length vc).ownBlock = some k) → Moved (w2.alloc (.cells #[.int .u64 (inn : Int), v2] 65)) (.slice vo ts.length vc) v5 → ∃ ts', RL w5 w.heap.size v5 ts' ∧ ts'.map (·.1) = (es.take (i + 1)).map (·.1) ∧ Below w.heap.size w w5) := fun w2 v2 w5 v5 o2 b2 ho hk hm => by
        obtain ⟨q1, q2⟩ := z.more bxd hbz o2 b2 _ ho hk hm
        exact ⟨_, q1, HTS.out v2, hbr.trans q2⟩
      have HOW : Hid (∀ W, Below wr.heap.size wr W → W.ownsRow w.heap.size 65 2 (.slice vo ts.length vc) ts.length (endV ts)) := fun W hW => own_kept z.ow (kept_of_below hW (fun _ => False)) (fun _ _ => id)
      have HBX : Hid _ := hidden bxd
      have HTL : Hid (ts.length + 1 ≤ 1000000000) := by
        have e : ts.length + 1 ≤ 1000000000 := by omega
        exact e
      clear z hts do_ hov bx bxd hwx hgl hll HC htl
      generalize l.length = k at *
      go_upto_region 5 with fail
      rw [HWX.out]
      clear d0 d1
      go_region_law (first
        | (refine step_append_sr rfl (.tmp 21) (.tmp 28) 43 rfl 65 i0 (.agg #[.int .u64 0, .slice none 0 0]) 2 32 Tryz.underlying43 hi0 hz0 hz1 hz2 rfl (by omega) w.heap.size (.slice vo ts.length vc) ts.length (endV ts) rfl (HOW.out _ (HBX.out.trans ((HB2.out.trans ((bel_alloc w2 _).mono HB2.out.size)).mono HBX.out.size))) (.slice (some ⟨w2.heap.size, 0, none⟩) 1 1) 1 [.int .u64 (inn : Int), .slice ao2 l.length c2] rfl (sr_reach w2 inn (.slice ao2 l.length c2) rfl _) HTL.out (by omega) (by have := HB2.out.size; have := HBX.out.size; simp; omega) ?_; intro v5 w5 ho5 hk5 hm5; have HE5 : Hid _ := hidden (HEnd.out w2 _ w5 v5 HO2.out HB2.out ho5 hk5 hm5); obtain ⟨ao5, c5x, hv5, _⟩ := own_slice ho5; subst hv5; clear ho5 hk5 hm5)
        | (go_simp; go_wp2_with (go_at_call 42; refine hCl.mono ?_; rintro e w2 ⟨v2, rfl, o2, b2⟩; have HO2 : Hid _ := hidden o2; have HB2 : Hid _ := hidden b2; have x0' : w2.cell? ⟨wr.heap.size, 0, none⟩ = some (.int .u64 (inn : Int)) := (b2.cell (p := ⟨wr.heap.size, 0, none⟩) hxs).trans x0; have hx2 := cell_lt x0'; obtain ⟨ao2, c2, hv2, _⟩ := o2.slice; have HV2 : Hid (v2 = _) := hidden hv2; subst hv2; clear o2 b2)))
      all_goals
        go_simp
        go_wp2
        go_roundw
        case rel =>
          obtain ⟨ts', q1, q2, q3⟩ := HE5.out
          exact ⟨i + 1, ts', HL.out, by go_num, q1, q2, q3⟩
        case measure => have := HL.out; simp [intOf]; omega
    · have hE : i = es.length := by have := HN.out; omega
      rw [hE, List.take_length] at hts
      have HZ : Hid _ := hidden z
      have HT : Hid _ := hidden hts
      have HB : Hid _ := hidden hbr
      obtain ⟨vo, vc, hv, _⟩ := own_slice z.ow
      subst hv
      clear z hts hbr HC hE hi
      go_wp2
      go_ret
      exact ⟨_, rfl, ts, HZ.out, HT.out, HB.out⟩
end Go.Proofs.YtlabdbfmfejkaaaGreatDoor

namespace Go.Proofs.YtlabdbfmfejkaaaGreatDoor
open Go.RowKit
open Go.Sort hiding Below

theorem grow_more {w W : World} (n : Nat) (os : Array Obj) (h : ∃ q os', W = grow (w.drewN q) os') : ∃ q os', grow (W.drewN n) os = grow (w.drewN q) os' := by
  obtain ⟨q, os', e⟩ := h
  rw [e]
  exact ⟨q + n, os' ++ os, by rw [← grow_grow, ← World.drewN_drewN]; rfl⟩
theorem grow_more' {w W : World} (n : Nat) (h : ∃ q os', W = grow (w.drewN q) os') : ∃ q os', W.drewN n = grow (w.drewN q) os' := by
  have := grow_more n #[] h
  rw [grow_empty] at this
  exact this
set_option maxRecDepth 20000 in
set_option maxHeartbeats 2000000 in
theorem idsI_any (xs : List (Int × Nat)) (v1 v2 : Value) (B1 B2 : Nat) (w : World) (ha : OwI w B1 v1 xs) (hb : OwI w B2 v2 xs) :
    Calls Tryz.prog 41 #[v1, v2] w fun e w' => e = .returned (.bool true) ∧ ∃ q os', w' = grow (w.drewN q) os' := by
  have hg := guardID
  have he := eqID
  obtain ⟨a1, c1, rfl, hc1, hm1, ha⟩ := ha.at
  obtain ⟨a2, c2, rfl, hc2, hm2, hb⟩ := hb.at
  unfold maxLen at hm1 hm2
  have HA : Hid _ := hidden ha
  have HB : Hid _ := hidden hb
  clear ha hb
  go_enter Tryz.func41, Tryz.ntmps41
  go_wp2
  go_loopw [5] (fun i wr => ∃ k : Nat, k ≤ xs.length ∧ i = .int .i64 (k : Int) ∧ Below w.heap.size w wr ∧ ∃ q os', wr = grow (w.drewN q) os') (fun i _ => xs.length - (intOf i).toNat)
  case atStart => exact ⟨0, Nat.zero_le _, rfl, Below.refl _ _, 0, #[], by rw [grow_empty]; rfl⟩
  case round =>
    obtain ⟨k, hk, rfl, hbr, hgr⟩ := hrel
    have HGR : Hid _ := hidden hgr
    clear hgr
    have hzr := hbr.size
    by_cases hlt : k < xs.length
    · obtain ⟨g1, rfl, _, l1, p0, p1⟩ := HA.out k hlt
      obtain ⟨g2, rfl, _, l2, q0, q1⟩ := HB.out k hlt
      have p0 := (hbr.cell (p := ⟨g1, k * 2, none⟩) l1).trans p0
      have p1 := (hbr.cell (p := ⟨g1, k * 2 + 1, none⟩) l1).trans p1
      have q0 := (hbr.cell (p := ⟨g2, k * 2, none⟩) l2).trans q0
      have q1 := (hbr.cell (p := ⟨g2, k * 2 + 1, none⟩) l2).trans q1
      generalize xs[k] = x at *
      have hq1 : (x.1 == x.1) = true := beq_self_eq_true _
      have hq2 : ((x.2 : Int) == (x.2 : Int)) = true := beq_self_eq_true _
      go_wp2
      go_quiet (fail)
      go_wp2
      go_roundw
      case rel =>
        exact ⟨k + 1, by omega, by go_num, hbr.trans ((below_drewN0 _ _).mono hzr), grow_more' _ HGR.out⟩
      case measure => simp [intOf]; omega
    · go_wp2
      go_ret
      exact ⟨rfl, HGR.out⟩
theorem RL.at {w : World} {B : Nat} {v : Value} {ts : List ((Nat × List (Int × Nat)) × Value)} (h : RL w B v ts) : ∃ ao c, v = .slice ao ts.length c ∧ ts.length ≤ c ∧ c ≤ maxLen ∧ ∀ k (hk : k < ts.length), ∃ g, ao = some ⟨g, 0, none⟩ ∧ B ≤ g ∧ g < w.heap.size ∧ w.cell? ⟨g, k * 2, none⟩ = some (.int .u64 (ts[k].1.1 : Int)) ∧ w.cell? ⟨g, k * 2 + 1, none⟩ = some ts[k].2 := by
  obtain ⟨ao, c, rfl, h1, h2, h3⟩ := own_slice h.ow
  refine ⟨ao, c, rfl, h1, h2, fun k hk => ?_⟩
  obtain ⟨e0, e1⟩ := endV_at ts k hk
  rcases h.ow.2 with ⟨_, h0⟩ | ⟨g, cap, cur, hv, hbg, hg, hn, hm, hs, ht⟩
  · omega
  · simp only [Value.slice.injEq] at hv
    obtain ⟨rfl, _, rfl⟩ := hv
    have hgl := (Array.getElem?_eq_some_iff.1 hg).1
    have hcell : ∀ (j : Nat) (u : Value), (endV ts)[j]? = some u → w.cell? ⟨g, j, none⟩ = some u := fun j u hu => by
      rw [cell_of_row w g j _ _ _ hg]
      rw [← ht, List.getElem?_take] at hu
      split at hu
      · simpa using hu
      · cases hu
    exact ⟨g, rfl, hbg, hgl, hcell _ _ e0, hcell _ _ e1⟩
set_option maxRecDepth 20000 in
set_option maxHeartbeats 2000000 in
theorem rowsEq_any (ts us : List ((Nat × List (Int × Nat)) × Value)) (v1 v2 : Value) (B1 B2 : Nat) (w : World) (ha : RL w B1 v1 ts) (hb : RL w B2 v2 us) (he : ts.map (·.1) = us.map (·.1)) :
    Calls Tryz.prog 13 #[v1, v2] w fun e w' => e = .returned (.bool true) ∧ Below w.heap.size w w' := by
  have hlen : us.length = ts.length := by
    have := congrArg List.length he
    simpa using this.symm
  have HIq : Hid (∀ k (h1 : k < ts.length) (h2 : k < us.length), us[k].1 = ts[k].1) := fun k h1 h2 => by
    have e := congrArg (fun l => l[k]?) he
    simp only [List.getElem?_map, List.getElem?_eq_getElem h1, List.getElem?_eq_getElem h2, Option.map_some, Option.some.injEq] at e
    exact e.symm
  have HO1 : Hid (∀ W, Below w.heap.size w W → ∀ k (h1 : k < ts.length), OwI W B1 ts[k].2 ts[k].1.2) := fun W hB k h1 => (ha.sr _ (List.getElem_mem h1)).below hB
  have HO2 : Hid (∀ W, Below w.heap.size w W → ∀ k (h1 : k < us.length), OwI W B2 us[k].2 us[k].1.2) := fun W hB k h1 => (hb.sr _ (List.getElem_mem h1)).below hB
  obtain ⟨a1, c1, rfl, hc1, hm1, ha⟩ := ha.at
  obtain ⟨a2, c2, rfl, hc2, hm2, hb⟩ := hb.at
  unfold maxLen at hm1 hm2
  obtain ⟨n, hn⟩ : ∃ n, n = ts.length := ⟨_, rfl⟩
  have HA : Hid _ := hidden ha
  have HB : Hid _ := hidden hb
  have HN : Hid (n = ts.length ∧ us.length = ts.length) := ⟨hn, hlen⟩
  rw [hlen] at hc2 ⊢
  rw [← hn] at hc1 hc2 ⊢
  clear ha hb he hn hlen
  go_enter Tryz.func13, Tryz.ntmps13
  go_wp2
  go_loopw [5] (fun i wr => ∃ k : Nat, k ≤ n ∧ i = .int .i64 (k : Int) ∧ Below w.heap.size w wr) (fun i _ => n - (intOf i).toNat)
  case atStart => exact ⟨0, Nat.zero_le _, rfl, Below.refl _ _⟩
  case round =>
    obtain ⟨k, hk, rfl, hbr⟩ := hrel
    have hzr := hbr.size
    by_cases hlt : k < n
    · have h1 : k < ts.length := by have := HN.out; omega
      have h2 : k < us.length := by have := HN.out; omega
      obtain ⟨g1, rfl, _, l1, p0, p1⟩ := HA.out k h1
      obtain ⟨g2, rfl, _, l2, q0, q1⟩ := HB.out k h2
      have heq := HIq.out k h1 h2
      have o1 := HO1.out
      have o2 := HO2.out
      have p0 := (hbr.cell (p := ⟨g1, k * 2, none⟩) l1).trans p0
      have p1 := (hbr.cell (p := ⟨g1, k * 2 + 1, none⟩) l1).trans p1
      have q0 := (hbr.cell (p := ⟨g2, k * 2, none⟩) l2).trans q0
      have q1 := (hbr.cell (p := ⟨g2, k * 2 + 1, none⟩) l2).trans q1
      have hC : ∀ n os, Calls Tryz.prog 41 #[ts[k].2, us[k].2] (grow (wr.drewN n) os) fun e w' => e = .returned (.bool true) ∧ ∃ q os', w' = grow ((grow (wr.drewN n) os).drewN q) os' := fun n os => by
        have hB := hbr.trans ((below_grow wr n os).mono hzr)
        have a := o1 _ hB k h1
        have b := o2 _ hB k h2
        rw [heq] at b
        exact idsI_any _ _ _ _ _ _ a b
      rw [heq] at q0
      clear o1 o2 heq
      have P0 := cell_grown (w := wr) (a := ⟨g1, k * 2, none⟩) (cell_lt p0) p0
      have P1 := cell_grown (w := wr) (a := ⟨g1, k * 2 + 1, none⟩) (cell_lt p1) p1
      have Q0 := cell_grown (w := wr) (a := ⟨g2, k * 2, none⟩) (cell_lt q0) q0
      have Q1 := cell_grown (w := wr) (a := ⟨g2, k * 2 + 1, none⟩) (cell_lt q1) q1
      generalize ts[k].2 = x1 at *
      generalize us[k].2 = x2 at *
      generalize ts[k].1.1 = i1 at *
      have hq1 : ((i1 : Int) == (i1 : Int)) = true := beq_self_eq_true _
      go_upto_region 6 with fail
      have hmix : Tryz.prog.follows .mixedOrders = true := by kernel_rfl
      refine wp_region_quiet_grown (by assumption) (by kernel_rfl) ?_
      iterate 25 (quiet_step (first | (go_at_call 41; exact Calls.grown_of (hC _ _))))
      refine wpQuiet_nil ?_
      intro _ hw'
      obtain ⟨⟨nq, osq⟩, hw''⟩ := hw'
      subst hw''
      clear P0 P1 Q0 Q1 hC
      go_wp2
      go_roundw
      case rel => exact ⟨k + 1, by omega, by go_num, hbr.trans ((below_grow _ _ _).mono hzr)⟩
      case measure => simp [intOf]; omega
    · go_wp2
      go_ret
      exact ⟨rfl, hbr⟩
end Go.Proofs.YtlabdbfmfejkaaaGreatDoor
