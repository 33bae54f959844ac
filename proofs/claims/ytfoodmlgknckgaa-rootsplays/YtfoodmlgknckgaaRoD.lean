/- New. -/
import Derived.Test.YtfoodmlgknckgaaRoC
namespace Go.Proofs.Ytfoodmlgknckgaa
open Go.RowKit

/-- A row as a value. -/
def slV (K : Nat) (g : Nat) : Value := .slice (some ⟨g, 0, none⟩) K K
/-- The table when rows at gs are made. -/
def tabV (K M : Nat) (gs : List Nat) : List Value := gs.map (slV K) ++ List.replicate (M - gs.length) (.slice none 0 0)
theorem tabV_len (K M : Nat) (gs : List Nat) (h : gs.length ≤ M) : (tabV K M gs).length = M := by simp [tabV]; omega
theorem tabV_set (K M : Nat) (gs : List Nat) (g : Nat) (h : gs.length < M) : (tabV K M gs).set gs.length (slV K g) = tabV K M (gs ++ [g]) := by
  unfold tabV
  obtain ⟨q, hq⟩ : ∃ q, M - gs.length = q + 1 := ⟨M - gs.length - 1, by omega⟩
  rw [hq, List.replicate_succ, List.set_append_right _ _ (by simp)]
  simp
  omega
theorem tabV_at (K M : Nat) (gs : List Nat) (i g : Nat) (h : gs[i]? = some g) : (tabV K M gs)[i]? = some (slV K g) := by
  unfold tabV
  have hi : i < gs.length := (List.getElem?_eq_some_iff.1 h).1
  rw [List.getElem?_append_left (by simpa using hi), List.getElem?_map, h]
  rfl
theorem made_tab (M : Nat) : madeCells (Value.slice none 0 0).cells (M * 1) = (List.replicate M (Value.slice none 0 0)).toArray := by
  rw [Nat.mul_one, show (Value.slice none 0 0).cells = #[Value.slice none 0 0] from rfl]
  apply Array.ext'
  rw [toList_madeCells_one]

/-- While New makes rows: the table at B, rows at gs. -/
structure NX (w : World) (B K M : Nat) (gs : List Nat) : Prop where
  tab : Row w B 31 (tabV K M gs)
  rows : ∀ g ∈ gs, Row w g 30 (idsV (List.replicate K (0, 0)))
  nd : gs.Nodup
  gt : ∀ g ∈ gs, B < g
theorem NX.push {w : World} {B K M : Nat} {gs : List Nat} (x : NX w B K M gs) (h : gs.length < M) :
    NX ((w.setCell ⟨B, gs.length, none⟩ (.slice (some ⟨w.heap.size, 0, none⟩) K K)).alloc (.cells (idsV (List.replicate K (0, 0))).toArray 30)) B K M (gs ++ [w.heap.size]) := by
  have hB := x.tab.lt
  have hk := Kept.setCell w ⟨B, gs.length, none⟩ (.slice (some ⟨w.heap.size, 0, none⟩) K K)
  have hsz : (w.setCell ⟨B, gs.length, none⟩ (.slice (some ⟨w.heap.size, 0, none⟩) K K)).heap.size = w.heap.size := by simp [World.setCell]
  have hnew : Row ((w.setCell ⟨B, gs.length, none⟩ (.slice (some ⟨w.heap.size, 0, none⟩) K K)).alloc (.cells (idsV (List.replicate K (0, 0))).toArray 30)) (w.setCell ⟨B, gs.length, none⟩ (.slice (some ⟨w.heap.size, 0, none⟩) K K)).heap.size 30 (idsV (List.replicate K (0, 0))) := heap_alloc_new _ _
  rw [hsz] at hnew
  refine ⟨?_, fun g hg => ?_, ?_, fun g hg => ?_⟩
  · rw [← tabV_set K M gs _ h]
    exact (x.tab.set _ _).below (bel_alloc _ _)
  · rcases List.mem_append.1 hg with hg | hg
    · exact ((x.rows g hg).kept hk (by show ¬ (g = B); have := x.gt g hg; omega)).below (bel_alloc _ _)
    · simp only [List.mem_singleton] at hg
      subst hg
      exact hnew
  · rw [List.nodup_append]
    refine ⟨x.nd, by simp, fun a ha b hb => ?_⟩
    simp only [List.mem_singleton] at hb
    have := (x.rows a ha).lt
    omega
  · rcases List.mem_append.1 hg with hg | hg
    · exact x.gt g hg
    · simp only [List.mem_singleton] at hg
      omega

set_option maxRecDepth 20000 in
set_option maxHeartbeats 400000 in
theorem new_no (m s : Int) (h : ¬ (1 ≤ m ∧ m ≤ 4 ∧ 1 ≤ s ∧ s ≤ 8)) (w : World) :
    Calls Try.prog 7 #[.int .i64 m, .int .i64 s] w fun e w' => e = .returned (.tuple #[.pointer none, .int .i64 1]) ∧ w = w' := by
  by_cases h1 : m < 1
  · clear h
    go_enter Try.func7, Try.ntmps7
    go_wp2
    go_ret2
    exact ⟨rfl, rfl⟩
  by_cases h2 : 4 < m
  · clear h
    go_enter Try.func7, Try.ntmps7
    go_wp2
    go_ret2
    exact ⟨rfl, rfl⟩
  by_cases h3 : s < 1
  · clear h
    go_enter Try.func7, Try.ntmps7
    go_wp2
    go_ret2
    exact ⟨rfl, rfl⟩
  have h4 : 8 < s := by omega
  clear h
  go_enter Try.func7, Try.ntmps7
  go_wp2
  go_ret2
  exact ⟨rfl, rfl⟩

set_option maxRecDepth 20000 in
set_option maxHeartbeats 1000000 in
theorem new_ok (M K : Nat) (h1 : 1 ≤ M ∧ M ≤ 4) (h2 : 1 ≤ K ∧ K ≤ 8) (w : World) :
    Calls Try.prog 7 #[.int .i64 (M : Int), .int .i64 (K : Int)] w fun e w' => ∃ rb tb gs, e = .returned (.tuple #[.pointer (some ⟨rb, 0, none⟩), .int .i64 0]) ∧ RX w' rb tb M gs K (List.replicate M (List.replicate K (0, 0))) ∧ (∀ k, rBl rb tb gs k → w.heap.size ≤ k) ∧ Below w.heap.size w w' := by
  obtain ⟨i, hi, hz0, hz1, hz2⟩ := info_parts Try.infoID
  obtain ⟨i', hi', hz0', hz1', hz2'⟩ := info_parts Try.infoIDs
  have hm1 : ∀ W : World, (Instr.makeSlice 31 (.int .i64 (K : Int)) (.int .i64 (K : Int))).run Try.prog W = .ok (.slice (some ⟨W.heap.size, 0, none⟩) K K) (W.alloc (.cells (idsV (List.replicate K (0, 0))).toArray 30)) := fun W => by
    have := run_make (P := Try.prog) W 31 30 i _ Try.underlying31 hi hz0 .i64 .i64 (K : Int) (K : Int) (by omega) (Int.le_refl _) (by rw [hz2]; omega) (by omega)
    rw [hz1, Int.toNat_natCast, made_ids] at this
    exact this
  have hm2 : ∀ W : World, (Instr.makeSlice 43 (.int .i64 (M : Int)) (.int .i64 (M : Int))).run Try.prog W = .ok (.slice (some ⟨W.heap.size, 0, none⟩) M M) (W.alloc (.cells (List.replicate M (.slice none 0 0)).toArray 31)) := fun W => by
    have := run_make (P := Try.prog) W 43 31 i' _ Try.underlying43 hi' hz0' .i64 .i64 (M : Int) (M : Int) (by omega) (Int.le_refl _) (by rw [hz2']; omega) (by omega)
    rw [hz1', Int.toNat_natCast, made_tab] at this
    exact this
  clear hi hz0 hz1 hz2 hi' hz0' hz1' hz2'
  have hS : Hid (NX (w.alloc (.cells (List.replicate M (.slice none 0 0)).toArray 31)) w.heap.size K M []) := by
    refine ⟨?_, by simp, by simp, by simp⟩
    have h : Row (w.alloc (.cells (List.replicate M (.slice none 0 0)).toArray 31)) w.heap.size 31 (List.replicate M (.slice none 0 0)) := heap_alloc_new w _
    simpa [tabV] using h
  have hB := bel_alloc w (.cells (List.replicate M (.slice none 0 0)).toArray 31)
  generalize (List.replicate M (Value.slice none 0 0)).toArray = Z at *
  generalize hG : w.heap.size = B at *
  go_enter Try.func7, Try.ntmps7
  go_wp2
  go_loopw [26] (fun i wr => ∃ gs : List Nat, gs.length ≤ M ∧ i = .int .i64 (gs.length : Int) ∧ NX wr B K M gs ∧ Below B w wr) (fun i _ => M - (intOf i).toNat)
  case atStart => exact ⟨[], Nat.zero_le _, rfl, hS.out, hB⟩
  case round =>
    obtain ⟨gs, hk, rfl, x, hb⟩ := hrel
    clear hm2 hS hB
    have hz : B ≤ wr.heap.size := by have := hb.size; omega
    have hBl := x.tab.lt
    by_cases hlt : gs.length < M
    · have HP : Hid _ := hidden (x.push hlt)
      have HL : Hid ((gs ++ [wr.heap.size]).length = gs.length + 1) := by
        have : (gs ++ [wr.heap.size]).length = gs.length + 1 := by simp
        exact this
      have c0 := x.tab.cell gs.length (by rw [tabV_len K M gs hk]; exact hlt)
      have f0 := x.tab.frozen gs.length
      generalize (tabV K M gs)[gs.length]'_ = u0 at *
      generalize idsV (List.replicate K (0, 0)) = Z2 at *
      have HB : Hid _ := hidden hb
      have HK : Hid (gs.length + 1 ≤ M) := hlt
      clear x hb
      generalize gs ++ [wr.heap.size] = gs' at *
      generalize gs.length = k at *
      go_wp2
      go_roundw
      case rel => exact ⟨gs', by rw [HL.out]; exact HK.out, by rw [HL.out]; go_num, HP.out, (HB.out.setCell (Nat.le_refl B) _).alloc (by simpa [World.setCell] using hz) _⟩
      case measure => have := HK.out; simp [intOf]; omega
    · have hkM : gs.length = M := by omega
      have HX : Hid _ := hidden x
      have HB : Hid _ := hidden hb
      have HM : Hid _ := hidden hkM
      clear hm1 x hb hkM
      go_wp2
      go_ret2
      have x := HX.out
      have hkM := HM.out
      have hA := bel_alloc wr (.cells #[.slice (some ⟨B, 0, none⟩) M M] 53)
      have hnew : Row (wr.alloc (.cells #[.slice (some ⟨B, 0, none⟩) M M] 53)) wr.heap.size 53 [.slice (some ⟨B, 0, none⟩) M M] := heap_alloc_new wr _
      refine ⟨wr.heap.size, B, gs, rfl, ⟨?_, fun i g hg => ?_, by simp [hkM], fun i g r hg hr => ?_, fun r hr => ?_, x.nd, ⟨fun e => ?_, fun e => ?_⟩, ?_⟩, fun k hk => ?_, HB.out.trans (hA.mono hz)⟩
      · rw [List.length_replicate]
        exact hnew.cell 0 (by simp)
      · exact (x.tab.below hA).at _ _ (tabV_at K M gs i g hg)
      · have : r = List.replicate K (0, 0) := List.eq_of_mem_replicate (List.mem_of_getElem? hr)
        subst this
        exact (x.rows g (List.mem_of_getElem? hg)).below hA
      · have : r = List.replicate K (0, 0) := List.eq_of_mem_replicate hr
        subst this
        simp
      · have := (x.rows _ e).lt
        omega
      · have := x.gt _ e
        omega
      · unfold maxLen
        simp
        omega
      · rcases hk with rfl | rfl | hk
        · exact hz
        · exact Nat.le_refl _
        · have := x.gt _ hk
          omega

end Go.Proofs.Ytfoodmlgknckgaa
