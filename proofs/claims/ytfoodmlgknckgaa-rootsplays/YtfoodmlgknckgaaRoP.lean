/- The plain roots: NewRoots. -/
import Derived.Test.YtfoodmlgknckgaaRoD
import Derived.Deep.RegionHeld
import Derived.Deep.QuietTactic
import Derived.BigQuiet
namespace Go.Proofs.Ytfoodmlgknckgaa
open Go.RowKit

/-- While NewRoots makes rows: the struct at B, its table v, rows at gs. -/
structure NY (w : World) (B K : Nat) (v : Value) (gs : List Nat) : Prop where
  box : Row w B 45 [v]
  tab : w.ownsRow (B + 1) 31 1 v gs.length (gs.map (slV K))
  rows : ∀ g ∈ gs, Row w g 30 (idsV (List.replicate K (0, 0)))
  nd : gs.Nodup
  gt : ∀ g ∈ gs, B < g
  fr : ∀ k, v.ownBlock = some k → ¬ k ∈ gs

theorem slV_one (K : Nat) (l : List Nat) : ∀ u ∈ l.map (slV K), u.oneCell' = true := by
  intro u hu
  obtain ⟨y, _, rfl⟩ := List.mem_map.1 hu
  rfl
theorem sr_sl (w : World) (o : Obj) (K : Nat) : Sr ((w.alloc o).alloc (.cells #[.slice (some ⟨w.heap.size, 0, none⟩) K K] 31)).drew (.slice (some ⟨w.heap.size + 1, 0, none⟩) 1 1) 1 1 [slV K w.heap.size] := by
  have h : ((w.alloc o).alloc (.cells #[.slice (some ⟨w.heap.size, 0, none⟩) K K] 31)).drew.heap[w.heap.size + 1]? = some (.cells #[.slice (some ⟨w.heap.size, 0, none⟩) K K] 31 (0, 0)) := by
    have := heap_alloc_new (w.alloc o) (.cells #[.slice (some ⟨w.heap.size, 0, none⟩) K K] 31)
    simpa [World.drew] using this
  refine ⟨rfl, Or.inr ⟨⟨w.heap.size + 1, 0, none⟩, 1, rfl, fun j u hu => ?_⟩, fun u hu => by simp only [List.mem_singleton] at hu; subst hu; rfl⟩
  rw [Addr.add_at, Nat.zero_add, cell_of_row _ _ _ _ _ _ h]
  simpa [slV] using hu
theorem own_lt' {w : World} {base c n : Nat} {e : TypeId} {v : Value} {xs : List Value} (h : w.ownsRow base e c v n xs) : ∀ k, v.ownBlock = some k → base ≤ k ∧ k < w.heap.size := by
  intro k hk
  rcases h.2 with ⟨rfl, _⟩ | ⟨g, cap, cur, rfl, h2, h3, _⟩
  · cases hk
  · have e : g = k := by simpa [Value.ownBlock] using hk
    subst e
    exact ⟨h2, (Array.getElem?_eq_some_iff.1 h3).1⟩
section
variable {w w5 : World} {B K : Nat} {v v5 : Value} {gs : List Nat}
theorem NY.step (x : NY w B K v gs) : ((w.alloc (.cells (idsV (List.replicate K (0, 0))).toArray 30)).alloc (.cells #[.slice (some ⟨w.heap.size, 0, none⟩) K K] 31)).drew.ownsRow (B + 1) 31 1 v gs.length (gs.map (slV K)) :=
  own_kept (own_kept (own_kept x.tab (Kept.alloc _ _ (fun _ => False)) (fun _ _ => id)) (Kept.alloc _ _ (fun _ => False)) (fun _ _ => id)) (Kept.drew _) (fun _ _ => id)
theorem NY.box5 (x : NY w B K v gs) (hk : Kept ((w.alloc (.cells (idsV (List.replicate K (0, 0))).toArray 30)).alloc (.cells #[.slice (some ⟨w.heap.size, 0, none⟩) K K] 31)).drew w5 (fun k => v.ownBlock = some k)) : Row w5 B 45 [v] :=
  (((x.box.below (bel_alloc _ _)).below (bel_alloc _ _)).kept (Kept.drew _) id).kept hk (fun e => by have := (own_lt' x.tab B e).1; omega)
theorem NY.push (x : NY w B K v gs) (ho : w5.ownsRow (B + 1) 31 1 v5 (gs.length + 1) (gs.map (slV K) ++ [slV K w.heap.size]))
    (hk : Kept ((w.alloc (.cells (idsV (List.replicate K (0, 0))).toArray 30)).alloc (.cells #[.slice (some ⟨w.heap.size, 0, none⟩) K K] 31)).drew w5 (fun k => v.ownBlock = some k))
    (hm : Moved ((w.alloc (.cells (idsV (List.replicate K (0, 0))).toArray 30)).alloc (.cells #[.slice (some ⟨w.heap.size, 0, none⟩) K K] 31)).drew v v5) :
    NY (w5.setCell ⟨B, 0, none⟩ v5) B K v5 (gs ++ [w.heap.size]) := by
  have hb5 := x.box5 hk
  have hks := Kept.setCell w5 ⟨B, 0, none⟩ v5
  have hB := x.box.lt
  have hz : ((w.alloc (.cells (idsV (List.replicate K (0, 0))).toArray 30)).alloc (.cells #[.slice (some ⟨w.heap.size, 0, none⟩) K K] 31)).drew.heap.size = w.heap.size + 2 := by simp [World.drew]
  have hlt := own_lt' x.tab
  have hlt5 := own_lt' ho
  have hnew : Row w5 w.heap.size 30 (idsV (List.replicate K (0, 0))) := by
    have h1 : Row (w.alloc (.cells (idsV (List.replicate K (0, 0))).toArray 30)) w.heap.size 30 (idsV (List.replicate K (0, 0))) := heap_alloc_new w _
    exact ((h1.below (bel_alloc _ _)).kept (Kept.drew _) id).kept hk (fun e => by have := (hlt _ e).2; omega)
  refine ⟨?_, ?_, fun g hg => ?_, ?_, fun g hg => ?_, fun k hk' e => ?_⟩
  · exact hb5.set 0 v5
  · have h1 := own_kept ho hks (fun k h e => by have e' : k = B := e; have := (hlt5 k h).1; omega)
    rw [List.length_append, List.map_append]
    exact h1
  · rcases List.mem_append.1 hg with hg | hg
    · have hne := x.gt g hg
      exact ((((x.rows g hg).below (bel_alloc _ _)).below (bel_alloc _ _)).kept (Kept.drew _) id |>.kept hk (fun e => x.fr g e hg)).kept hks (by show ¬ (g = B); omega)
    · simp only [List.mem_singleton] at hg
      subst hg
      exact hnew.kept hks (by show ¬ (w.heap.size = B); omega)
  · rw [List.nodup_append]
    refine ⟨x.nd, by simp, fun a ha b hb => ?_⟩
    simp only [List.mem_singleton] at hb
    have := (x.rows a ha).lt
    omega
  · rcases List.mem_append.1 hg with hg | hg
    · exact x.gt g hg
    · simp only [List.mem_singleton] at hg
      omega
  · rcases List.mem_append.1 e with e | e
    · have := (x.rows k e).lt
      rcases hm k hk' with h1 | h1
      · exact x.fr k h1 e
      · omega
    · simp only [List.mem_singleton] at e
      rcases hm k hk' with h1 | h1
      · have := (hlt k h1).2
        omega
      · omega
end

set_option maxRecDepth 20000 in
set_option maxHeartbeats 1000000 in
theorem rnew_any (M K : Nat) (h1 : 1 ≤ M ∧ M ≤ 4) (h2 : 1 ≤ K ∧ K ≤ 8) (w : World) :
    Calls Try.prog 13 #[.int .i64 (M : Int), .int .i64 (K : Int)] w fun e w' => ∃ rb tb cap gs, e = .returned (.pointer (some ⟨rb, 0, none⟩)) ∧ RX w' rb tb cap gs K (List.replicate M (List.replicate K (0, 0))) ∧ (∀ k, rBl rb tb gs k → w.heap.size ≤ k) ∧ Below w.heap.size w w' := by
  obtain ⟨i, hi, hz0, hz1, hz2⟩ := info_parts Try.infoID
  obtain ⟨i', hi', hz0', hz1', hz2'⟩ := info_parts Try.infoIDs
  have hm1 : ∀ W : World, (Instr.makeSlice 31 (.int .i64 (K : Int)) (.int .i64 (K : Int))).run Try.prog W = .ok (.slice (some ⟨W.heap.size, 0, none⟩) K K) (W.alloc (.cells (idsV (List.replicate K (0, 0))).toArray 30)) := fun W => by
    have := run_make (P := Try.prog) W 31 30 i _ Try.underlying31 hi hz0 .i64 .i64 (K : Int) (K : Int) (by omega) (Int.le_refl _) (by rw [hz2]; omega) (by omega)
    rw [hz1, Int.toNat_natCast, made_ids] at this
    exact this
  clear hi hz0 hz1 hz2
  have hS : Hid (NY (w.alloc (.cells #[.slice none 0 0] 45)) w.heap.size K (.slice none 0 0) []) := by
    refine ⟨heap_alloc_new w _, ⟨rfl, Or.inl ⟨rfl, rfl⟩⟩, by simp, by simp, by simp, fun k h => by cases h⟩
  have hB := bel_alloc w (.cells #[.slice none 0 0] 45)
  have HB0 : Hid _ := hidden hB
  generalize hG : w.heap.size = B at *
  clear hB
  go_enter Try.func13, Try.ntmps13
  go_wp2
  go_loopw [6] (fun i wr => ∃ (gs : List Nat) (v : Value), gs.length ≤ M ∧ i = .int .i64 (gs.length : Int) ∧ NY wr B K v gs ∧ Below B w wr) (fun i _ => M - (intOf i).toNat)
  case atStart => exact ⟨[], _, Nat.zero_le _, rfl, hS.out, HB0.out⟩
  case round =>
    obtain ⟨gs, v, hk, rfl, x, hb⟩ := hrel
    clear hS HB0
    have hz : B ≤ wr.heap.size := by have := hb.size; omega
    have hBl := x.box.lt
    obtain ⟨ao, cp, rfl, hcp, hcm, _⟩ := own_slice x.tab
    have c0 := x.box.cell 0 (by simp)
    simp only [List.getElem_cons_zero] at c0
    have f0 := x.box.frozen 0
    by_cases hlt : (gs.length : Int) < (M : Int)
    · have hBl1 : B < wr.heap.size + 1 := by omega
      have HX : Hid _ := hidden x
      have HB : Hid _ := hidden hb
      have HK : Hid (gs.length + 1 ≤ M) := by
        have e : gs.length + 1 ≤ M := by omega
        exact e
      have HT : Hid _ := hidden x.step
      have HS : Hid _ := hidden (sr_sl wr (.cells (idsV (List.replicate K (0, 0))).toArray 30) K)
      clear x hb
      go_wp2
      go_region_law (refine step_append_sr rfl (.tmp 18) (.tmp 21) 43 rfl 31 i' (.slice none 0 0) 1 24 Try.underlying43 hi' hz0' hz1' hz2' rfl (by omega) (B + 1) (.slice ao gs.length cp) gs.length _ rfl HT.out (.slice (some ⟨wr.heap.size + 1, 0, none⟩) 1 1) 1 _ rfl HS.out (by omega) (by omega) (by simp [World.drew]; omega) ?_; intro v5 w5 ho5 hk5 hm5; obtain ⟨ao5, n5, c5, hv5⟩ := own_form ho5; subst hv5; have r5 := HX.out.box5 hk5; have e4 := r5.cell 0 (by simp); have f4 := r5.frozen 0; simp only [List.getElem_cons_zero] at e4; have HP : Hid _ := hidden (HX.out.push ho5 hk5 hm5); have HK5 : Hid _ := hidden (And.intro ho5 hk5); clear ho5 hk5 hm5 r5)
      all_goals
        go_wp2
        go_roundw
        case rel =>
          refine ⟨_, _, by rw [List.length_append]; exact HK.out, by rw [List.length_append]; go_num, HP.out, ?_⟩
          obtain ⟨_, hk5⟩ := HK5.out
          have hb1 := (HB.out.trans ((bel_alloc wr (.cells (idsV (List.replicate K (0, 0))).toArray 30)).mono hz)).trans ((bel_alloc (wr.alloc (.cells (idsV (List.replicate K (0, 0))).toArray 30)) (.cells #[.slice (some ⟨wr.heap.size, 0, none⟩) K K] 31)).mono (by simp; omega))
          exact (hb1.drew.trans (hk5.below (by simp [World.drew]; omega) (fun q hq e => by have := (own_lt' HX.out.tab q e).1; omega))).setCell (Nat.le_refl B) _
        case measure => have := HK.out; simp [intOf]; omega
    · have hkM : gs.length = M := by omega
      have HX : Hid _ := hidden x
      have HB : Hid _ := hidden hb
      have HM : Hid _ := hidden hkM
      clear hm1 x hb hkM
      go_wp2
      go_ret
      have x := HX.out
      have hkM := HM.out
      rcases x.tab.2 with ⟨_, h0⟩ | ⟨g, cap, cur, he, hge, hg, hn, hm, hs, ht⟩
      · omega
      · simp only [Value.slice.injEq] at he
        obtain ⟨rfl, _, rfl⟩ := he
        have hcl := x.tab.cells rfl
        refine ⟨B, rfl, g, cp, gs, ⟨?_, fun i q hq => ?_, by simp [hkM], fun i q r hq hr => ?_, fun r hr => ?_, x.nd, ⟨fun e => ?_, fun e => ?_⟩, ?_⟩, fun k hk => ?_, HB.out⟩
        · rw [List.length_replicate, ← hkM]
          exact c0
        · have h3 : (gs.map (slV K))[i]? = some (slV K q) := by rw [List.getElem?_map, hq]; rfl
          have := hcl i _ h3
          rw [Addr.add_at, Nat.zero_add] at this
          exact this
        · have : r = List.replicate K (0, 0) := List.eq_of_mem_replicate (List.mem_of_getElem? hr)
          subst this
          exact x.rows q (List.mem_of_getElem? hq)
        · have : r = List.replicate K (0, 0) := List.eq_of_mem_replicate hr
          subst this
          simp
        · have := x.gt _ e
          omega
        · exact x.fr g rfl e
        · rw [List.length_replicate]
          omega
        · rcases hk with rfl | rfl | hk
          · exact Nat.le_refl _
          · omega
          · have := x.gt _ hk
            omega

end Go.Proofs.Ytfoodmlgknckgaa
