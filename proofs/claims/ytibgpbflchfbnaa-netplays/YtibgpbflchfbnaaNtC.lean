/- Send. -/
import Derived.Test.YtibgpbflchfbnaaNtB
import Derived.Deep.RegionLaw
namespace Go.Proofs.Ytibgpbflchfbnaa
open Go.RowKit

theorem Try.infoDg : (Try.prog.info? 30).map (fun i => (i.zero, i.size, i.bytes)) = some (some (.agg #[.int .i64 0, .int .i64 0, .slice none 0 0]), 3, 40) := by kernel_rfl

theorem cell_three_new (w : World) (a b c : Value) (t : TypeId) : ∀ j u, [a, b, c][j]? = some u → (w.alloc (.cells #[a, b, c] t)).cell? ((⟨w.heap.size, 0, none⟩ : Addr).add j) = some u := by
  intro j u hj
  rw [Addr.add_at, cell_of_row _ _ _ _ _ _ (heap_alloc_new w _)]
  simpa using hj
theorem dgCells_one {w : World} {r : Dg × Value} {l : List UInt8} (h : Bs w r.2 l) : ∀ u ∈ dgCells r, u.oneCell' = true := by
  intro u hu
  simp only [dgCells, List.mem_cons, List.not_mem_nil, or_false] at hu
  rcases hu with rfl | rfl | rfl
  · rfl
  · rfl
  · exact h.oneCell
theorem flat_snoc3 (rs : List (Dg × Value)) (r : Dg × Value) : (rs ++ [r]).flatMap dgCells = rs.flatMap dgCells ++ dgCells r := by simp

theorem net_lost {w w1 : World} {b most lost : Nat} {rv : Value} {rs : List (Dg × Value)} {F : Nat → Prop} (h1 : Net w1 b most lost rv rs F) (hb : Below w.heap.size w w1) : Net (w1.setCell ⟨b, 2, none⟩ (.int .i64 ((lost : Int) + 1))) b most (lost + 1) rv rs F ∧ Kept w (w1.setCell ⟨b, 2, none⟩ (.int .i64 ((lost : Int) + 1))) F := by
  have q := NT.set h1 2 (.int .i64 ((lost : Int) + 1))
  refine ⟨?_, (kept_of_below hb F).trans q.2 (fun i _ e => by have e' : i = b := e; rw [e']; exact h1.fb)⟩
  have e : (netC most lost rv).setIfInBounds 2 (.int .i64 ((lost : Int) + 1)) = netC most (lost + 1) rv := by simp [netC]
  unfold Net
  rw [← e]
  exact q.1

/-- F, and all that is new. -/
def grownF (w w' : World) (F : Nat → Prop) : Nat → Prop := fun k => F k ∨ (w.heap.size ≤ k ∧ k < w'.heap.size)

theorem nt_push {w w3 w4 : World} {b T j : Nat} {cs : Array Value} {rv v2 : Value} {rs : List (Dg × Value)} {F : Nat → Prop} {d : Dg} {g cap : Nat} (hold : ∀ k, F k → k < w.heap.size) (hb : Below w.heap.size w w3) (h3 : NT w3 b T cs rv rs F) (hv2 : Bs w3 v2 d.b) (ho2 : ∀ k, v2.ownBlock = some k → w.heap.size ≤ k ∧ k < w3.heap.size)
    (ho4 : w4.ownsRow 0 30 3 (.slice (some ⟨g, 0, none⟩) (rs.length + 1) cap) (rs.length + 1) (rs.flatMap dgCells ++ dgCells (d, v2))) (hk4 : w3.grownBy w4 rv.ownBlock) (hat : rv.ownBlock = some g ∨ g = w3.heap.size) :
    NT (w4.setCell ⟨b, j, none⟩ (.slice (some ⟨g, 0, none⟩) (rs.length + 1) cap)) b T (cs.setIfInBounds j (.slice (some ⟨g, 0, none⟩) (rs.length + 1) cap)) (.slice (some ⟨g, 0, none⟩) (rs.length + 1) cap) (rs ++ [(d, v2)]) (grownF w (w4.setCell ⟨b, j, none⟩ (.slice (some ⟨g, 0, none⟩) (rs.length + 1) cap)) F) ∧ Kept w (w4.setCell ⟨b, j, none⟩ (.slice (some ⟨g, 0, none⟩) (rs.length + 1) cap)) F := by
  have hs3 := hb.size
  have hs4 := hk4.size
  have hF3 : ∀ k, grownF w w3 F k → k < w3.heap.size := fun k hk => by
    rcases hk with h1 | h1
    · exact h3.lt k h1
    · exact h1.2
  have h3' : NT w3 b T cs rv rs (grownF w w3 F) := h3.mono (fun k hk => Or.inl hk) hF3
  have hlen : (rs ++ [(d, v2)]).length = rs.length + 1 := by simp
  have q := NT.setRow (w' := w4) (rv' := .slice (some ⟨g, 0, none⟩) (rs.length + 1) cap) (rs' := rs ++ [(d, v2)]) h3' j (by rw [hlen, flat_snoc3]; exact ho4) (Kept.grown hk4) (fun k hk => by
      simp only [Value.ownBlock, Option.some.injEq] at hk
      subst hk
      rcases hat with h1 | h1
      · exact Or.inl h1
      · exact Or.inr (by omega)) (fun r hr => by
      rcases List.mem_append.1 hr with h1 | h1
      · exact Or.inl h1
      · rw [List.mem_singleton.1 h1]
        have hfar : ∀ k, v2.ownBlock = some k → grownF w w3 F k ∧ k ≠ b ∧ rv.ownBlock ≠ some k := fun k hk => by
          have h5 := ho2 k hk
          refine ⟨Or.inr h5, fun e => ?_, fun e => ?_⟩
          · have := hold b h3.fb; omega
          · have := hold k (h3.fr k e).1; omega
        exact Or.inr ⟨hv2.kept (Kept.grown hk4) (fun k _ hk _ => (hfar k hk).2.2), fun k _ hk => hfar k hk⟩)
  refine ⟨q.1.mono (fun k hk => ?_) (fun k hk => ?_), (kept_of_below hb F).trans q.2 (fun i hi e => ?_)⟩
  · rcases hk with (h1 | h1) | h1
    · exact Or.inl h1
    · exact Or.inr (by simp; omega)
    · exact Or.inr (by simp; omega)
  · rcases hk with h1 | h1
    · have := hold k h1; simp; omega
    · exact h1.2
  · rcases e with h1 | h1
    · exact h1
    · omega

theorem net_push {w w3 w4 : World} {b most lost : Nat} {rv v2 : Value} {rs : List (Dg × Value)} {F : Nat → Prop} {d : Dg} {g cap : Nat} (hold : ∀ k, F k → k < w.heap.size) (hb : Below w.heap.size w w3) (h3 : Net w3 b most lost rv rs F) (hv2 : Bs w3 v2 d.b) (ho2 : ∀ k, v2.ownBlock = some k → w.heap.size ≤ k ∧ k < w3.heap.size)
    (ho4 : w4.ownsRow 0 30 3 (.slice (some ⟨g, 0, none⟩) (rs.length + 1) cap) (rs.length + 1) (rs.flatMap dgCells ++ dgCells (d, v2))) (hk4 : w3.grownBy w4 rv.ownBlock) (hat : rv.ownBlock = some g ∨ g = w3.heap.size) :
    Net (w4.setCell ⟨b, 1, none⟩ (.slice (some ⟨g, 0, none⟩) (rs.length + 1) cap)) b most lost (.slice (some ⟨g, 0, none⟩) (rs.length + 1) cap) (rs ++ [(d, v2)]) (grownF w (w4.setCell ⟨b, 1, none⟩ (.slice (some ⟨g, 0, none⟩) (rs.length + 1) cap)) F) ∧ Kept w (w4.setCell ⟨b, 1, none⟩ (.slice (some ⟨g, 0, none⟩) (rs.length + 1) cap)) F :=
  nt_push (j := 1) hold hb h3 hv2 ho2 ho4 hk4 hat

set_option maxRecDepth 20000 in
set_option maxHeartbeats 1000000 in
theorem nsend_lost (b most lost : Nat) (rv : Value) (rs : List (Dg × Value)) (F : Nat → Prop) (d : Dg) (v : Value) (w : World) (h : Net w b most lost rv rs F) (hv : Bs w v d.b) (hlost : lost ≤ 4611686018427387904) (hf : most ≤ rs.length ∨ 1024 < d.b.length) :
    Calls Try.prog 10 #[.pointer (some ⟨b, 0, none⟩), dgV d v] w fun e w' => e = .returned (.bool false) ∧ Net w' b most (lost + 1) rv rs F ∧ Kept w w' F := by
  obtain ⟨ao, cap, rfl⟩ := hv.slice
  have hsz := NT.size h
  have hW : Net (w.alloc (.cells #[.int .i64 d.frm, .int .i64 d.to, .slice ao d.b.length cap] 30)) b most lost rv rs F := h.below ((Below.refl _ _).alloc (Nat.le_refl _) _)
  by_cases hfull : most ≤ rs.length
  · have hF : fullB rs.length most = true := by unfold fullB; simp [hfull]
    go_enter Try.func10, Try.ntmps10
    go_wp2_with (go_at_call 25; refine (nfull_any b most lost rv rs F _ hW).mono ?_; rintro e w1 ⟨rfl, n, rfl⟩; rw [hF]; have h1 := hW.below (below_drewN0 _ n); have c2 := h1.c2; have f2 := NT.free h1 2)
    go_ret
    exact ⟨rfl, net_lost h1 ((Below.refl _ _).alloc (Nat.le_refl _) _ |>.trans (below_drewN0 _ n |>.mono (by simp)))⟩
  · have hF : fullB rs.length most = false := by unfold fullB; simp [hfull]
    have hlen : ¬ d.b.length ≤ 1024 := by omega
    go_enter Try.func10, Try.ntmps10
    go_wp2_with (go_at_call 25; refine (nfull_any b most lost rv rs F _ hW).mono ?_; rintro e w1 ⟨rfl, n, rfl⟩; rw [hF]; have h1 := hW.below (below_drewN0 _ n); have c2 := h1.c2; have f2 := NT.free h1 2)
    go_ret
    exact ⟨rfl, net_lost h1 ((Below.refl _ _).alloc (Nat.le_refl _) _ |>.trans (below_drewN0 _ n |>.mono (by simp)))⟩

set_option maxRecDepth 20000 in
set_option maxHeartbeats 2000000 in
theorem nsend_ok (b most lost : Nat) (rv : Value) (rs : List (Dg × Value)) (F : Nat → Prop) (d : Dg) (v : Value) (w : World) (h : Net w b most lost rv rs F) (hv : Bs w v d.b) (hm : most ≤ 256) (hn : rs.length < most) (hl : d.b.length ≤ 1024) :
    Calls Try.prog 10 #[.pointer (some ⟨b, 0, none⟩), dgV d v] w fun e w' => e = .returned (.bool true) ∧ (∃ rv' v', Net w' b most lost rv' (rs ++ [(d, v')]) (grownF w w' F)) ∧ Kept w w' F := by
  obtain ⟨ao, cap, rfl⟩ := hv.slice
  obtain ⟨i, hi, hz0, hz1, hz2⟩ := info_parts Try.infoDg
  have hsz := NT.size h
  have hA : Below w.heap.size w (w.alloc (.cells #[.int .i64 d.frm, .int .i64 d.to, .slice ao d.b.length cap] 30)) := (Below.refl _ _).alloc (Nat.le_refl _) _
  have hF : fullB rs.length most = false := by unfold fullB; simp; omega
  have hlen : ¬ 1024 < d.b.length := by omega
  obtain ⟨ro, rc, hrv⟩ := NT.form h
  subst hrv
  go_enter Try.func10, Try.ntmps10
  have hX0 : (w.alloc (.cells #[.int .i64 d.frm, .int .i64 d.to, .slice ao d.b.length cap] 30)).heap[w.heap.size]? = some (.cells #[.int .i64 d.frm, .int .i64 d.to, .slice ao d.b.length cap] 30 (0, 0)) := heap_alloc_new w _
  go_wp2_with (go_at_call 25; refine (nfull_any b most lost _ rs F _ (h.below hA)).mono ?_; rintro e w1 ⟨rfl, n, hn1⟩; rw [hF]; have hD0 := below_drewN0 (w.alloc (.cells #[.int .i64 d.frm, .int .i64 d.to, .slice ao d.b.length cap] 30)) n; rw [← hn1] at hD0; clear hn1; have hX := (hD0.block _ (by simp)).trans hX0; have a0 := cell_of_row _ _ 0 _ _ _ hX; have a1 := cell_of_row _ _ 1 _ _ _ hX; have a2 := cell_of_row _ _ 2 _ _ _ hX; simp at a0 a1 a2)
  have hD := hA.trans (hD0.mono (by simp))
  have h1 := h.below hD
  have c1 := h1.c1
  have hDd := hD.drew
  have h1d := h.below hDd
  clear hX hX0 hD0 hA
  go_region_law (first
    | (refine step_append_lies _ rfl (.tmp 24) (.tmp 27) 34 rfl 0 30 i _ 3 40 Try.underlying34 hi hz0 hz1 hz2 rfl (by omega) (.slice ro rs.length rc) rs.length (rs.flatMap dgCells) rfl h3.own ⟨w2.heap.size, 0, none⟩ 1 1 (dgCells (d, v2)) rfl rfl (cell_three_new _ _ _ _ _) (dgCells_one hv2.bs) (by omega) (by unfold maxLen; omega) (by omega) (Nat.zero_le _) _ rfl ?_; intro g cap4 w4 ho4 hk4 hat4 hlt4; have hx4 := ((Kept.grown hk4).block b (NT.size h3) (fun e => (h3.fr b e).2 rfl)).trans h3.box; have e4 := cell_of_row w4 b 1 _ _ _ hx4; have f4 := frozen_of_row w4 b 1 _ _ hx4; simp at e4)
    | (go_simp; go_wp2_with (go_at_call 26; refine (nfresh_any d _ _ (hv.below hDd) (by omega)).mono ?_; rintro e w2 ⟨v2, rfl, hv2, hb2⟩; have h2 := h1d.below hb2; have h3 : Net (w2.alloc (.cells #[.int .i64 d.frm, .int .i64 d.to, v2] 30)) b most lost (.slice ro rs.length rc) rs F := h2.below ((Below.refl _ _).alloc (Nat.le_refl _) _); have e1 := h2.c1; have e3 := h3.c1)))
  all_goals
    go_wp2
    go_ret
    have q := net_push h.lt (hDd.trans ((hb2.alloc hb2.size _).mono hDd.size)) h3 (hv2.below ((Below.refl _ _).alloc (Nat.le_refl _) _)).bs (fun k hk => by have := hv2.ownBlock k hk; have := hDd.size; simp; omega) ho4 hk4 hat4
    exact ⟨rfl, ⟨_, _, q.1⟩, q.2⟩

end Go.Proofs.Ytibgpbflchfbnaa
