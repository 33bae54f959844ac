/- Peek, Double. -/
import Derived.Test.YtibgpbflchfbnaaNtC
namespace Go.Proofs.Ytibgpbflchfbnaa
open Go.RowKit

theorem kept3 (w : World) (b : Nat) (x y z : Value) : Kept w (((w.setCell ⟨b, 0, none⟩ x).setCell ⟨b, 1, none⟩ y).setCell ⟨b, 2, none⟩ z) (fun k => k = b) := by
  have h1 : Kept w (w.setCell ⟨b, 0, none⟩ x) (fun k => k = b) := Kept.setCell _ _ _
  have h2 : Kept (w.setCell ⟨b, 0, none⟩ x) ((w.setCell ⟨b, 0, none⟩ x).setCell ⟨b, 1, none⟩ y) (fun k => k = b) := Kept.setCell _ _ _
  have h3 : Kept ((w.setCell ⟨b, 0, none⟩ x).setCell ⟨b, 1, none⟩ y) (((w.setCell ⟨b, 0, none⟩ x).setCell ⟨b, 1, none⟩ y).setCell ⟨b, 2, none⟩ z) (fun k => k = b) := Kept.setCell _ _ _
  exact (h1.trans h2 (fun _ _ e => e)).trans h3 (fun _ _ e => e)
theorem hasB_at {n : Nat} {k : Int} (h : hasB n k = true) : ∃ j : Nat, k = (j : Int) ∧ j < n := by
  unfold hasB at h
  have h' := of_decide_eq_true h
  exact ⟨k.toNat, by omega, by omega⟩

set_option maxRecDepth 20000 in
set_option maxHeartbeats 1000000 in
theorem npeek_no (b most lost : Nat) (rv : Value) (rs : List (Dg × Value)) (F : Nat → Prop) (k : Int) (w : World) (h : Net w b most lost rv rs F) (hk : hasB rs.length k = false) :
    Calls Try.prog 18 #[.pointer (some ⟨b, 0, none⟩), .int .i64 k] w fun e w' => e = .returned (.tuple #[dgV ⟨0, 0, []⟩ (.slice none 0 0), .bool false]) ∧ Below w.heap.size w w' := by
  have hA : Below w.heap.size w (w.alloc (.cells #[.int .i64 0, .int .i64 0, .slice none 0 0] 30)) := (Below.refl _ _).alloc (Nat.le_refl _) _
  have hH := nhas_any b most lost rv rs F k _ (h.below hA)
  rw [hk] at hH
  have HH : Hid _ := hidden hH
  clear hH
  go_enter Try.func18, Try.ntmps18
  go_wp2_with (go_at_call 28; refine HH.out.mono ?_; rintro e w1 ⟨rfl, rfl⟩)
  refine bodyPost_ret (v := .tuple #[dgV ⟨0, 0, []⟩ (.slice none 0 0), .bool false]) (by simp [results, Try.results18, go_sem, *]) rfl ⟨rfl, ?_⟩
  exact hA

set_option maxRecDepth 20000 in
set_option maxHeartbeats 1000000 in
theorem npeek_ok (b most lost : Nat) (rv : Value) (rs : List (Dg × Value)) (F : Nat → Prop) (k : Nat) (w : World) (h : Net w b most lost rv rs F) (hk : k < rs.length) (hl : rs[k].1.b.length ≤ 140737488355328) :
    Calls Try.prog 18 #[.pointer (some ⟨b, 0, none⟩), .int .i64 (k : Int)] w fun e w' => ∃ v', e = .returned (.tuple #[dgV rs[k].1 v', .bool true]) ∧ NewB w w' v' rs[k].1.b ∧ Below w.heap.size w w' := by
  have hA : Below w.heap.size w (w.alloc (.cells #[.int .i64 0, .int .i64 0, .slice none 0 0] 30)) := (Below.refl _ _).alloc (Nat.le_refl _) _
  have h1 := h.below hA
  have hH := nhas_any b most lost rv rs F (k : Int) _ h1
  rw [show hasB rs.length (k : Int) = true from by unfold hasB; simp; omega] at hH
  have HH : Hid _ := hidden hH
  have c1 := h1.c1
  obtain ⟨g, cap, rfl, hc1, hc2, hg, hgb, p0, p1, p2⟩ := NT.at h1 k hk
  have hbs := NT.bs h rs[k] (List.getElem_mem hk)
  generalize rs[k] = r at *
  obtain ⟨⟨frm, to, l⟩, v⟩ := r
  simp only at *
  obtain ⟨ao, vc, rfl⟩ := hbs.slice
  have hbs1 := hbs.below hA
  have hk1 : (k : Int) < (rs.length : Int) := by omega
  clear hH
  go_enter Try.func18, Try.ntmps18
  go_wp2_with (first
    | (go_at_call 28; refine HH.out.mono ?_; rintro e w1 ⟨rfl, rfl⟩)
    | (go_at_call 26; refine (nfresh_any ⟨frm, to, l⟩ _ _ hbs1 hl).mono ?_; rintro e w2 ⟨v2, rfl, hv2, hb2⟩; obtain ⟨ao2, vc2, hv2e⟩ := hv2.bs.slice; subst hv2e; have hx2 := (hb2.block w.heap.size (by simp)).trans (heap_alloc_new w _); have e0 := cell_of_row w2 _ 0 _ _ _ hx2; have e1 := cell_of_row w2 _ 1 _ _ _ hx2; have e2 := cell_of_row w2 _ 2 _ _ _ hx2; have f0 := frozen_of_row w2 _ 0 _ _ hx2; have f1 := frozen_of_row w2 _ 1 _ _ hx2; have f2 := frozen_of_row w2 _ 2 _ _ hx2; simp at e0 e1 e2))
  refine bodyPost_ret (v := .tuple #[dgV ⟨frm, to, l⟩ (.slice ao2 l.length vc2), .bool true]) (by simp [results, Try.results18, go_sem, *]) rfl ⟨_, rfl, ?_, ?_⟩
  · have hk2 := kept3 w2 w.heap.size (.int .i64 frm) (.int .i64 to) (.slice ao2 l.length vc2)
    exact (hv2.keep hk2 (fun k e => by have e' : k = w.heap.size := e; simp; omega)).from (by simp)
  · exact (((hA.trans (hb2.mono (by simp))).setCell (by simp) _).setCell (by simp) _).setCell (by simp) _

set_option maxRecDepth 20000 in
set_option maxHeartbeats 1000000 in
theorem ndouble_no (b most lost : Nat) (rv : Value) (rs : List (Dg × Value)) (F : Nat → Prop) (k : Int) (w : World) (h : Net w b most lost rv rs F) (hk : hasB rs.length k = false ∨ most ≤ rs.length) :
    Calls Try.prog 12 #[.pointer (some ⟨b, 0, none⟩), .int .i64 k] w fun e w' => e = .returned (.bool false) ∧ Below w.heap.size w w' := by
  have hH := nhas_any b most lost rv rs F k _ h
  by_cases h1 : hasB rs.length k = false
  · rw [h1] at hH
    have HH : Hid _ := hidden hH
    clear hH
    go_enter Try.func12, Try.ntmps12
    go_wp2_with (go_at_call 28; refine HH.out.mono ?_; rintro e w1 ⟨rfl, rfl⟩)
    go_ret
    exact ⟨rfl, Below.refl _ _⟩
  · have h2 : hasB rs.length k = true := by simpa using h1
    have h3 : most ≤ rs.length := hk.resolve_left h1
    have hF : fullB rs.length most = true := by unfold fullB; simp [h3]
    rw [h2] at hH
    have HH : Hid _ := hidden hH
    clear hH h1 hk h2
    go_enter Try.func12, Try.ntmps12
    go_wp2_with (first
      | (go_at_call 28; refine HH.out.mono ?_; rintro e w1 ⟨rfl, rfl⟩)
      | (go_at_call 25; refine (nfull_any b most lost rv rs F _ h).mono ?_; rintro e w1 ⟨rfl, n, rfl⟩; rw [hF]))
    go_ret
    exact ⟨rfl, below_drewN0 _ _⟩

set_option maxRecDepth 20000 in
set_option maxHeartbeats 2000000 in
theorem ndouble_ok (b most lost : Nat) (rv : Value) (rs : List (Dg × Value)) (F : Nat → Prop) (k : Nat) (w : World) (h : Net w b most lost rv rs F) (hk : k < rs.length) (hm : most ≤ 256) (hn : rs.length < most) (hl : rs[k].1.b.length ≤ 140737488355328) :
    Calls Try.prog 12 #[.pointer (some ⟨b, 0, none⟩), .int .i64 (k : Int)] w fun e w' => e = .returned (.bool true) ∧ (∃ rv' v', Net w' b most lost rv' (rs ++ [(rs[k].1, v')]) (grownF w w' F)) ∧ Kept w w' F := by
  obtain ⟨i, hi, hz0, hz1, hz2⟩ := info_parts Try.infoDg
  have hH := nhas_any b most lost rv rs F (k : Int) _ h
  rw [show hasB rs.length (k : Int) = true from by unfold hasB; simp; omega] at hH
  have HH : Hid _ := hidden hH
  have hF : fullB rs.length most = false := by unfold fullB; simp; omega
  obtain ⟨g0, cap0, rfl, hc1, hc2, hg, hgb, p0', p1', p2'⟩ := NT.at h k hk
  have hbs := NT.bs h rs[k] (List.getElem_mem hk)
  generalize rs[k] = r at *
  obtain ⟨⟨frm, to, l⟩, v⟩ := r
  simp only at *
  obtain ⟨ao, vc, rfl⟩ := hbs.slice
  have hk1 : (k : Int) < (rs.length : Int) := by omega
  clear hH
  go_enter Try.func12, Try.ntmps12
  go_wp2_with (first
      | (go_at_call 28; refine HH.out.mono ?_; rintro e w1 ⟨rfl, rfl⟩)
      | (go_at_call 25; refine (nfull_any b most lost _ rs F _ h).mono ?_; rintro e w1 ⟨rfl, n, hn1⟩; rw [hF]; have hD0 := below_drewN0 w n; rw [← hn1] at hD0; clear hn1))
  have h1 := h.below hD0
  have hDd := hD0.drew
  have h1d := h.below hDd
  have c1 := h1.c1
  have p0 := (hD0.cell (p := ⟨g0, k * 3, none⟩) hg).trans p0'
  have p1 := (hD0.cell (p := ⟨g0, k * 3 + 1, none⟩) hg).trans p1'
  have p2 := (hD0.cell (p := ⟨g0, k * 3 + 2, none⟩) hg).trans p2'
  clear p0' p1' p2' HH
  go_region_law (first
    | (refine step_append_lies _ rfl (.tmp 17) (.tmp 26) 34 rfl 0 30 i _ 3 40 Try.underlying34 hi hz0 hz1 hz2 rfl (by omega) (.slice (some ⟨g0, 0, none⟩) rs.length cap0) rs.length (rs.flatMap dgCells) rfl h3.own ⟨w2.heap.size, 0, none⟩ 1 1 (dgCells (⟨frm, to, l⟩, v2)) rfl rfl (cell_three_new _ _ _ _ _) (dgCells_one hv2.bs) (by omega) (by unfold maxLen; omega) (by omega) (Nat.zero_le _) _ rfl ?_; intro g cap4 w4 ho4 hk4 hat4 hlt4; have hx4 := ((Kept.grown hk4).block b (NT.size h3) (fun e => (h3.fr b e).2 rfl)).trans h3.box; have e4 := cell_of_row w4 b 1 _ _ _ hx4; have f4 := frozen_of_row w4 b 1 _ _ hx4; simp at e4)
    | (go_simp; go_wp2_with (go_at_call 26; refine (nfresh_any ⟨frm, to, l⟩ _ _ (hbs.below hDd) hl).mono ?_; rintro e w2 ⟨v2, rfl, hv2, hb2⟩; have h2 := h1d.below hb2; have h3 : Net (w2.alloc (.cells #[.int .i64 frm, .int .i64 to, v2] 30)) b most lost (.slice (some ⟨g0, 0, none⟩) rs.length cap0) rs F := h2.below ((Below.refl _ _).alloc (Nat.le_refl _) _); have e1 := h2.c1; have e3 := h3.c1)))
  all_goals
    go_wp2
    go_ret
    have q := net_push (d := ⟨frm, to, l⟩) h.lt (hDd.trans ((hb2.alloc hb2.size _).mono hDd.size)) h3 (hv2.below ((Below.refl _ _).alloc (Nat.le_refl _) _)).bs (fun k hk => by have := hv2.ownBlock k hk; have := hDd.size; simp; omega) ho4 hk4 hat4
    exact ⟨rfl, ⟨_, _, q.1⟩, q.2⟩

end Go.Proofs.Ytibgpbflchfbnaa
