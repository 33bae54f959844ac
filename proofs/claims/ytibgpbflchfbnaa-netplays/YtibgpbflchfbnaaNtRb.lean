/- The plain net: Double, Take. -/
import Derived.Test.YtibgpbflchfbnaaNtR
namespace Go.Proofs.Ytibgpbflchfbnaa
open Go.RowKit

set_option maxRecDepth 20000 in
set_option maxHeartbeats 1000000 in
theorem rdouble_no (b most lost : Nat) (rv : Value) (rs : List (Dg × Value)) (F : Nat → Prop) (k : Int) (w : World) (h : RNet w b most lost rv rs F) (hk : hasB rs.length k = false ∨ most ≤ rs.length) :
    Calls Try.prog 17 #[.pointer (some ⟨b, 0, none⟩), .int .i64 k] w fun e w' => e = .returned (.bool false) ∧ Below w.heap.size w w' := by
  obtain ⟨ro, rc, hrv⟩ := NT.form h
  subst hrv
  by_cases h1 : hasB rs.length k = false
  · have HP : Hid _ := hidden (rpeek_no b most lost _ rs F k w h h1)
    clear h
    go_enter Try.func17, Try.ntmps17
    go_wp2_with (go_at_call 19; refine HP.out.mono ?_; rintro e w2 ⟨rfl, hb2⟩)
    go_quiet (fail)
    go_wp2
    go_ret
    exact ⟨rfl, (hb2.alloc hb2.size _).trans ((below_drewN0 _ _).mono (by have := hb2.size; simp; omega))⟩
  · have h2 : hasB rs.length k = true := by simpa using h1
    have h3 : most ≤ rs.length := hk.resolve_left h1
    obtain ⟨j, rfl, hj⟩ := hasB_at h2
    have HP : Hid _ := hidden (rpeek_ok b most lost _ rs F j w h hj)
    have hbs := NT.bs h rs[j] (List.getElem_mem hj)
    generalize rs[j] = r at *
    obtain ⟨⟨frm, tt, l⟩, v⟩ := r
    simp only at *
    obtain ⟨ao, vc, rfl⟩ := hbs.slice
    have hd : decide (most ≤ rs.length) = true := by simp [h3]
    clear hk h1 h2
    go_enter Try.func17, Try.ntmps17
    go_wp2_with (go_at_call 19; refine HP.out.mono ?_; rintro e w2 ⟨rfl, hb2⟩; have h5 := h.below hb2)
    have h6 := h5.below ((Below.refl _ _).alloc (Nat.le_refl _) (.cells #[.int .i64 frm, .int .i64 tt, .slice ao l.length vc] 30))
    have c0 := h6.c0
    have c2 := h6.c2
    go_quiet (fail)
    go_wp2
    go_ret
    exact ⟨rfl, (hb2.alloc hb2.size _).trans ((below_drewN0 _ _).mono (by have := hb2.size; simp; omega))⟩

set_option maxRecDepth 20000 in
set_option maxHeartbeats 2000000 in
theorem rdouble_ok (b most lost : Nat) (rv : Value) (rs : List (Dg × Value)) (F : Nat → Prop) (k : Nat) (w : World) (h : RNet w b most lost rv rs F) (hk : k < rs.length) (hm : most ≤ 256) (hn : rs.length < most) (hl : rs[k].1.b.length ≤ 140737488355328) :
    Calls Try.prog 17 #[.pointer (some ⟨b, 0, none⟩), .int .i64 (k : Int)] w fun e w' => e = .returned (.bool true) ∧ (∃ rv' v', RNet w' b most lost rv' (rs ++ [(rs[k].1, v')]) (grownF w w' F)) ∧ Kept w w' F := by
  obtain ⟨ro, rc, hrv⟩ := NT.form h
  subst hrv
  obtain ⟨i, hi, hz0, hz1, hz2⟩ := info_parts Try.infoDg
  have HP : Hid _ := hidden (rpeek_ok b most lost _ rs F k w h hk)
  have hbs := NT.bs h rs[k] (List.getElem_mem hk)
  generalize rs[k] = r at *
  obtain ⟨⟨frm, tt, l⟩, v⟩ := r
  simp only at *
  obtain ⟨ao, vc, rfl⟩ := hbs.slice
  have hd : decide (most ≤ rs.length) = false := by simp; omega
  go_enter Try.func17, Try.ntmps17
  go_wp2_with (go_at_call 19; refine HP.out.mono ?_; rintro e w2 ⟨rfl, hb2⟩)
  have hB : Below w.heap.size w (w2.alloc (.cells #[.int .i64 frm, .int .i64 tt, .slice ao l.length vc] 30)) := hb2.alloc hb2.size _
  have hX := heap_alloc_new w2 (.cells #[.int .i64 frm, .int .i64 tt, .slice ao l.length vc] 30)
  generalize w2.alloc (.cells #[.int .i64 frm, .int .i64 tt, .slice ao l.length vc] 30) = w0 at *
  have hb2s := hb2.size
  generalize w2.heap.size = gd at *
  have hW := h.below hB
  have c0 := hW.c0
  have c2 := hW.c2
  go_quiet (fail)
  clear c0 c2
  go_wp2_with fail
  have hD0 : Below w.heap.size w (w0.drewN nq) := hB.trans ((below_drewN0 w0 nq).mono hB.size)
  have hXn : (w0.drewN nq).heap[gd]? = some (.cells #[.int .i64 frm, .int .i64 tt, .slice ao l.length vc] 30 (0, 0)) := hX
  generalize w0.drewN nq = w1 at *
  have h1 := h.below hD0
  have c1 := h1.c2
  have hDd := hD0.drew
  have h1d := h.below hDd
  have a0 := cell_of_row w1 _ 0 _ _ _ hXn
  have a1 := cell_of_row w1 _ 1 _ _ _ hXn
  have a2 := cell_of_row w1 _ 2 _ _ _ hXn
  simp at a0 a1 a2
  clear hX hXn hB hW HP
  go_region_law (first
    | (refine step_append_lies _ rfl (.tmp 31) (.tmp 34) 34 rfl 0 30 i _ 3 40 Try.underlying34 hi hz0 hz1 hz2 rfl (by omega) (.slice ro rs.length rc) rs.length (rs.flatMap dgCells) rfl h3.own ⟨w2.heap.size, 0, none⟩ 1 1 (dgCells (⟨frm, tt, l⟩, .slice yo yn yc)) rfl rfl (cell_three_new _ _ _ _ _) (dgCells_one (Bs.ofOwns ho2)) (by omega) (by unfold maxLen; omega) (by omega) (Nat.zero_le _) _ rfl ?_; intro g cap4 w4 ho4 hk4 hat4 hlt4; have hx4 := ((Kept.grown hk4).block b (NT.size h3) (fun e => (h3.fr b e).2 rfl)).trans h3.box; have e4 := cell_of_row w4 b 2 _ _ _ hx4; have f4 := frozen_of_row w4 b 2 _ _ hx4; simp at e4)
    | (go_simp; go_wp2_with (go_at_call 20; refine (rcopy_any ⟨frm, tt, l⟩ _ _ (hbs.below hDd) hl).mono ?_; rintro e w2 ⟨v2, rfl, ho2, hb2⟩; obtain ⟨yo, yn, yc, hye⟩ := own_form3 ho2; subst hye; have h2 := h1d.below hb2; have h3 : RNet (w2.alloc (.cells #[.int .i64 frm, .int .i64 tt, .slice yo yn yc] 30)) b most lost (.slice ro rs.length rc) rs F := h2.below ((Below.refl _ _).alloc (Nat.le_refl _) _); have e1 := h2.c2; have e3 := h3.c2)))
  all_goals
    go_wp2
    go_ret
    have q := ref_push (d := ⟨frm, tt, l⟩) h.lt (hDd.trans ((hb2.alloc hb2.size _).mono hDd.size)) h3 ((Bs.ofOwns ho2).below ((Below.refl _ _).alloc (Nat.le_refl _) _)) (fun k hk => by have := own_base3 ho2 k hk; have := own_lt3 ho2 k hk; have := hDd.size; simp; omega) ho4 hk4 hat4
    exact ⟨rfl, ⟨_, _, q.1⟩, q.2⟩

end Go.Proofs.Ytibgpbflchfbnaa
