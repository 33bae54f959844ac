/- Take. -/
import Derived.Test.YtibgpbflchfbnaaNtE
import Derived.Deep.Cut
namespace Go.Proofs.Ytibgpbflchfbnaa
open Go.RowKit

theorem NT.one {w : World} {b : Nat} {T : TypeId} {cs : Array Value} {rv : Value} {rs : List (Dg × Value)} {F : Nat → Prop} (h : NT w b T cs rv rs F) : ∀ r ∈ rs, r.2.oneCell' = true := fun r hr => (h.bs r hr).oneCell

/-- Its row is another one in the same place, of the same things. -/
theorem NT.dropRow {w w' : World} {b : Nat} {T : TypeId} {cs : Array Value} {rv rv' : Value} {rs rs' : List (Dg × Value)} {F : Nat → Prop} (h : NT w b T cs rv rs F) (j : Nat) (hown : w'.ownsRow 0 30 3 rv' rs'.length (rs'.flatMap dgCells)) (hk : Kept w w' (fun k => rv.ownBlock = some k)) (hm : ∀ k, rv'.ownBlock = some k → rv.ownBlock = some k)
    (hbs : ∀ r ∈ rs', r ∈ rs) : NT (w'.setCell ⟨b, j, none⟩ rv') b T (cs.setIfInBounds j rv') rv' rs' F ∧ Kept w (w'.setCell ⟨b, j, none⟩ rv') F := by
  have hsz := h.size
  have hbx : w'.heap[b]? = some (.cells cs T (0, 0)) := (hk.block b hsz (fun e => (h.fr b e).2 rfl)).trans h.box
  have hk2 : Kept w' (w'.setCell ⟨b, j, none⟩ rv') (fun k => k = b) := Kept.setCell _ _ _
  refine ⟨⟨?_, own_kept3 hown hk2 (fun k hv => (h.fr k (hm k hv)).2), fun r hr => ?_, h.fb, fun k hv => h.fr k (hm k hv), fun r hr k hb hv => ?_, fun k hF => ?_⟩, ?_⟩
  · rw [heap_setCell_same w' b j _ _ rv' hbx]
  · exact ((h.bs r (hbs r hr)).kept hk (fun k hne hv _ => (h.fs r (hbs r hr) k hne hv).2.2)).kept hk2 (fun k hne hv _ => (h.fs r (hbs r hr) k hne hv).2.1)
  · have q := h.fs r (hbs r hr) k hb hv
    exact ⟨q.1, q.2.1, fun e => q.2.2 (hm k e)⟩
  · have := h.lt k hF
    have := hk.size
    simp; omega
  · refine Kept.trans (hk.mono (fun i _ e => (h.fr i e).1)) hk2 (fun i _ e => ?_)
    have e' : i = b := e
    rw [e']; exact h.fb

set_option maxRecDepth 20000 in
set_option maxHeartbeats 1000000 in
theorem ntake_no (b most lost : Nat) (rv : Value) (rs : List (Dg × Value)) (F : Nat → Prop) (k : Int) (w : World) (h : Net w b most lost rv rs F) (hk : hasB rs.length k = false) :
    Calls Try.prog 11 #[.pointer (some ⟨b, 0, none⟩), .int .i64 k] w fun e w' => e = .returned (.tuple #[dgV ⟨0, 0, []⟩ (.slice none 0 0), .bool false]) ∧ Below w.heap.size w w' := by
  have hA : Below w.heap.size w (w.alloc (.cells #[.int .i64 0, .int .i64 0, .slice none 0 0] 30)) := (Below.refl _ _).alloc (Nat.le_refl _) _
  have HP : Hid _ := hidden (npeek_no b most lost rv rs F k _ (h.below hA) hk)
  clear h
  go_enter Try.func11, Try.ntmps11
  go_wp2_with (go_at_call 18; refine HP.out.mono ?_; rintro e w2 ⟨rfl, hb2⟩; have hs2 : w.heap.size < w2.heap.size := by { have := hb2.size; simp at this; omega }; have hx2 := (hb2.block w.heap.size (by simp)).trans (heap_alloc_new w _); have e0 := cell_of_row w2 _ 0 _ _ _ hx2; have e1 := cell_of_row w2 _ 1 _ _ _ hx2; have e2 := cell_of_row w2 _ 2 _ _ _ hx2; have f0 := frozen_of_row w2 _ 0 _ _ hx2; have f1 := frozen_of_row w2 _ 1 _ _ hx2; have f2 := frozen_of_row w2 _ 2 _ _ hx2; simp at e0 e1 e2)
  refine bodyPost_ret (v := .tuple #[dgV ⟨0, 0, []⟩ (.slice none 0 0), .bool false]) (by simp [results, Try.results11, go_sem, *]) rfl ⟨rfl, ?_⟩
  exact ((((hA.trans (hb2.mono (by simp))).setCell (by simp) _).setCell (by simp) _).setCell (by simp) _).alloc (by have := hb2.size; simp at this; simp; omega) _

set_option maxRecDepth 20000 in
set_option maxHeartbeats 2000000 in
theorem ntake_ok (b most lost : Nat) (rv : Value) (rs : List (Dg × Value)) (F : Nat → Prop) (k : Nat) (w : World) (h : Net w b most lost rv rs F) (hk : k < rs.length) (hl : rs[k].1.b.length ≤ 140737488355328) (hn : rs.length ≤ 256) :
    Calls Try.prog 11 #[.pointer (some ⟨b, 0, none⟩), .int .i64 (k : Int)] w fun e w' => ∃ v' rv', e = .returned (.tuple #[dgV rs[k].1 v', .bool true]) ∧ NewB w w' v' rs[k].1.b ∧ Net w' b most lost rv' (rs.eraseIdx k) F ∧ Kept w w' F := by
  have hA : Below w.heap.size w (w.alloc (.cells #[.int .i64 0, .int .i64 0, .slice none 0 0] 30)) := (Below.refl _ _).alloc (Nat.le_refl _) _
  have h1 := h.below hA
  have HP : Hid _ := hidden (npeek_ok b most lost rv rs F k _ h1 hk hl)
  obtain ⟨g, cap, rfl, hc1, hc2, hg, hgb, p0, p1, p2⟩ := NT.at h1 k hk
  have hsz := NT.size h
  clear p0 p1 p2 hg
  generalize rs[k].1 = d at *
  obtain ⟨frm, to, l⟩ := d
  simp only at *
  go_enter Try.func11, Try.ntmps11
  go_upto_region 2 with (go_at_call 18; refine HP.out.mono ?_; rintro e w2 ⟨v2, rfl, hv2, hb2⟩; have hs2 : w.heap.size < w2.heap.size := by { have := hb2.size; simp at this; omega }; have hx2 := (hb2.block w.heap.size (by simp)).trans (heap_alloc_new w _); obtain ⟨gn, hgn, hve, hgn2⟩ := hv2; subst hve; (simp only [World.size_alloc] at hgn))
  have hB : Below w2.heap.size w2 (w2.alloc (.cells #[.int .i64 frm, .int .i64 to, .slice (some ⟨gn, 0, none⟩) l.length l.length] 30)) := (Below.refl _ _).alloc (Nat.le_refl _) _
  have hx3 := heap_alloc_new w2 (.cells #[.int .i64 frm, .int .i64 to, .slice (some ⟨gn, 0, none⟩) l.length l.length] 30)
  have hy3 := (hB.block _ hs2).trans hx2
  have h3 := (h1.below hb2).below hB
  have hgn3 := (hB.block gn (Array.getElem?_eq_some_iff.1 hgn2).1).trans hgn2
  have hB3 : Below w.heap.size w (w2.alloc (.cells #[.int .i64 frm, .int .i64 to, .slice (some ⟨gn, 0, none⟩) l.length l.length] 30)) := (hA.trans (hb2.mono (by simp))).trans (hB.mono (by omega))
  have hs3 : w2.heap.size < (w2.alloc (.cells #[.int .i64 frm, .int .i64 to, .slice (some ⟨gn, 0, none⟩) l.length l.length] 30)).heap.size := by simp
  generalize w2.alloc (.cells #[.int .i64 frm, .int .i64 to, .slice (some ⟨gn, 0, none⟩) l.length l.length] 30) = w3 at *
  clear HP hb2 hgn2 hB hx2 h1 hA
  have hgw : g < w.heap.size := h.lt g (h.fr g rfl).1
  generalize hG : w2.heap.size = gd at *
  generalize hH : w.heap.size = gr at *
  have c1 := h3.c1
  have n1 : ¬ b = gd := by omega
  have n2 : ¬ b = gr := by omega
  have n3 : ¬ gd = gr := by omega
  have n4 : ¬ gd = b := by omega
  have n5 : ¬ gr = b := by omega
  have n6 : ¬ gr = gd := by omega
  go_wp2_with fail
  rw [show ((k : Int) + 1) = ((k + 1 : Nat) : Int) by omega]
  refine (ndelete_any g cap k (k + 1) rs w3 h3.own (NT.one h3) hk rfl).mono ?_
  rintro e w4 ⟨rfl, ho4, hk4⟩
  have hx4 := (hk4.block gd hs3 (by omega)).trans hx3
  have hy4 := (hk4.block gr (by omega) (by omega)).trans hy3
  have hz4 := (hk4.block b (NT.size h3) (fun e => hgb e.symm)).trans h3.box
  have e0 := cell_of_row w4 _ 0 _ _ _ hx4
  have e1 := cell_of_row w4 _ 1 _ _ _ hx4
  have e2 := cell_of_row w4 _ 2 _ _ _ hx4
  have d0 := cell_of_row w4 _ 0 _ _ _ hy4
  have d1 := cell_of_row w4 _ 1 _ _ _ hy4
  have d2 := cell_of_row w4 _ 2 _ _ _ hy4
  have f0 := frozen_of_row w4 _ 0 _ _ hy4
  have f1 := frozen_of_row w4 _ 1 _ _ hy4
  have f2 := frozen_of_row w4 _ 2 _ _ hy4
  have k1 := cell_of_row w4 _ 1 _ _ _ hz4
  have k2 := frozen_of_row w4 _ 1 _ _ hz4
  simp at e0 e1 e2 d0 d1 d2 k1
  clear c1
  go_wp2
  have hk4' : Kept w3 w4 (fun k => (Value.slice (some ⟨g, 0, none⟩) rs.length cap).ownBlock = some k) := hk4.mono (fun i _ e => by have e' : i = g := e; rw [e']; rfl)
  have hel : (rs.eraseIdx k).length = rs.length - 1 := by rw [List.length_eraseIdx, if_pos hk]
  have q := NT.dropRow (rs' := rs.eraseIdx k) (rv' := .slice (some ⟨g, 0, none⟩) (rs.length - 1) cap) h3 1 (by rw [hel]; exact ho4) hk4' (fun k hk => hk) (fun r hr => List.mem_of_mem_eraseIdx hr)
  generalize hW5 : w4.setCell ⟨b, 1, none⟩ (.slice (some ⟨g, 0, none⟩) (rs.length - 1) cap) = w5 at *
  have hk5 := kept3 w5 gr (.int .i64 frm) (.int .i64 to) (.slice (some ⟨gn, 0, none⟩) l.length l.length)
  have hFg : ∀ k, F k → k < gr := fun k hk => by rw [← hH]; exact h.lt k hk
  have r5 : w5.heap[gr]? = some (.cells #[.int .i64 0, .int .i64 0, .slice none 0 0] 30 (0, 0)) := by rw [← hW5, Below.heap_setCell _ _ _ _ n5]; exact hy4
  refine bodyPost_ret (v := .tuple #[dgV ⟨frm, to, l⟩ (.slice (some ⟨gn, 0, none⟩) l.length l.length), .bool true]) (by have d0 := cell_of_row w5 _ 0 _ _ _ r5; have d1 := cell_of_row w5 _ 1 _ _ _ r5; have d2 := cell_of_row w5 _ 2 _ _ _ r5; simp at d0 d1 d2; simp [results, Try.results11, go_sem, d0, d1, d2]) rfl ⟨_, _, rfl, ?_, NT.keep q.1 hk5 (fun k hk e => by have e' : k = gr := e; have := hFg k hk; omega), ?_⟩
  · refine ⟨gn, by omega, rfl, ?_⟩
    have hlt : gn < w3.heap.size := (Array.getElem?_eq_some_iff.1 hgn3).1
    have h5 := (q.2.block gn hlt (fun e => by have := hFg gn e; omega)).trans hgn3
    exact (hk5.block gn (Array.getElem?_eq_some_iff.1 h5).1 (by omega)).trans h5
  · exact ((kept_of_below (hH ▸ hB3) F).trans q.2 (fun _ _ e => e)).trans hk5 (fun i hi e => by have e' : i = gr := e; omega)

end Go.Proofs.Ytibgpbflchfbnaa
