/- The plain net: Take. -/
import Derived.Test.YtibgpbflchfbnaaNtRb
import Derived.Deep.CutRange
namespace Go.Proofs.Ytibgpbflchfbnaa
open Go.RowKit

theorem Row3.ofOwn {w : World} {base g cap : Nat} {rs : List (Dg × Value)} (hown : w.ownsRow base 30 3 (.slice (some ⟨g, 0, none⟩) rs.length cap) rs.length (rs.flatMap dgCells)) (hone : ∀ r ∈ rs, r.2.oneCell' = true) (lo n c o : Nat) (ho : o = lo * 3 ∨ n = 0) (hn : lo + n ≤ rs.length) :
    Row3 w (.slice (some ⟨g, o, none⟩) n c) n (((rs.drop lo).take n).flatMap dgCells) := by
  obtain ⟨hlen, ⟨h0, _⟩ | ⟨g', cap', cur, hv, _, hg, hnc, hm, hs, ht⟩⟩ := hown
  · cases h0
  cases hv
  have hone' : ∀ u ∈ (((rs.drop lo).take n).flatMap dgCells), u.oneCell' = true := by
    intro u hu
    obtain ⟨r, hr, hu2⟩ := List.mem_flatMap.1 hu
    simp only [dgCells, List.mem_cons, List.not_mem_nil, or_false] at hu2
    rcases hu2 with rfl | rfl | rfl
    · rfl
    · rfl
    · exact hone r (List.mem_of_mem_drop (List.mem_of_mem_take hr))
  refine ⟨by rw [length_flat3 dgCells (fun _ => rfl)]; simp; omega, ⟨_, _, rfl, fun j u hj => ?_⟩, hone'⟩
  rw [← take_flat3 dgCells (fun _ => rfl), ← drop_flat3 dgCells (fun _ => rfl), List.getElem?_take] at hj
  split at hj
  · next hlt =>
    have ho' : o = lo * 3 := by omega
    rw [Addr.add_at, cell_of_row w g _ _ _ _ hg, ho']
    rw [List.getElem?_drop, ← ht, List.getElem?_take] at hj
    split at hj
    · simpa using hj
    · cases hj
  · cases hj

set_option maxRecDepth 20000 in
set_option maxHeartbeats 1000000 in
theorem rtake_no (b most lost : Nat) (rv : Value) (rs : List (Dg × Value)) (F : Nat → Prop) (k : Int) (w : World) (h : RNet w b most lost rv rs F) (hk : hasB rs.length k = false) :
    Calls Try.prog 15 #[.pointer (some ⟨b, 0, none⟩), .int .i64 k] w fun e w' => e = .returned (.tuple #[dgV ⟨0, 0, []⟩ (.slice none 0 0), .bool false]) ∧ Below w.heap.size w w' := by
  have hA : Below w.heap.size w (w.alloc (.cells #[.int .i64 0, .int .i64 0, .slice none 0 0] 30)) := (Below.refl _ _).alloc (Nat.le_refl _) _
  have HP : Hid _ := hidden (rpeek_no b most lost rv rs F k _ (h.below hA) hk)
  clear h
  go_enter Try.func15, Try.ntmps15
  go_wp2_with (go_at_call 19; refine HP.out.mono ?_; rintro e w2 ⟨rfl, hb2⟩; have hs2 : w.heap.size < w2.heap.size := by { have := hb2.size; simp at this; omega }; have hx2 := (hb2.block w.heap.size (by simp)).trans (heap_alloc_new w _); have e0 := cell_of_row w2 _ 0 _ _ _ hx2; have e1 := cell_of_row w2 _ 1 _ _ _ hx2; have e2 := cell_of_row w2 _ 2 _ _ _ hx2; have f0 := frozen_of_row w2 _ 0 _ _ hx2; have f1 := frozen_of_row w2 _ 1 _ _ hx2; have f2 := frozen_of_row w2 _ 2 _ _ hx2; simp at e0 e1 e2)
  refine bodyPost_ret (v := .tuple #[dgV ⟨0, 0, []⟩ (.slice none 0 0), .bool false]) (by simp [results, Try.results15, go_sem, *]) rfl ⟨rfl, ?_⟩
  exact ((((hA.trans (hb2.mono (by simp))).setCell (by simp) _).setCell (by simp) _).setCell (by simp) _).alloc (by have := hb2.size; simp at this; simp; omega) _

set_option maxRecDepth 20000 in
set_option maxHeartbeats 4000000 in
theorem rtake_ok (b most lost : Nat) (rv : Value) (rs : List (Dg × Value)) (F : Nat → Prop) (k : Nat) (w : World) (h : RNet w b most lost rv rs F) (hk : k < rs.length) (hn : rs.length ≤ 256) :
    Calls Try.prog 15 #[.pointer (some ⟨b, 0, none⟩), .int .i64 (k : Int)] w fun e w' => ∃ rv', e = .returned (.tuple #[dgV rs[k].1 rs[k].2, .bool true]) ∧ RNet w' b most lost rv' (rs.eraseIdx k) (grownF w w' F) ∧ Kept w w' (fun k => k = b) := by
  have hA : Below w.heap.size w (w.alloc (.cells #[.int .i64 0, .int .i64 0, .slice none 0 0] 30)) := (Below.refl _ _).alloc (Nat.le_refl _) _
  have h1 := h.below hA
  have HP : Hid _ := hidden (rpeek_ok b most lost rv rs F k _ h1 hk)
  obtain ⟨g, cap, rfl, hc1, hc2, hg, hgb, p0, p1, p2⟩ := NT.at h1 k hk
  have hsz := NT.size h
  have hbk := (NT.bs h rs[k] (List.getElem_mem hk)).slice
  clear p0 p1 p2 hg
  have herase : Hid (rs.eraseIdx k = rs.take k ++ rs.drop (k + 1)) := List.eraseIdx_eq_take_drop_succ _ _
  generalize rs[k] = r at *
  obtain ⟨⟨frm, tt, l⟩, vr⟩ := r
  simp only at *
  obtain ⟨vo, vc, rfl⟩ := hbk
  go_enter Try.func15, Try.ntmps15
  go_upto_region 2 with (go_at_call 19; refine HP.out.mono ?_; rintro e w2 ⟨rfl, hb2⟩; have hs2 : w.heap.size < w2.heap.size := by { have := hb2.size; simp at this; omega }; have hx2 := (hb2.block w.heap.size (by simp)).trans (heap_alloc_new w _))
  have hB : Below w2.heap.size w2 (w2.alloc (.cells #[.int .i64 frm, .int .i64 tt, .slice vo l.length vc] 30)) := (Below.refl _ _).alloc (Nat.le_refl _) _
  have hx3 := heap_alloc_new w2 (.cells #[.int .i64 frm, .int .i64 tt, .slice vo l.length vc] 30)
  have hy3 := (hB.block _ hs2).trans hx2
  have h3 := (h1.below hb2).below hB
  have hB3 : Below w.heap.size w (w2.alloc (.cells #[.int .i64 frm, .int .i64 tt, .slice vo l.length vc] 30)) := (hA.trans (hb2.mono (by simp))).trans (hB.mono (by omega))
  have hs3 : w2.heap.size < (w2.alloc (.cells #[.int .i64 frm, .int .i64 tt, .slice vo l.length vc] 30)).heap.size := by simp
  generalize w2.alloc (.cells #[.int .i64 frm, .int .i64 tt, .slice vo l.length vc] 30) = w3 at *
  clear HP hb2 hB hx2 h1 hA
  have hgw : g < w.heap.size := h.lt g (h.fr g rfl).1
  generalize hG : w2.heap.size = gd at *
  generalize hH : w.heap.size = gr at *
  have c1 := h3.c2
  have n1 : ¬ b = gd := by omega
  have n2 : ¬ b = gr := by omega
  have n3 : ¬ gd = gr := by omega
  have n4 : ¬ gd = b := by omega
  have n5 : ¬ gr = b := by omega
  have n6 : ¬ gr = gd := by omega
  obtain ⟨J, hJ⟩ : ∃ J, J = k + 1 := ⟨_, rfl⟩
  obtain ⟨N, hN⟩ : ∃ N, N = rs.length := ⟨_, rfl⟩
  have hr0 := Row3.ofOwn h3.own (fun r hr => (NT.bs h3 r hr).oneCell)
  obtain ⟨A, hAe, hAo⟩ : ∃ o : Nat, (if cap = J then some (⟨g, 0, none⟩ : Addr) else some ⟨g, J * 3, none⟩) = some ⟨g, o, none⟩ ∧ (o = J * 3 ∨ N - J = 0) := by
    by_cases hc : cap = J
    · exact ⟨0, by simp [hc], Or.inr (by omega)⟩
    · exact ⟨J * 3, by simp [hc], Or.inl rfl⟩
  have hr1 := hr0 0 k cap 0 (Or.inl rfl) (by omega)
  have hr2 := hr0 J (N - J) (cap - J) A hAo (by omega)
  rw [← hN] at c1 hk hn hc1
  have hE : ∀ o, Below w3.heap.size w3 (w3.alloc o).drew := fun o => ((Below.refl _ _).alloc (Nat.le_refl _) o).drew
  have hEn : ∀ o, (w3.alloc o).drew.heap[w3.heap.size]? = some o := fun o => heap_alloc_new w3 o
  have hCell : ∀ o, (w3.alloc o).cell? ⟨b, 2, none⟩ = some (.slice (some ⟨g, 0, none⟩) N cap) := fun o => (Below.cell (p := ⟨b, 2, none⟩) ((Below.refl w3.heap.size w3).alloc (Nat.le_refl _) o) (NT.size h3)).trans c1
  have hJ2 : ((k : Int) + 1) = (J : Int) := by omega
  have hJN : J ≤ N := by omega
  have hJc : J ≤ cap := by omega
  have hkc : k ≤ cap := by omega
  have HJ : Hid (J = k + 1) := hJ
  have HNN : Hid (N = rs.length) := hN
  have hJw : IntKind.i64.wrap (J : Int) = (J : Int) := by rw [IntKind.wrap_i64]; omega
  have hJ3 : (J : Int) ≤ (N : Int) := by omega
  clear hJ hAo hr0 hN
  go_wp2_with fail
  go_cut [] from 15 to 33 (fun wc => ∃ rv', RNet wc b most lost rv' (rs.eraseIdx k) (fun k => F k ∨ (w3.heap.size ≤ k ∧ k < wc.heap.size)) ∧ Kept w3 wc (fun k => k = b))
  case first =>
    go_region_law (first
      | (refine step_append_row rfl (.tmp 16) (.tmp 22) rfl w3.heap.size (.slice (some ⟨w3.heap.size, 0, none⟩) 0 0) 0 [] rfl (own_none3 (hEn _)) _ k _ rfl (hr1.below (hE _)) (by omega) (by simp [World.drew]) ?_; intro v6 w6 ho6 hk6 hm6; have hB6 : Below w3.heap.size w3 w6 := (hE _).trans (hk6.below (by simp [World.drew]) (fun i hi e => by simp [Value.ownBlock] at e; omega)); obtain ⟨ao6, n6, c6, hv6⟩ := own_form3 ho6; subst hv6; have d6 := (hB6.cell (p := ⟨b, 2, none⟩) (NT.size h3)).trans c1)
      | (refine step_append_row rfl (.tmp 23) (.tmp 30) rfl w3.heap.size (.slice ao6 n6 c6) _ _ rfl ho6 _ (N - J) _ rfl (hr2.below hB6) (by omega) (by have := hB6.size; omega) ?_; intro v7 w7 ho7 hk7 hm7; obtain ⟨ao7, n7, c7, hv7⟩ := own_form3 ho7; subst hv7; have hB7 : Below w3.heap.size w3 w7 := hB6.trans (hk7.below hB6.size (fun i hi e => by have := (own_base3 ho6 i e); omega)); have d7 := (hB7.cell (p := ⟨b, 2, none⟩) (NT.size h3)).trans c1; have f7 : w7.frozen? ⟨b, 2, none⟩ = false := (hB7.frozen (p := ⟨b, 2, none⟩) (NT.size h3)).trans (NT.free h3 2)))
    all_goals
      have ho7' : w7.ownsRow 0 30 3 (.slice ao7 n7 c7) (rs.eraseIdx k).length ((rs.eraseIdx k).flatMap dgCells) := by
        have e1 : (rs.drop 0).take k = rs.take k := by simp
        have e2 : (rs.drop J).take (N - J) = rs.drop J := List.take_of_length_le (by have := HNN.out; simp; omega)
        rw [e1, e2, List.nil_append, ← List.flatMap_append, Nat.zero_add, HJ.out] at ho7
        rw [herase.out]
        have e3 : (rs.take k ++ rs.drop (k + 1)).length = k + (N - (k + 1)) := by have := HNN.out; simp; omega
        rw [e3]
        exact own_mono ho7 (Nat.zero_le _)
      have q := NT.setRow (w' := w7) (rv' := .slice ao7 n7 c7) (rs' := rs.eraseIdx k) h3 2 ho7' (kept_of_below hB7 _) (fun i hi => Or.inr (own_base3 ho7 i hi)) (fun r hr => Or.inl (List.mem_of_mem_eraseIdx hr))
      have q2 : Kept w3 (w7.setCell ⟨b, 2, none⟩ (.slice ao7 n7 c7)) (fun k => k = b) := (kept_of_below hB7 (fun k => k = b)).trans (Kept.setCell w7 ⟨b, 2, none⟩ _) (fun _ _ e => e)
      clear ho7 hk7 hm7 ho6 hk6 hm6 hB6 d6 d7 f7 ho7'
      go_wp2
      go_meet
      refine ⟨_, q.1.mono (fun k hk => ?_) (fun k hk => ?_), q2⟩
      · rcases hk with hk | hk
        · exact Or.inl hk
        · exact Or.inr (by simpa using hk)
      · rcases hk with hk | hk
        · have := q.2.size
          have := NT.lt h3 k hk
          omega
        · exact hk.2
  case rest =>
    obtain ⟨rv', hq, hkq⟩ := hcut
    obtain ⟨w8, hw8⟩ : ∃ x, x = wc := ⟨_, rfl⟩
    subst hw8
    have hFg : ∀ k, F k → k < gr := fun k hk => by rw [← hH]; exact h.lt k hk
    have hx4 := (hkq.block gd hs3 n4).trans hx3
    have hy4 := (hkq.block gr (by omega) n5).trans hy3
    have e0 := cell_of_row w8 _ 0 _ _ _ hx4
    have e1 := cell_of_row w8 _ 1 _ _ _ hx4
    have e2 := cell_of_row w8 _ 2 _ _ _ hx4
    have d0 := cell_of_row w8 _ 0 _ _ _ hy4
    have d1 := cell_of_row w8 _ 1 _ _ _ hy4
    have d2 := cell_of_row w8 _ 2 _ _ _ hy4
    have f0 := frozen_of_row w8 _ 0 _ _ hy4
    have f1 := frozen_of_row w8 _ 1 _ _ hy4
    have f2 := frozen_of_row w8 _ 2 _ _ hy4
    simp at e0 e1 e2 d0 d1 d2
    clear hr1 hr2 hE hEn hCell hJ2 hJN hJc hkc hJw hJ3 hAe c1
    go_wp2
    have hk5 := kept3 w8 gr (.int .i64 frm) (.int .i64 tt) (.slice vo l.length vc)
    refine bodyPost_ret (v := .tuple #[dgV ⟨frm, tt, l⟩ (.slice vo l.length vc), .bool true]) (by simp [results, Try.results15, go_sem, *]) rfl ⟨rv', rfl, ?_, ?_⟩
    · have hz := hB3.size
      refine (NT.keep hq hk5 (fun k hk e => ?_)).mono (fun k hk => ?_) (fun k hk => ?_)
      · have e' : k = gr := e
        rcases hk with hk | hk
        · have := hFg k hk; omega
        · omega
      · rcases hk with hk | hk
        · exact Or.inl hk
        · exact Or.inr ⟨by rw [hH]; omega, by simpa using hk.2⟩
      · rcases hk with hk | hk
        · have := hFg k hk
          have := hkq.size
          simp; omega
        · exact hk.2
    · exact ((kept_of_below (hH ▸ hB3) (fun k => k = b)).trans hkq (fun _ _ e => e)).trans hk5 (fun i hi e => by have e' : i = gr := e; omega)

end Go.Proofs.Ytibgpbflchfbnaa
