/- All. -/
import Derived.Test.YtibgpbflchfbnaaNtF
namespace Go.Proofs.Ytibgpbflchfbnaa
open Go.RowKit

/-- 'make([]T, n)' of elements of s cells: a new block of so many cells. -/
theorem wpList_make_wide {P : Program} (w : World) {ops : Array Oper} {rest : List Oper} {o : Oper} {a : Act} {Q : Exit → Act → World → Prop}
    (hg : o.guard = none) (l c : Operand) (t : TypeId) (hop : o.op = Op.makeSlice t l c)
    (e : TypeId) (i : TypeInfo) (z : Value) (s : Nat) (h1 : P.underlying t = some (.slice e)) (h2 : P.info? e = some i) (h3 : i.zero = some z) (h4 : i.size = s)
    (kl kc : IntKind) (L C : Int) (n : Nat) (hl : a.eval l = .int kl L) (hc : a.eval c = .int kc C) (hL : L = (n : Int)) (hC : C = (n : Int)) (b2 : i.bytes * n ≤ 281474976710656) (b3 : n ≤ maxLen)
    (hK : ∀ w' zs, w'.heap[w.heap.size]? = some (.cells zs e (0, 0)) → zs.size = n * s → Below w.heap.size w w' → w.heap.size < w'.heap.size → wpList P ops Q rest (a.put o.dst (.slice (some ⟨w.heap.size, 0, none⟩) n n)) w') :
    wpList P ops Q (o :: rest) a w := by
  refine wpList_plain hg fun K hK' => ?_
  subst hL
  subst hC
  have b3' := b3
  have hb' : (i.bytes : Int) * (n : Int) ≤ 281474976710656 := by
    have h : ((i.bytes * n : Nat) : Int) ≤ 281474976710656 := by omega
    rwa [Int.natCast_mul] at h
  simp only [maxLen] at b3'
  have hrun := run_make (P := P) w t e i z h1 h2 h3 kl kc n n (by omega) (Int.le_refl _) hb' (by omega)
  unfold Oper.wp
  simp [execOp, hop, hl, hc, hrun, Result.andThen]
  exact hK' _ _ (hK _ _ (heap_alloc_new w _) (by rw [size_madeCells, h4]) ((Below.refl _ _).alloc (Nat.le_refl _) _) (by simp))

/-- A slice of the datagrams ds, all of it in memory made since h blocks were there. -/
structure DgNew (h : Nat) (w : World) (v : Value) (rs : List (Dg × Value)) (g : Nat) : Prop where
  val : v = .slice (some ⟨g, 0, none⟩) rs.length rs.length
  ge : h ≤ g
  blk : w.heap[g]? = some (.cells (rs.flatMap dgCells).toArray 30 (0, 0))
  bs : ∀ r ∈ rs, ∃ k, h ≤ k ∧ k ≠ g ∧ r.2 = .slice (some ⟨k, 0, none⟩) r.1.b.length r.1.b.length ∧ w.heap[k]? = some (.cells (r.1.b.map bv).toArray 5 (0, 0))

theorem splice_at {α : Type} (A zs : List α) (o : Nat) (vs : List α) (ho : o = A.length) : splice (A ++ zs) o vs = A ++ vs ++ zs.drop vs.length := by
  subst ho
  unfold splice
  simp [List.drop_append]

theorem setCells_three (w : World) (b o : Nat) (x y z : Value) : ((w.setCell ⟨b, o, none⟩ x).setCell ⟨b, o + 1, none⟩ y).setCell ⟨b, o + 2, none⟩ z = w.setCells b o [x, y, z] := rfl

theorem three_at {w : World} {g o : Nat} {A ys : List Value} {T : TypeId} (h : w.heap[g]? = some (.cells (A ++ ys).toArray T (0, 0))) (ho : A.length = o) (hy : 3 ≤ ys.length) : ∃ x0 x1 x2, w.cell? ⟨g, o, none⟩ = some x0 ∧ w.cell? ⟨g, o + 1, none⟩ = some x1 ∧ w.cell? ⟨g, o + 2, none⟩ = some x2 := by
  subst ho
  have hc : ∀ j (hj : j < ys.length), w.cell? ⟨g, A.length + j, none⟩ = some ys[j] := by
    intro j hj
    rw [cell_of_row w g _ _ _ _ h]
    simp [hj]
  exact ⟨_, _, _, hc 0 (by omega), hc 1 (by omega), hc 2 (by omega)⟩

set_option maxRecDepth 20000 in
set_option maxHeartbeats 2000000 in
theorem nall_any (b most lost : Nat) (rv : Value) (rs : List (Dg × Value)) (F : Nat → Prop) (w : World) (h : Net w b most lost rv rs F) (hn : rs.length ≤ 256) (hl : ∀ r ∈ rs, r.1.b.length ≤ 140737488355328) :
    Calls Try.prog 13 #[.pointer (some ⟨b, 0, none⟩)] w fun e w' => ∃ v g rs', e = .returned v ∧ rs'.map Prod.fst = rs.map Prod.fst ∧ DgNew w.heap.size w' v rs' g ∧ Below w.heap.size w w' := by
  obtain ⟨i, hi, hz0, hz1, hz2⟩ := info_parts Try.infoDg
  obtain ⟨ro, rc, hrv⟩ := NT.form h
  subst hrv
  have c1 := h.c1
  have hsz := NT.size h
  go_enter Try.func13, Try.ntmps13
  go_wp2_with (at_make; refine wpList_make_wide _ rfl _ _ 34 rfl 30 i _ 3 Try.underlying34 hi hz0 hz1 _ _ _ _ rs.length rfl rfl rfl rfl (by rw [hz2]; omega) (by unfold maxLen; omega) ?_; intro w1 zs hg1 hzs hb1 hlt1; have d1 := (h.below hb1).c1)
  have h1 := h.below hb1
  generalize hG : w.heap.size = g at *
  go_loopw [17] (fun i wr => ∃ (k : Nat) (rs' : List (Dg × Value)) (ys : List Value), k ≤ rs.length ∧ i = .int .i64 (k : Int) ∧ rs'.map Prod.fst = (rs.map Prod.fst).take k ∧ ys.length = (rs.length - k) * 3 ∧ wr.heap[g]? = some (.cells (rs'.flatMap dgCells ++ ys).toArray 30 (0, 0)) ∧
    (∀ r ∈ rs', ∃ k, g ≤ k ∧ k ≠ g ∧ r.2 = .slice (some ⟨k, 0, none⟩) r.1.b.length r.1.b.length ∧ wr.heap[k]? = some (.cells (r.1.b.map bv).toArray 5 (0, 0))) ∧ Below g w wr ∧ w1.heap.size ≤ wr.heap.size) (fun i _ => rs.length - (intOf i).toNat)
  case atStart => exact ⟨0, [], zs.toList, Nat.zero_le _, rfl, by simp, by simpa using hzs, by simpa using hg1, by simp, hb1, Nat.le_refl _⟩
  case round =>
    obtain ⟨k, rs', ys, hk, rfl, hmap, hys, hgr, hbs, hbr, hsr⟩ := hrel
    by_cases hlt : k < rs.length
    · have hwr : Below w.heap.size w wr := hG ▸ hbr
      have hr := h.below hwr
      obtain ⟨g0, cap0, hve, hc1, hc2, hg0, hgb, p0, p1, p2⟩ := NT.at hr k hlt
      have hbk := NT.bs hr rs[k] (List.getElem_mem hlt)
      have hlk := hl rs[k] (List.getElem_mem hlt)
      have hg0w : g0 < g := by rw [← hG]; exact h.lt g0 (h.fr g0 (by rw [hve]; rfl)).1
      cases hve
      have hmap' : (rs.map Prod.fst).take (k + 1) = (rs.map Prod.fst).take k ++ [rs[k].1] := by
        rw [List.take_succ_eq_append_getElem (by simpa using hlt)]; simp
      have HM : Hid ((rs.map Prod.fst).take (k + 1) = (rs.map Prod.fst).take k ++ [rs[k].1]) := hmap'
      clear hmap' hl h1
      generalize rs[k] = r at *
      obtain ⟨⟨frm, to, l⟩, v⟩ := r
      simp only at *
      obtain ⟨ao, vc, rfl⟩ := hbk.slice
      have hA : Below wr.heap.size wr (wr.alloc (.cells #[.int .i64 frm, .int .i64 to, .slice ao l.length vc] 30)) := (Below.refl _ _).alloc (Nat.le_refl _) _
      have hlen' : (rs'.flatMap dgCells).length = k * 3 := by
        rw [length_flat3 dgCells (fun _ => rfl)]
        have := congrArg List.length hmap
        simp at this
        omega
      have HL : Hid ((rs'.flatMap dgCells).length = k * 3) := hlen'
      have HMP : Hid (rs'.map Prod.fst = (rs.map Prod.fst).take k) := hmap
      have HY : Hid (ys.length = (rs.length - k) * 3) := hys
      have hk0 : (k : Int) < (rs.length : Int) := by omega
      clear hlen' hmap hys
      go_wp2_with (go_at_call 26; refine (nfresh_any ⟨frm, to, l⟩ _ _ (hbk.below hA) hlk).mono ?_; rintro e w2 ⟨v2, rfl, hv2, hb2⟩; obtain ⟨gn, hgn, hve, hgn2⟩ := hv2; subst hve; (simp only [World.size_alloc] at hgn); have hs2 : wr.heap.size < w2.heap.size := by { have := hb2.size; simp at this; omega }; have hg2 := (hb2.block g (by simp; omega)).trans ((hA.block g (by omega)).trans hgr); obtain ⟨x0, x1, x2, q0, q1, q2⟩ := three_at hg2 HL.out (by have := HY.out; omega); have f0 := frozen_of_row w2 g (k * 3) _ _ hg2; have f1 := frozen_of_row w2 g (k * 3 + 1) _ _ hg2; have f2 := frozen_of_row w2 g (k * 3 + 2) _ _ hg2)
      rw [setCells_three]
      obtain ⟨hb4, hk4⟩ := setCells_block g [.int .i64 frm, .int .i64 to, .slice (some ⟨gn, 0, none⟩) l.length l.length] (k * 3) w2 _ 30 hg2 (by have := HL.out; have := HY.out; rw [List.size_toArray, List.length_append]; simp only [List.length_cons, List.length_nil]; omega)
      rw [splice_at _ _ _ _ HL.out.symm] at hb4
      generalize w2.setCells g (k * 3) [.int .i64 frm, .int .i64 to, .slice (some ⟨gn, 0, none⟩) l.length l.length] = w4 at *
      have hB2 : Below wr.heap.size wr w2 := hA.trans (hb2.mono (by simp))
      go_roundw
      case rel =>
        refine ⟨k + 1, rs' ++ [(⟨frm, to, l⟩, .slice (some ⟨gn, 0, none⟩) l.length l.length)], ys.drop 3, by omega, by go_num, by rw [List.map_append, HMP.out, HM.out]; rfl, by rw [List.length_drop, HY.out]; omega, by rw [hb4, flat_snoc3]; rfl, ?_, ?_, ?_⟩
        · intro r hr
          rcases List.mem_append.1 hr with h5 | h5
          · obtain ⟨kk, hk1, hk2, hk3, hk5⟩ := hbs r h5
            have hlt5 : kk < wr.heap.size := (Array.getElem?_eq_some_iff.1 hk5).1
            exact ⟨kk, hk1, hk2, hk3, (hk4.block kk (by have := hB2.size; omega) hk2).trans ((hB2.block kk hlt5).trans hk5)⟩
          · rw [List.mem_singleton.1 h5]
            exact ⟨gn, by omega, by omega, rfl, (hk4.block gn (Array.getElem?_eq_some_iff.1 hgn2).1 (by omega)).trans hgn2⟩
        · exact hbr.trans ((hB2.mono (by omega)).trans (hk4.below (by have := hB2.size; omega) (fun i hi e => by have e' : i = g := e; omega)))
        · have := hB2.size
          have := hk4.size
          omega
      case measure => simp [intOf]; omega
    · go_wp2
      go_ret
      have e : k = rs.length := by omega
      subst e
      have hl2 : rs'.length = rs.length := by
        have := congrArg List.length hmap
        simp at this
        omega
      have hy0 : ys = [] := List.eq_nil_of_length_eq_zero (by rw [hys]; omega)
      subst hy0
      refine ⟨_, g, rs', rfl, by rw [hmap, List.take_of_length_le (by simp)], ⟨by rw [hl2]; rfl, by rw [hG]; exact Nat.le_refl _, by simpa using hgr, by rw [hG]; exact hbs⟩, hG ▸ hbr⟩

end Go.Proofs.Ytibgpbflchfbnaa
