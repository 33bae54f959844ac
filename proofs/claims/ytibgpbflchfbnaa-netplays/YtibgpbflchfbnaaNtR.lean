/- The plain net: Send, Peek. -/
import Derived.Test.YtibgpbflchfbnaaNtCp
import Derived.Deep.RegionLaw
namespace Go.Proofs.Ytibgpbflchfbnaa
open Go.RowKit

/-- The plain net. -/
@[reducible] def refC (most lost : Nat) (rv : Value) : Array Value := #[.int .i64 (most : Int), .int .i64 (lost : Int), rv]
def RNet (w : World) (b most lost : Nat) (rv : Value) (rs : List (Dg × Value)) (F : Nat → Prop) : Prop := NT w b 39 (refC most lost rv) rv rs F

section
variable {w w' : World} {b most lost : Nat} {rv : Value} {rs : List (Dg × Value)} {F S : Nat → Prop}
theorem RNet.c0 (h : RNet w b most lost rv rs F) : w.cell? ⟨b, 0, none⟩ = some (.int .i64 (most : Int)) := NT.cell h 0
theorem RNet.c1 (h : RNet w b most lost rv rs F) : w.cell? ⟨b, 1, none⟩ = some (.int .i64 (lost : Int)) := NT.cell h 1
theorem RNet.c2 (h : RNet w b most lost rv rs F) : w.cell? ⟨b, 2, none⟩ = some rv := NT.cell h 2
theorem RNet.keep (h : RNet w b most lost rv rs F) (hk : Kept w w' S) (hs : ∀ k, F k → ¬ S k) : RNet w' b most lost rv rs F := NT.keep h hk hs
theorem RNet.below (h : RNet w b most lost rv rs F) (hb : Below w.heap.size w w') : RNet w' b most lost rv rs F := NT.below h hb
end

theorem ref_lost {w w1 : World} {b most lost : Nat} {rv : Value} {rs : List (Dg × Value)} {F : Nat → Prop} (h1 : RNet w1 b most lost rv rs F) (hb : Below w.heap.size w w1) : RNet (w1.setCell ⟨b, 1, none⟩ (.int .i64 ((lost : Int) + 1))) b most (lost + 1) rv rs F ∧ Kept w (w1.setCell ⟨b, 1, none⟩ (.int .i64 ((lost : Int) + 1))) F := by
  have q := NT.set h1 1 (.int .i64 ((lost : Int) + 1))
  refine ⟨?_, (kept_of_below hb F).trans q.2 (fun i _ e => by have e' : i = b := e; rw [e']; exact h1.fb)⟩
  have e : (refC most lost rv).setIfInBounds 1 (.int .i64 ((lost : Int) + 1)) = refC most (lost + 1) rv := by simp [refC]
  unfold RNet
  rw [← e]
  exact q.1

theorem ref_push {w w3 w4 : World} {b most lost : Nat} {rv v2 : Value} {rs : List (Dg × Value)} {F : Nat → Prop} {d : Dg} {g cap : Nat} (hold : ∀ k, F k → k < w.heap.size) (hb : Below w.heap.size w w3) (h3 : RNet w3 b most lost rv rs F) (hv2 : Bs w3 v2 d.b) (ho2 : ∀ k, v2.ownBlock = some k → w.heap.size ≤ k ∧ k < w3.heap.size)
    (ho4 : w4.ownsRow 0 30 3 (.slice (some ⟨g, 0, none⟩) (rs.length + 1) cap) (rs.length + 1) (rs.flatMap dgCells ++ dgCells (d, v2))) (hk4 : w3.grownBy w4 rv.ownBlock) (hat : rv.ownBlock = some g ∨ g = w3.heap.size) :
    RNet (w4.setCell ⟨b, 2, none⟩ (.slice (some ⟨g, 0, none⟩) (rs.length + 1) cap)) b most lost (.slice (some ⟨g, 0, none⟩) (rs.length + 1) cap) (rs ++ [(d, v2)]) (grownF w (w4.setCell ⟨b, 2, none⟩ (.slice (some ⟨g, 0, none⟩) (rs.length + 1) cap)) F) ∧ Kept w (w4.setCell ⟨b, 2, none⟩ (.slice (some ⟨g, 0, none⟩) (rs.length + 1) cap)) F :=
  nt_push (j := 2) hold hb h3 hv2 ho2 ho4 hk4 hat

set_option maxRecDepth 20000 in
set_option maxHeartbeats 1000000 in
theorem rsend_lost (b most lost : Nat) (rv : Value) (rs : List (Dg × Value)) (F : Nat → Prop) (d : Dg) (v : Value) (w : World) (h : RNet w b most lost rv rs F) (hv : Bs w v d.b) (hlost : lost ≤ 4611686018427387904) (hf : most ≤ rs.length ∨ 1024 < d.b.length) :
    Calls Try.prog 21 #[.pointer (some ⟨b, 0, none⟩), dgV d v] w fun e w' => e = .returned (.bool false) ∧ RNet w' b most (lost + 1) rv rs F ∧ Kept w w' F := by
  obtain ⟨ao, cap, rfl⟩ := hv.slice
  obtain ⟨ro, rc, hrv⟩ := NT.form h
  subst hrv
  have hsz := NT.size h
  have hW : RNet (w.alloc (.cells #[.int .i64 d.frm, .int .i64 d.to, .slice ao d.b.length cap] 30)) b most lost (.slice ro rs.length rc) rs F := h.below ((Below.refl _ _).alloc (Nat.le_refl _) _)
  have hX := heap_alloc_new w (.cells #[.int .i64 d.frm, .int .i64 d.to, .slice ao d.b.length cap] 30)
  have hB : Below w.heap.size w (w.alloc (.cells #[.int .i64 d.frm, .int .i64 d.to, .slice ao d.b.length cap] 30)) := (Below.refl _ _).alloc (Nat.le_refl _) _
  go_enter Try.func21, Try.ntmps21
  go_wp2_with fail
  generalize w.alloc (.cells #[.int .i64 d.frm, .int .i64 d.to, .slice ao d.b.length cap] 30) = w0 at *
  have c0 := hW.c0
  have c1 := hW.c1
  have c2 := hW.c2
  have f1 := NT.free hW 1
  have a2 := cell_of_row w0 _ 2 _ _ _ hX
  simp at a2
  by_cases hfull : most ≤ rs.length
  · have hd : decide (most ≤ rs.length) = true := by simp [hfull]
    go_quiet (fail)
    go_wp2
    go_ret
    exact ⟨rfl, ref_lost (hW.below (below_drewN0 _ _)) (hB.trans ((below_drewN0 _ _).mono hB.size))⟩
  · have hd : decide (most ≤ rs.length) = false := by simp [hfull]
    have hlen : decide (1024 < (d.b.length : Int)) = true := by simp; omega
    go_quiet (fail)
    go_wp2
    go_ret
    exact ⟨rfl, ref_lost (hW.below (below_drewN0 _ _)) (hB.trans ((below_drewN0 _ _).mono hB.size))⟩

set_option maxRecDepth 20000 in
set_option maxHeartbeats 2000000 in
theorem rsend_ok (b most lost : Nat) (rv : Value) (rs : List (Dg × Value)) (F : Nat → Prop) (d : Dg) (v : Value) (w : World) (h : RNet w b most lost rv rs F) (hv : Bs w v d.b) (hm : most ≤ 256) (hn : rs.length < most) (hl : d.b.length ≤ 1024) :
    Calls Try.prog 21 #[.pointer (some ⟨b, 0, none⟩), dgV d v] w fun e w' => e = .returned (.bool true) ∧ (∃ rv' v', RNet w' b most lost rv' (rs ++ [(d, v')]) (grownF w w' F)) ∧ Kept w w' F := by
  obtain ⟨ao, cap, rfl⟩ := hv.slice
  obtain ⟨ro, rc, hrv⟩ := NT.form h
  subst hrv
  obtain ⟨i, hi, hz0, hz1, hz2⟩ := info_parts Try.infoDg
  have hsz := NT.size h
  have hB : Below w.heap.size w (w.alloc (.cells #[.int .i64 d.frm, .int .i64 d.to, .slice ao d.b.length cap] 30)) := (Below.refl _ _).alloc (Nat.le_refl _) _
  have hX := heap_alloc_new w (.cells #[.int .i64 d.frm, .int .i64 d.to, .slice ao d.b.length cap] 30)
  have hd : decide (most ≤ rs.length) = false := by simp; omega
  have hlen : decide (1024 < (d.b.length : Int)) = false := by simp; omega
  go_enter Try.func21, Try.ntmps21
  go_wp2_with fail
  generalize w.alloc (.cells #[.int .i64 d.frm, .int .i64 d.to, .slice ao d.b.length cap] 30) = w0 at *
  have hW := h.below hB
  have c0 := hW.c0
  have c2 := hW.c2
  have a2 := cell_of_row w0 _ 2 _ _ _ hX
  simp at a2
  go_quiet (fail)
  clear c0 c2 a2
  go_wp2_with fail
  have hD0 : Below w.heap.size w (w0.drewN nq) := hB.trans ((below_drewN0 w0 nq).mono hB.size)
  have hXn : (w0.drewN nq).heap[w.heap.size]? = some (.cells #[.int .i64 d.frm, .int .i64 d.to, .slice ao d.b.length cap] 30 (0, 0)) := hX
  generalize w0.drewN nq = w1 at *
  have h1 := h.below hD0
  have c1 := h1.c2
  have hDd := hD0.drew
  have h1d := h.below hDd
  have a0 := cell_of_row w1 _ 0 _ _ _ hXn
  have a1 := cell_of_row w1 _ 1 _ _ _ hXn
  have a2 := cell_of_row w1 _ 2 _ _ _ hXn
  simp at a0 a1 a2
  clear hX hXn hB hW
  go_region_law (first
    | (refine step_append_lies _ rfl (.tmp 32) (.tmp 35) 34 rfl 0 30 i _ 3 40 Try.underlying34 hi hz0 hz1 hz2 rfl (by omega) (.slice ro rs.length rc) rs.length (rs.flatMap dgCells) rfl h3.own ⟨w2.heap.size, 0, none⟩ 1 1 (dgCells (d, .slice yo yn yc)) rfl rfl (cell_three_new _ _ _ _ _) (dgCells_one (Bs.ofOwns ho2)) (by omega) (by unfold maxLen; omega) (by omega) (Nat.zero_le _) _ rfl ?_; intro g cap4 w4 ho4 hk4 hat4 hlt4; have hx4 := ((Kept.grown hk4).block b (NT.size h3) (fun e => (h3.fr b e).2 rfl)).trans h3.box; have e4 := cell_of_row w4 b 2 _ _ _ hx4; have f4 := frozen_of_row w4 b 2 _ _ hx4; simp at e4)
    | (go_simp; go_wp2_with (go_at_call 20; refine (rcopy_any d _ _ (hv.below hDd) (by omega)).mono ?_; rintro e w2 ⟨v2, rfl, ho2, hb2⟩; obtain ⟨yo, yn, yc, hye⟩ := own_form3 ho2; subst hye; have h2 := h1d.below hb2; have h3 : RNet (w2.alloc (.cells #[.int .i64 d.frm, .int .i64 d.to, .slice yo yn yc] 30)) b most lost (.slice ro rs.length rc) rs F := h2.below ((Below.refl _ _).alloc (Nat.le_refl _) _); have e1 := h2.c2; have e3 := h3.c2)))
  all_goals
    go_wp2
    go_ret
    have q := ref_push h.lt (hDd.trans ((hb2.alloc hb2.size _).mono hDd.size)) h3 ((Bs.ofOwns ho2).below ((Below.refl _ _).alloc (Nat.le_refl _) _)) (fun k hk => by have := own_base3 ho2 k hk; have := own_lt3 ho2 k hk; have := hDd.size; simp; omega) ho4 hk4 hat4
    exact ⟨rfl, ⟨_, _, q.1⟩, q.2⟩

set_option maxRecDepth 20000 in
set_option maxHeartbeats 1000000 in
theorem rpeek_no (b most lost : Nat) (rv : Value) (rs : List (Dg × Value)) (F : Nat → Prop) (k : Int) (w : World) (h : RNet w b most lost rv rs F) (hk : hasB rs.length k = false) :
    Calls Try.prog 19 #[.pointer (some ⟨b, 0, none⟩), .int .i64 k] w fun e w' => e = .returned (.tuple #[dgV ⟨0, 0, []⟩ (.slice none 0 0), .bool false]) ∧ Below w.heap.size w w' := by
  obtain ⟨ro, rc, hrv⟩ := NT.form h
  subst hrv
  have hA : Below w.heap.size w (w.alloc (.cells #[.int .i64 0, .int .i64 0, .slice none 0 0] 30)) := (Below.refl _ _).alloc (Nat.le_refl _) _
  have c2 := (h.below hA).c2
  have hk' := of_decide_eq_false hk
  by_cases h0 : k < 0
  · go_enter Try.func19, Try.ntmps19
    go_wp2
    refine bodyPost_ret (v := .tuple #[dgV ⟨0, 0, []⟩ (.slice none 0 0), .bool false]) (by simp [results, Try.results19, go_sem, *]) rfl ⟨rfl, ?_⟩
    exact hA
  · have h1 : (rs.length : Int) ≤ k := by omega
    clear hk hk'
    go_enter Try.func19, Try.ntmps19
    go_wp2
    refine bodyPost_ret (v := .tuple #[dgV ⟨0, 0, []⟩ (.slice none 0 0), .bool false]) (by simp [results, Try.results19, go_sem, *]) rfl ⟨rfl, ?_⟩
    exact hA

set_option maxRecDepth 20000 in
set_option maxHeartbeats 1000000 in
theorem rpeek_ok (b most lost : Nat) (rv : Value) (rs : List (Dg × Value)) (F : Nat → Prop) (k : Nat) (w : World) (h : RNet w b most lost rv rs F) (hk : k < rs.length) :
    Calls Try.prog 19 #[.pointer (some ⟨b, 0, none⟩), .int .i64 (k : Int)] w fun e w' => e = .returned (.tuple #[dgV rs[k].1 rs[k].2, .bool true]) ∧ Below w.heap.size w w' := by
  have hA : Below w.heap.size w (w.alloc (.cells #[.int .i64 0, .int .i64 0, .slice none 0 0] 30)) := (Below.refl _ _).alloc (Nat.le_refl _) _
  have h1 := h.below hA
  have c1 := h1.c2
  obtain ⟨g, cap, rfl, hc1, hc2, hg, hgb, p0, p1, p2⟩ := NT.at h1 k hk
  have hbs := NT.bs h rs[k] (List.getElem_mem hk)
  have hgw : g < w.heap.size := h.lt g (h.fr g rfl).1
  generalize rs[k] = r at *
  obtain ⟨⟨frm, tt, l⟩, v⟩ := r
  simp only at *
  obtain ⟨ao, vc, rfl⟩ := hbs.slice
  have hk1 : (k : Int) < (rs.length : Int) := by omega
  have hk2 : ¬ (rs.length : Int) ≤ (k : Int) := by omega
  have hne : ¬ g = w.heap.size := by omega
  have hx2 := heap_alloc_new w (.cells #[.int .i64 0, .int .i64 0, .slice none 0 0] 30)
  go_enter Try.func19, Try.ntmps19
  go_wp2
  refine bodyPost_ret (v := .tuple #[dgV ⟨frm, tt, l⟩ (.slice ao l.length vc), .bool true]) (by simp [results, Try.results19, go_sem, *]) rfl ⟨rfl, ?_⟩
  exact (Below.refl _ _).alloc (Nat.le_refl _) _

end Go.Proofs.Ytibgpbflchfbnaa
