import Derived.Test.YtlabdbfmfejkaaaGreatDoorReNP
import Derived.Test.YtlabdbfmfejkaaaGreatDoorPaMP
import Derived.Test.YtlabdbfmfejkaaaGreatDoorReIP
import Derived.BigQuiet
import Derived.Test.YtlabdbfmfejkaaaGreatDoorPaTP
/- The references of the object that waits last are gone through. -/
/- A reacher's step. -/
/- A reacher begins; a new one. -/
/- A reacher beside whatever holds its heap and its paint. -/
/- The law's own example; ReachKnown. -/
namespace Go.Proofs.YtlabdbfmfejkaaaGreatDoor
open Go.RowKit

theorem look_step (h : HSt) (p : PSt) (t : Int) (u : Und) (l : List (Int × Nat)) (i : Nat) (hi : i < l.length) : u.all h p t (l.take (i + 1)) = (u.all h p t (l.take i)).look h p t l[i] := by
  unfold Und.all
  rw [List.take_succ_eq_append_getElem hi, List.foldl_append]
  rfl
section
variable {w0 w w' : World} {B xb hb pb : Nat} {L : Nat → Nat} {r : RSt} {u : Und} {h : HSt} {p : PSt} {X : Nat → Prop}
set_option maxRecDepth 20000 in
set_option maxHeartbeats 1000000 in
theorem follow_none (x : RcN w B xb hb pb L r) (hu : r.und = none) :
    Calls Tryz.prog 32 #[.pointer (some ⟨xb, 0, none⟩)] w fun e w' => e = .returned (.bool false) ∧ w = w' := by
  obtain ⟨uv, ev, es, x⟩ := x
  have c4 := x.c4
  have hv := x.un
  rw [hu] at hv
  have hv' : uv = .pointer none := hv
  rw [hv'] at c4
  clear x hu hv hv'
  go_enter Tryz.func32, Tryz.ntmps32
  go_wp2
  go_ret
  exact ⟨rfl, rfl⟩
set_option maxRecDepth 20000 in
set_option maxHeartbeats 1000000 in
theorem follow_empty (x : RcN w B xb hb pb L r) (hu : r.und = some u) (hw : u.waits = []) :
    Calls Tryz.prog 32 #[.pointer (some ⟨xb, 0, none⟩)] w fun e w' => e = .returned (.bool false) ∧ w = w' := by
  obtain ⟨uv, ev, es, x⟩ := x
  have c4 := x.c4
  have hv := x.un
  rw [hu] at hv
  obtain ⟨ub, rfl, mv, wv, mb, ov, tv, y⟩ := hv
  have d2 := y.c2
  obtain ⟨ao, cap, htv, _⟩ := own_slice y.ow
  rw [htv, hw] at d2
  simp only [List.length_nil] at d2
  clear x hu y htv hw
  go_enter Tryz.func32, Tryz.ntmps32
  go_wp2
  go_ret
  exact ⟨rfl, rfl⟩
/-- The loop's state. -/
structure FwI (wc wr : World) (B xb hb pb : Nat) (L : Nat → Nat) (r : RSt) (ui : Und) (N : Nat) : Prop where
  ex : ∃ Li, RcN wr B xb hb pb Li { r with und := some ui } ∧ ∀ k, Li k < 9 → L k < 9 ∨ wc.heap.size ≤ k
  kept : Kept wc wr (fun k => L k < 9)
  ub : UB ui N
theorem FwI.go {wc wr wn : World} {un : Und} {M : Nat} {Li : Nat → Nat} (a : ∀ k, Li k < 9 → L k < 9 ∨ wc.heap.size ≤ k) (hk : Kept wc wr (fun k => L k < 9)) (g : RcGo wr wn B xb hb pb Li { r with und := some un }) (hu : UB un M) : FwI wc wn B xb hb pb L r un M := by
  have hg := RcGo.then a hk g
  obtain ⟨L2, x2, a2⟩ := hg.ex
  exact ⟨⟨L2, x2, a2⟩, hg.kept, hu⟩
/-- New blocks stay, too. -/
theorem PH.fresh (x : PH w0 B w pb hb h p X) {S : Nat → Prop} (hk : Kept w w' S) (hS : ∀ k, S k → k < w.heap.size → X k ∧ B ≤ k) : PH w0 B w' pb hb h p (fun k => X k ∨ (w.heap.size ≤ k ∧ k < w'.heap.size)) := by
  have hk' : Kept w w' (fun k => X k ∧ B ≤ k) := hk.mono (fun k hl e => hS k e hl)
  have hs := hk.size
  obtain ⟨F, G, hp, hn, hF, hG⟩ := (x.other hk' (fun k e => e)).ex
  obtain ⟨F0, G0, hp0, hn0, hF0, hG0⟩ := x.ex
  have l1 := hp0.lt
  have l2 := hn0.lt
  have hpos := x.pos
  refine ⟨⟨F0, G0, hp0.kept hk' (fun e => by have := e.2; omega) (fun k a b => (hF0 k a).2.1 b.1), hn0.kept hk' (fun k a b => hG0 k a b.1), fun k a => ⟨(hF0 k a).1, fun e => ?_, (hF0 k a).2.2⟩, fun k a e => ?_⟩, x.bel.trans (hk'.below x.le (fun i hi e => by have := e.2; omega)), Nat.le_trans x.le hs, fun k e => ?_, x.pos⟩
  · rcases e with e | e
    · exact (hF0 k a).2.1 e
    · have := l1 k a; omega
  · rcases e with e | e
    · exact hG0 k a e
    · have := l2 k a; omega
  · rcases e with e | e
    · have := x.xs k e; omega
    · exact e.2
theorem kept_five (w : World) (b : Nat) (v0 v1 v2 v3 v4 : Value) : Kept w (((((w.setCell ⟨b, 0, none⟩ v0).setCell ⟨b, 1, none⟩ v1).setCell ⟨b, 2, none⟩ v2).setCell ⟨b, 3, none⟩ v3).setCell ⟨b, 4, none⟩ v4) (fun k => k = b) :=
  ((((Kept.setCell w ⟨b, 0, none⟩ v0).trans (Kept.setCell _ ⟨b, 1, none⟩ v1) (fun _ _ e => e)).trans (Kept.setCell _ ⟨b, 2, none⟩ v2) (fun _ _ e => e)).trans (Kept.setCell _ ⟨b, 3, none⟩ v3) (fun _ _ e => e)).trans (Kept.setCell _ ⟨b, 4, none⟩ v4) (fun _ _ e => e)
theorem row_five {b : Nat} {T : TypeId} {z0 z1 z2 z3 z4 : Value} (r : Row w b T [z0, z1, z2, z3, z4]) (v0 v1 v2 v3 v4 : Value) : Row (((((w.setCell ⟨b, 0, none⟩ v0).setCell ⟨b, 1, none⟩ v1).setCell ⟨b, 2, none⟩ v2).setCell ⟨b, 3, none⟩ v3).setCell ⟨b, 4, none⟩ v4) b T [v0, v1, v2, v3, v4] := ((((r.set 0 v0).set 1 v1).set 2 v2).set 3 v3).set 4 v4
/-- What stands behind the first two calls. -/
structure FwO (w0 w wc : World) (B xb hb pb : Nat) (L : Nat → Nat) (r : RSt) (u : Und) (h : HSt) (p : PSt) (X : Nat → Prop) (ao : Option Addr) (rf : List (Int × Nat)) : Prop where
  ex : ∃ Lt, RcN wc B xb hb pb Lt { r with und := some u.cut } ∧ (∀ k, Lt k < 9 → L k < 9 ∨ w.heap.size ≤ k) ∧ ∀ i (hi : i < rf.length), ∃ g, ao = some ⟨g, 0, none⟩ ∧ ¬ Lt g < 9 ∧ g < wc.heap.size ∧ wc.cell? ⟨g, i * 2, none⟩ = some (.int .i64 rf[i].1) ∧ wc.cell? ⟨g, i * 2 + 1, none⟩ = some (.int .u64 (rf[i].2 : Int))
  kept : Kept w wc (fun k => L k < 9)
  ph : PH w0 B wc pb hb h p (fun k => X k ∨ (w.heap.size ≤ k ∧ k < wc.heap.size))
theorem fwO_of {W0 wt wo wc : World} {ub ob : Nat} {ev : Value} {es : List ((Nat × List (Int × Nat)) × Value)} {ao : Option Addr} {rf : List (Int × Nat)} (x : RcX w B xb hb pb L (.pointer (some ⟨ub, 0, none⟩)) ev es r) (y : PH w0 B w pb hb h p X) (hX : ∀ k, L k < 9 → X k)
    (hB0 : Below w.heap.size w W0) (gt : UGo W0 wt B L ub u.cut) (bt : Below wt.heap.size wt wo) (ko : Kept wo wc (fun k => k = ob)) (hob : wt.heap.size ≤ ob ∨ (w.heap.size ≤ ob ∧ ob < W0.heap.size))
    (hr : ∀ i (hi : i < rf.length), ∃ g, ao = some ⟨g, 0, none⟩ ∧ wt.heap.size ≤ g ∧ g < wo.heap.size ∧ g ≠ ob ∧ wo.cell? ⟨g, i * 2, none⟩ = some (.int .i64 rf[i].1) ∧ wo.cell? ⟨g, i * 2 + 1, none⟩ = some (.int .u64 (rf[i].2 : Int))) : FwO w0 w wc B xb hb pb L r u h p X ao rf := by
  have x0 := x.below hB0
  have g2 := x0.ugo rfl gt
  have h1 := hB0.size
  have h2 := gt.kept.size
  have h3 := bt.size
  obtain ⟨Lt, xt, at'⟩ := g2.ex
  have kt : Kept w wt (fun k => L k < 9) := (kept_of_below hB0 _).trans g2.kept (fun _ _ e => e)
  have kc : Kept w wc (fun k => L k < 9) := (kt.trans (kept_of_below bt (fun _ => False)) (fun _ _ e => e.elim)).trans ko (fun k hk e => by have e' : k = ob := e; omega)
  have hno : ¬ Lt ob < 9 := fun e => by
    rcases hob with hob | hob
    · have := (xt.lo ob e).2; omega
    · rcases at' ob e with a | a
      · have := (x.lo ob a).2; omega
      · omega
  refine ⟨⟨Lt, (xt.below bt).kept ko (fun k e h => by have h' : k = ob := h; subst h'; exact hno e), fun k e => ?_, fun i hi => ?_⟩, kc, y.fresh kc (fun k e _ => ⟨hX k e, (x.lo k e).1⟩)⟩
  · rcases at' k e with a | a
    · exact Or.inl a
    · exact Or.inr (by omega)
  · obtain ⟨g, e, g1, g3, g4, g5, g6⟩ := hr i hi
    exact ⟨g, e, fun e9 => (by have := (xt.lo g e9).2; omega), Nat.lt_of_lt_of_le g3 ko.size, cell_kept g5 ko g4, cell_kept g6 ko g4⟩
set_option maxRecDepth 20000 in
set_option maxHeartbeats 4000000 in
theorem follow_some (x : RcN w B xb hb pb L r) (y : PH w0 B w pb hb h p X) (hX : ∀ k, L k < 9 → X k) (nm : ∀ e ∈ p.me, namesB e.1 = true) (hR : ∀ s, ∀ x ∈ refsC h.cs s, x.2 < 18446744073709551616) (hu : r.und = some u) (N : Nat) (hub : UB u N) (hN : N ≤ 900000) (l : List Nat) (s : Nat) (hw : u.waits = l ++ [s]) :
    Calls Tryz.prog 32 #[.pointer (some ⟨xb, 0, none⟩)] w fun e w' => e = .returned (.bool true) ∧ RcGo w w' B xb hb pb L { r with und := some (u.follow h p r.sus s) } := by
  have hxn := x
  obtain ⟨uv, ev, es, x⟩ := x
  have c0 := x.c0
  have c4 := x.c4
  have hBw := y.le
  have hv := x.un
  rw [hu] at hv
  obtain ⟨ub, rfl, mv, wv, mb, ov, tv, z⟩ := hv
  have d2 := z.c2
  obtain ⟨ao, cap, htv, _⟩ := own_slice z.ow
  have hlen : u.waits.length = l.length + 1 := by rw [hw]; simp
  rw [htv, hlen] at d2
  have hxl := x.box.lt
  have hul := z.box.lt
  have hs := hub.ws s (by rw [hw]; simp)
  have hll : l.length ≤ 1000000 := by have := hub.wl; omega
  have hTk := fun W (hB : Below w.heap.size w W) => take_any' (z.below hB) l s hw hll
  have HD0 : Hid (Below w.heap.size w w.drew) := below_drew0 w
  have HD1 : Hid (Below w.heap.size w (w.alloc (.cells #[.int .u64 0, .int .i64 0, .slice none 0 0, .slice none 0 0, .int .i64 0] 89)).drew) := (bel_alloc w _).trans ((below_drew0 _).mono (by simp))
  have HOb : Hid (∀ W0 wt, Below w.heap.size w W0 → UGo W0 wt B L ub u.cut → wt.cell? ⟨xb, 0, none⟩ = some (.pointer (some ⟨hb, 0, none⟩)) ∧ xb < wt.heap.size ∧ PH w0 B wt pb hb h p X) := fun W0 wt hB0 g => by
    have g2 := (x.below hB0).ugo rfl g
    obtain ⟨Lt, xt, at'⟩ := g2.ex
    have kt : Kept w wt (fun k => L k < 9) := (kept_of_below hB0 _).trans g2.kept (fun _ _ e => e)
    obtain ⟨uvt, evt, est, xt2⟩ := xt
    exact ⟨xt2.c0, xt2.box.lt, y.rc hxn hX kt⟩
  have HZ : Hid (∀ wt, UGo (w.alloc (.cells #[.int .u64 0, .int .i64 0, .slice none 0 0, .slice none 0 0, .int .i64 0] 89)).drew wt B L ub u.cut → Row wt w.heap.size 89 [.int .u64 0, .int .i64 0, .slice none 0 0, .slice none 0 0, .int .i64 0]) := fun wt g => by
    have r0 : Row (w.alloc (.cells #[.int .u64 0, .int .i64 0, .slice none 0 0, .slice none 0 0, .int .i64 0] 89)).drew w.heap.size 89 [.int .u64 0, .int .i64 0, .slice none 0 0, .slice none 0 0, .int .i64 0] := heap_alloc_new w _
    exact r0.kept g.kept (fun e => by have h1 := x.lo w.heap.size (by omega); omega)
  have HFin : Hid (∀ W0 wt wo wc ob (ao : Option Addr), Below w.heap.size w W0 → UGo W0 wt B L ub u.cut → Below wt.heap.size wt wo → Kept wo wc (fun k => k = ob) → (wt.heap.size ≤ ob ∨ (w.heap.size ≤ ob ∧ ob < W0.heap.size)) → (∀ i (hi : i < (refsC h.cs s).length), ∃ g, ao = some ⟨g, 0, none⟩ ∧ wt.heap.size ≤ g ∧ g < wo.heap.size ∧ g ≠ ob ∧ wo.cell? ⟨g, i * 2, none⟩ = some (.int .i64 (refsC h.cs s)[i].1) ∧ wo.cell? ⟨g, i * 2 + 1, none⟩ = some (.int .u64 ((refsC h.cs s)[i].2 : Int))) → FwO w0 w wc B xb hb pb L r u h p X ao (refsC h.cs s)) := fun W0 wt wo wc ob ao a1 a2 a3 a4 a5 a6 => fwO_of x y hX a1 a2 a3 a4 a5 a6
  have hwi : ¬ ((l.length : Int) + 1 = 0) := by omega
  have hwb : ((l.length : Int) + 1 == 0) = false := by rw [beq_eq_false_iff_ne]; omega
  have HNM : Hid _ := hidden nm
  have HUB : Hid (UB u.cut N) := hidden hub.cut
  have HOK : Hid h.Ok := hidden y.ok
  have HRL := refsC_len y.ok s
  have hfo : u.follow h p r.sus s = u.cut.all h p r.sus (refsC h.cs s) := rfl
  rw [hfo]
  obtain ⟨rf, hrf⟩ : ∃ z, z = refsC h.cs s := ⟨_, rfl⟩
  have HRF : Hid (refsC h.cs s = rf) := hrf.symm
  have HR : Hid (∀ x ∈ rf, x.2 < 18446744073709551616) := fun x hx => hR s x (by rw [HRF.out]; exact hx)
  rw [← hrf] at HRL HFin ⊢
  have hs64 : s < 18446744073709551616 := by omega
  clear x y hub hu z htv hw hlen hxn nm hfo hrf
  generalize l.length = ln at *
  go_enter Tryz.func32, Tryz.ntmps32
  go_upto_region 3 with fail
  go_cut [3, 4] from 23 to 35 (fun s t wc => ∃ (ob n2 c1 c2 : Nat) (a c d : Int) (ao bo : Option Addr) (ok : Bool), s = .pointer (some ⟨ob, 0, none⟩) ∧ t = .bool ok ∧ Row wc ob 89 [.int .u64 a, .int .i64 c, .slice ao rf.length c1, .slice bo n2 c2, .int .i64 d] ∧ FwO w0 w wc B xb hb pb L r u h p X ao rf)
  case first =>
    go_region_with (first
      | (go_at_call 64; refine (hTk _ (by first | exact HD0.out | exact HD1.out)).mono ?_; rintro e wt ⟨rfl, gt⟩; obtain ⟨ct0, hxt, yt⟩ := HOb.out _ wt (by first | exact HD0.out | exact HD1.out) gt; have hO := fun W (hW : Below wt.heap.size wt W) => (yt.read hW).objR s hs64; rw [HRF.out] at hO; have HGT : Hid _ := hidden gt; (first | (have rz := HZ.out wt gt; have RZ : Hid _ := hidden rz; clear rz) | skip); clear gt yt)
      | (go_at_call 57; refine (hO _ (by first | exact Below.refl _ _ | exact bel_alloc _ _)).mono ?_; rintro e wo ⟨a, c, d, ao', bo, c1, n2, c2, ok, rfl, _, hrf, bo'⟩; have HRO : Hid _ := hidden hrf; have HBO : Hid _ := hidden bo'; (first | (have rz := RZ.out.below bo'; have q0 := rz.cell 0 (by simp); have q1 := rz.cell 1 (by simp); have q2 := rz.cell 2 (by simp); have q3 := rz.cell 3 (by simp); have q4 := rz.cell 4 (by simp); have fz := rz.frozen; have lz := rz.lt; simp only [List.getElem_cons_succ, List.getElem_cons_zero] at q0 q1 q2 q3 q4; have RZ2 : Hid _ := hidden rz; clear rz) | (have rz : Row wo wt.heap.size 89 [.int .u64 0, .int .i64 0, .slice none 0 0, .slice none 0 0, .int .i64 0] := Row.below (heap_alloc_new wt _) bo'; have q0 := rz.cell 0 (by simp); have q1 := rz.cell 1 (by simp); have q2 := rz.cell 2 (by simp); have q3 := rz.cell 3 (by simp); have q4 := rz.cell 4 (by simp); have fz := rz.frozen; have lz := rz.lt; simp only [List.getElem_cons_succ, List.getElem_cons_zero] at q0 q1 q2 q3 q4; have RZ2 : Hid _ := hidden rz; clear rz) | skip); clear hrf bo'))
    all_goals
      go_wp2
      go_meet
      have hzg := HGT.out.kept.size
      have hzb := HBO.out.size
      first
        | (have hz := RZ.out.lt
           have hr : ∀ i (hi : i < rf.length), ∃ g, ao' = some ⟨g, 0, none⟩ ∧ wt.heap.size ≤ g ∧ g < wo.heap.size ∧ g ≠ w.heap.size ∧ wo.cell? ⟨g, i * 2, none⟩ = some (.int .i64 rf[i].1) ∧ wo.cell? ⟨g, i * 2 + 1, none⟩ = some (.int .u64 (rf[i].2 : Int)) := fun i hi => (by obtain ⟨g, e, g1, g2, g3, g4⟩ := HRO.out i hi; exact ⟨g, e, g1, g2, by omega, g3, g4⟩)
           refine ⟨w.heap.size, n2, c1, c2, a, c, d, ao', bo, ok, rfl, rfl, row_five RZ2.out _ _ _ _ _, ?_⟩
           exact HFin.out _ wt wo _ w.heap.size ao' HD1.out HGT.out HBO.out (kept_five wo w.heap.size _ _ _ _ _) (Or.inr ⟨Nat.le_refl _, by simp⟩) hr)
        | (have hz := RZ2.out.lt
           have hr : ∀ i (hi : i < rf.length), ∃ g, ao' = some ⟨g, 0, none⟩ ∧ wt.heap.size ≤ g ∧ g < wo.heap.size ∧ g ≠ wt.heap.size ∧ wo.cell? ⟨g, i * 2, none⟩ = some (.int .i64 rf[i].1) ∧ wo.cell? ⟨g, i * 2 + 1, none⟩ = some (.int .u64 (rf[i].2 : Int)) := fun i hi => (by obtain ⟨g, e, g1, g2, g3, g4⟩ := HRO.out i hi; simp only [World.size_alloc] at g1; exact ⟨g, e, by omega, g2, by omega, g3, g4⟩)
           refine ⟨wt.heap.size, n2, c1, c2, a, c, d, ao', bo, ok, rfl, rfl, row_five RZ2.out _ _ _ _ _, ?_⟩
           exact HFin.out _ wt wo _ wt.heap.size ao' HD0.out HGT.out ((bel_alloc wt _).trans (HBO.out.mono (by simp))) (kept_five wo wt.heap.size _ _ _ _ _) (Or.inl (Nat.le_refl _)) hr)
        | (have hr : ∀ i (hi : i < rf.length), ∃ g, ao' = some ⟨g, 0, none⟩ ∧ wt.heap.size ≤ g ∧ g < wo.heap.size ∧ g ≠ wo.heap.size ∧ wo.cell? ⟨g, i * 2, none⟩ = some (.int .i64 rf[i].1) ∧ wo.cell? ⟨g, i * 2 + 1, none⟩ = some (.int .u64 (rf[i].2 : Int)) := fun i hi => (by obtain ⟨g, e, g1, g2, g3, g4⟩ := HRO.out i hi; exact ⟨g, e, g1, g2, by omega, g3, g4⟩)
           refine ⟨wo.heap.size, n2, c1, c2, a, c, d, ao', bo, ok, rfl, rfl, heap_alloc_new wo _, ?_⟩
           exact HFin.out _ wt wo _ wo.heap.size ao' HD0.out HGT.out HBO.out (Kept.alloc wo _ _) (Or.inl HBO.out.size) hr)
  case rest =>
    obtain ⟨ob, n2, c1, c2, a, c, d, ao', bo, ok, rfl, rfl, ro, hfw⟩ := hcut
    obtain ⟨wq, hwq⟩ : ∃ q, q = wc := ⟨_, rfl⟩
    subst hwq
    obtain ⟨⟨Lt, xt, at', hrc⟩, kt, yt⟩ := hfw
    have o2 := ro.cell 2 (by simp)
    simp only [List.getElem_cons_succ, List.getElem_cons_zero] at o2
    have hol := ro.lt
    have HYC : Hid _ := hidden yt
    have HXT : Hid _ := hidden xt
    have HLO : Hid (∀ k, Lt k < 9 → B ≤ k ∧ k < wq.heap.size) := xt.lo
    have HXL : Hid (∀ k, Lt k < 9 → X k ∨ (w.heap.size ≤ k ∧ k < wq.heap.size)) := fun k e => by
      rcases at' k e with a | a
      · exact Or.inl (hX k a)
      · exact Or.inr ⟨a, (xt.lo k e).2⟩
    have HAT : Hid _ := hidden at'
    have HKT : Hid (Kept w wq (fun k => L k < 9)) := kt
    have HRC : Hid _ := hidden hrc
    have HBW : Hid (B ≤ wq.heap.size) := Nat.le_trans hBw HKT.out.size
    clear c0 c4 d2 hTk HOb HFin HZ HD0 HD1 ro kt yt xt at' hrc
    go_wp2
    go_loopw [39] (fun t wr => ∃ i : Nat, i ≤ rf.length ∧ t = .int .i64 (i : Int) ∧ FwI wq wr B xb hb pb Lt r (u.cut.all h p r.sus (rf.take i)) (N + i)) (fun t _ => rf.length - (intOf t).toNat)
    case atStart => exact ⟨0, Nat.zero_le _, rfl, ⟨⟨Lt, HXT.out, fun _ e => Or.inl e⟩, Kept.refl _ _, HUB.out⟩⟩
    case round =>
      clear HXT HUB o2
      obtain ⟨i, hi, rfl, z⟩ := hrel
      by_cases hlt : i < rf.length
      · obtain ⟨g, rfl, hg9, hgl, d0, d1⟩ := HRC.out i hlt
        have d0r := cell_kept d0 z.kept (fun e => hg9 e)
        have d1r := cell_kept d1 z.kept (fun e => hg9 e)
        have hgr : g < wr.heap.size := Nat.lt_of_lt_of_le hgl z.kept.size
        have hst := look_step h p r.sus u.cut rf i hlt
        have HL : Hid (i + 1 ≤ rf.length) := hlt
        have HMM : rf[i].2 < 18446744073709551616 := HR.out _ (List.getElem_mem hlt)
        have hli : (i : Int) < (rf.length : Int) := by omega
        have hub2 : UB (u.cut.all h p r.sus (rf.take (i + 1))) (N + i + 1) := by
          rw [hst]
          exact z.ub.look HOK.out HNM.out _
        have HN2 : Hid (N + i ≤ 1000000) := by
          have e : N + i ≤ 1000000 := by omega
          exact e
        have yr := HYC.out.other z.kept (fun k e => ⟨HXL.out k e, (HLO.out k e).1⟩)
        have hBr : B ≤ wr.heap.size := Nat.le_trans HBW.out z.kept.size
        have HST : Hid (u.cut.all h p r.sus (rf.take (i + 1)) = (u.cut.all h p r.sus (rf.take i)).look h p r.sus rf[i]) := hst
        have HU2 : Hid _ := hidden hub2
        obtain ⟨un, hun⟩ : ∃ q, q = u.cut.all h p r.sus (rf.take (i + 1)) := ⟨_, rfl⟩
        rw [← hun] at HST HU2
        have HUN : Hid (un = u.cut.all h p r.sus (rf.take (i + 1))) := hidden hun
        clear hst hub2 hun
        generalize u.cut.all h p r.sus (rf.take i) = ui at *
        generalize rf[i] = y at *
        obtain ⟨a, m⟩ := y
        simp only at d0r d1r
        obtain ⟨wx, hwx⟩ : ∃ q, q = wr.alloc (.cells #[.int .i64 a, .int .u64 (m : Int)] 55) := ⟨_, rfl⟩
        have bx : Below wr.heap.size wr wx := by rw [hwx]; exact bel_alloc _ _
        have x0 : wx.cell? ⟨wr.heap.size, 0, none⟩ = some (.int .i64 a) := by rw [hwx]; simp
        have x1 : wx.cell? ⟨wr.heap.size, 1, none⟩ = some (.int .u64 (m : Int)) := by rw [hwx]; simp
        have hxs : wr.heap.size < wx.heap.size := cell_lt x0
        have HWX : Hid (wr.alloc (.cells #[.int .i64 a, .int .u64 (m : Int)] 55) = wx) := hwx.symm
        have yx := yr.read bx
        obtain ⟨Li, xi, ai⟩ := z.ex
        have xx := xi.below bx
        obtain ⟨uvx, evx, esx, xx⟩ := xx
        have xc0 := xx.c0
        have hxbl := xx.box.lt
        obtain ⟨Fh, Gp, hpx, _⟩ := yx.ex
        have hNo := fun k => pnode_any hpx k
        have HZW : Hid (∀ wn, RcGo wx wn B xb hb pb Li { r with und := some un } → FwI wq wn B xb hb pb Lt r un (N + (i + 1))) := fun wn hg => FwI.go ai z.kept (RcGo.then (L1 := Li) (fun k e => Or.inl e) (kept_of_below bx _) hg) (HU2.out.mono (by omega))
        have HYX : Hid _ := hidden yx
        have HXX : Hid _ := hidden xx
        have HUI : Hid _ := hidden z.ub
        have hbxl : B ≤ wx.heap.size := Nat.le_trans hBr bx.size
        clear z d0 d1 yr yx xi ai xx hpx hwx bx hg9 hgl HRC
        go_upto_region 7 with fail
        rw [HWX.out]
        have HM : Hid (m < 18446744073709551616) := HMM
        by_cases han : a = (h.node : Int)
        · have hlk : ui.look h p r.sus (a, m) = if susO h p r.sus m then ui.put m else ui := if_pos han
          have hanb : (a == (h.node : Int)) = true := by rw [beq_iff_eq]; exact han
          clear han
          go_cut [43] from 43 to 51 (fun t wd => t = .bool true ∧ Below wx.heap.size wx wd)
          case first =>
            have P0 : ∀ k, (wx.drewN k).cell? ⟨wr.heap.size, 0, none⟩ = some (.int .i64 a) := fun _ => x0
            have P1 : ∀ k, (wx.drewN k).cell? ⟨xb, 0, none⟩ = some (.pointer (some ⟨hb, 0, none⟩)) := fun _ => xc0
            go_quiet (first | (go_at_call 54; exact Calls.quiet_of_same (hNo _)))
            go_wp2
            go_meet
            exact ⟨by first | rfl | rw [hanb], below_drewN0 _ _⟩
          case rest =>
            obtain ⟨rfl, bd⟩ := hcut
            have y1 := (bd.cell (p := ⟨wr.heap.size, 1, none⟩) hxs).trans x1
            have hys : wr.heap.size < wc.heap.size := Nat.lt_of_lt_of_le hxs bd.size
            have xd := HXX.out.below bd
            have hS := suspect_any xd (HYX.out.read bd) m HM.out
            have HBD : Hid _ := hidden bd
            have hbl : B ≤ wc.heap.size := Nat.le_trans hbxl bd.size
            clear x0 x1 xc0 hNo bd xd hanb
            cases hq : susO h p r.sus m with
            | true =>
              rw [hq] at hS hlk
              have HLK : Hid (un = ui.put m) := HST.out.trans hlk
              clear hlk hq
              go_upto_region 9 with (go_at_call 65; refine hS.mono ?_; rintro e w8 ⟨rfl, b8⟩; have y8 := (b8.cell (p := ⟨wr.heap.size, 1, none⟩) hys).trans y1; have hy8 : wr.heap.size < w8.heap.size := Nat.lt_of_lt_of_le hys b8.size; have HB8 : Hid _ := hidden b8; clear b8)
              obtain ⟨uvx, evx, esx, x8⟩ : RcN w8 B xb hb pb Li { r with und := some ui } := ⟨_, _, _, (HXX.out.below HBD.out).below HB8.out⟩
              have c48 := x8.c4
              have hv8 := x8.un
              obtain ⟨ub8, rfl, mv8, wv8, mb8, ov8, tv8, u8⟩ := hv8
              have c38 := u8.c3
              have hu8l := u8.box.lt
              have hx8l := x8.box.lt
              have hPt := fun W (hB : Below w8.heap.size w8 W) => put_any (u8.below hB) (Nat.le_trans hbl (Nat.le_trans HB8.out.size hB.size)) m (by have := HUI.out.wl; have := HN2.out; omega)
              have HEN : Hid (∀ W0 W, Below w8.heap.size w8 W0 → UGo W0 W B Li ub8 (ui.put m) → FwI wq W B xb hb pb Lt r un (N + (i + 1))) := fun W0 W hB g => by
                refine HZW.out W ?_
                rw [HLK.out]
                exact RcGo.then (L1 := Li) (fun k e => Or.inl e) (kept_of_below ((HBD.out.trans (HB8.out.mono HBD.out.size)).trans (hB.mono (Nat.le_trans HBD.out.size HB8.out.size))) _) ((x8.below hB).ugo rfl g)
              clear u8 x8 hS y1 hys
              unfold putV at c38
              go_region_with (go_at_call 88; refine (hPt _ (below_drew0 _)).mono ?_; rintro e w9 ⟨rfl, g9⟩; have HE9 : Hid _ := hidden (HEN.out _ _ (below_drew0 _) g9); clear g9)
              all_goals
                go_wp2
                go_roundw
                case rel => exact ⟨i + 1, HL.out, by go_num, by rw [← HUN.out]; exact HE9.out⟩
                case measure => have := HL.out; simp [intOf]; omega
            | false =>
              rw [hq] at hS hlk
              have HLK : Hid (un = ui) := HST.out.trans hlk
              clear hlk hq
              go_wp2_with (go_at_call 65; refine hS.mono ?_; rintro e w8 ⟨rfl, b8⟩; have HE8 : Hid (FwI wq w8 B xb hb pb Lt r un (N + (i + 1))) := HZW.out w8 (by rw [HLK.out]; exact RcN.stay ⟨_, _, _, HXX.out⟩ (HBD.out.trans (b8.mono HBD.out.size))); clear b8 hS)
              go_roundw
              case rel => exact ⟨i + 1, HL.out, by go_num, by rw [← HUN.out]; exact HE8.out⟩
              case measure => have := HL.out; simp [intOf]; omega
        · have hlk : ui.look h p r.sus (a, m) = if susI p r.sus (a, m) then ui.meet (a, m) else ui := if_neg han
          have hanb : (a == (h.node : Int)) = false := by rw [beq_eq_false_iff_ne]; exact han
          go_cut [43] from 43 to 51 (fun t wd => t = .bool false ∧ Below wx.heap.size wx wd)
          case first =>
            have P0 : ∀ k, (wx.drewN k).cell? ⟨wr.heap.size, 0, none⟩ = some (.int .i64 a) := fun _ => x0
            have P1 : ∀ k, (wx.drewN k).cell? ⟨xb, 0, none⟩ = some (.pointer (some ⟨hb, 0, none⟩)) := fun _ => xc0
            go_quiet (first | (go_at_call 54; exact Calls.quiet_of_same (hNo _)))
            go_wp2
            go_meet
            exact ⟨by first | rfl | rw [hanb], below_drewN0 _ _⟩
          case rest =>
            obtain ⟨rfl, bd⟩ := hcut
            have y0 := (bd.cell (p := ⟨wr.heap.size, 0, none⟩) hxs).trans x0
            have y1 := (bd.cell (p := ⟨wr.heap.size, 1, none⟩) hxs).trans x1
            have hys : wr.heap.size < wc.heap.size := Nat.lt_of_lt_of_le hxs bd.size
            have xd := HXX.out.below bd
            have hS := suspectOut_any xd (HYX.out.read bd) a m
            have HBD : Hid _ := hidden bd
            have hbl : B ≤ wc.heap.size := Nat.le_trans hbxl bd.size
            clear x0 x1 xc0 hNo bd xd han hanb
            cases hq : susI p r.sus (a, m) with
            | true =>
              rw [hq] at hS hlk
              have HLK : Hid (un = ui.meet (a, m)) := HST.out.trans hlk
              have hnm := sus_names HNM.out hq
              clear hlk hq
              go_upto_region 11 with (go_at_call 66; refine hS.mono ?_; rintro e w8 ⟨rfl, b8⟩; have z0 := (b8.cell (p := ⟨wr.heap.size, 0, none⟩) hys).trans y0; have z1 := (b8.cell (p := ⟨wr.heap.size, 1, none⟩) hys).trans y1; have hy8 : wr.heap.size < w8.heap.size := Nat.lt_of_lt_of_le hys b8.size; have HB8 : Hid _ := hidden b8; clear b8)
              obtain ⟨uvx, evx, esx, x8⟩ : RcN w8 B xb hb pb Li { r with und := some ui } := ⟨_, _, _, (HXX.out.below HBD.out).below HB8.out⟩
              have c48 := x8.c4
              have hv8 := x8.un
              obtain ⟨ub8, rfl, mv8, wv8, mb8, ov8, tv8, u8⟩ := hv8
              have hu8l := u8.box.lt
              have hx8l := x8.box.lt
              have hPt := fun W (hB : Below w8.heap.size w8 W) => meet_any' (u8.below hB) (Nat.le_trans hbl (Nat.le_trans HB8.out.size hB.size)) HUI.out.ou (by have := HUI.out.ol; have := HN2.out; omega) a m hnm
              have HEN : Hid (∀ W0 W, Below w8.heap.size w8 W0 → UGo W0 W B Li ub8 (ui.meet (a, m)) → FwI wq W B xb hb pb Lt r un (N + (i + 1))) := fun W0 W hB g => by
                refine HZW.out W ?_
                rw [HLK.out]
                exact RcGo.then (L1 := Li) (fun k e => Or.inl e) (kept_of_below ((HBD.out.trans (HB8.out.mono HBD.out.size)).trans (hB.mono (Nat.le_trans HBD.out.size HB8.out.size))) _) ((x8.below hB).ugo rfl g)
              clear u8 x8 hS y0 y1 hys
              go_region_with (go_at_call 67; refine (hPt _ (below_drew0 _)).mono ?_; rintro e w9 ⟨rfl, g9⟩; have HE9 : Hid _ := hidden (HEN.out _ _ (below_drew0 _) g9); clear g9)
              all_goals
                go_wp2
                go_roundw
                case rel => exact ⟨i + 1, HL.out, by go_num, by rw [← HUN.out]; exact HE9.out⟩
                case measure => have := HL.out; simp [intOf]; omega
            | false =>
              rw [hq] at hS hlk
              have HLK : Hid (un = ui) := HST.out.trans hlk
              clear hlk hq
              go_wp2_with (go_at_call 66; refine hS.mono ?_; rintro e w8 ⟨rfl, b8⟩; have HE8 : Hid (FwI wq w8 B xb hb pb Lt r un (N + (i + 1))) := HZW.out w8 (by rw [HLK.out]; exact RcN.stay ⟨_, _, _, HXX.out⟩ (HBD.out.trans (b8.mono HBD.out.size))); clear b8 hS)
              go_roundw
              case rel => exact ⟨i + 1, HL.out, by go_num, by rw [← HUN.out]; exact HE8.out⟩
              case measure => have := HL.out; simp [intOf]; omega
      · have hE : i = rf.length := by omega
        subst hE
        rw [List.take_length] at z
        obtain ⟨Li, xi, ai⟩ := z.ex
        have HG : Hid (RcGo w wr B xb hb pb L { r with und := some (u.cut.all h p r.sus rf) }) := RcGo.then (L1 := Lt) HAT.out HKT.out ⟨⟨Li, xi, ai⟩, z.kept⟩
        clear z xi ai HRC
        generalize rf.length = n at *
        go_wp2
        go_ret
        exact ⟨rfl, HG.out⟩
end
end Go.Proofs.YtlabdbfmfejkaaaGreatDoor

namespace Go.Proofs.YtlabdbfmfejkaaaGreatDoor
open Go.RowKit

section
variable {w0 w w' : World} {B xb hb pb : Nat} {L : Nat → Nat} {r : RSt} {h : HSt} {p : PSt} {X : Nat → Prop}
theorem follow_no (x : RcN w B xb hb pb L r) (hf : followR h p r = none) :
    Calls Tryz.prog 32 #[.pointer (some ⟨xb, 0, none⟩)] w fun e w' => e = .returned (.bool false) ∧ w = w' := by
  unfold followR at hf
  cases hu : r.und with
  | none => exact follow_none x hu
  | some u =>
    rw [hu] at hf
    simp only at hf
    cases hw : u.waits.getLast? with
    | none => exact follow_empty x hu (List.getLast?_eq_none_iff.1 hw)
    | some s => rw [hw] at hf; cases hf
theorem follow_yes (x : RcN w B xb hb pb L r) (y : PH w0 B w pb hb h p X) (hX : ∀ k, L k < 9 → X k) (nm : ∀ e ∈ p.me, namesB e.1 = true) (hR : ∀ s, ∀ x ∈ refsC h.cs s, x.2 < 18446744073709551616) {N : Nat} (hb' : RB r N) (hN : N ≤ 900000) {r' : RSt} (hf : followR h p r = some r') :
    Calls Tryz.prog 32 #[.pointer (some ⟨xb, 0, none⟩)] w fun e w' => e = .returned (.bool true) ∧ RcGo w w' B xb hb pb L r' := by
  unfold followR at hf
  cases hu : r.und with
  | none => rw [hu] at hf; cases hf
  | some u =>
    rw [hu] at hf
    simp only at hf
    cases hw : u.waits.getLast? with
    | none => rw [hw] at hf; cases hf
    | some s =>
      rw [hw] at hf
      simp only [Option.some.injEq] at hf
      subst hf
      obtain ⟨l, hl⟩ := List.getLast?_eq_some_iff.1 hw
      exact follow_some x y hX nm hR hu N (hb'.ub u hu) hN l s hl
set_option maxRecDepth 20000 in
set_option maxHeartbeats 1000000 in
theorem rstep_any (x : RcN w B xb hb pb L r) (y : PH w0 B w pb hb h p X) (hX : ∀ k, L k < 9 → X k) (nm : ∀ e ∈ p.me, namesB e.1 = true) (hR : ∀ s, ∀ x ∈ refsC h.cs s, x.2 < 18446744073709551616) {N : Nat} (hb' : RB r N) (hN : N ≤ 900000) :
    Calls Tryz.prog 11 #[.pointer (some ⟨xb, 0, none⟩)] w fun e w' => e = .returned (.bool (r.step h p).1) ∧ RcGo w w' B xb hb pb L (r.step h p).2 := by
  unfold RSt.step
  cases hf : followR h p r with
  | some r' =>
    have hF := follow_yes x y hX nm hR hb' hN hf
    clear x y hX nm hR hb' hN hf
    simp only
    go_enter Tryz.func11, Tryz.ntmps11
    go_wp2_with fail
    refine hF.mono ?_
    rintro e w1 ⟨rfl, g1⟩
    have HG : Hid _ := hidden g1
    clear hF g1
    go_wp2
    go_ret
    exact ⟨rfl, HG.out⟩
  | none =>
    have hF := follow_no x hf
    simp only
    cases ha : aboveC h.cs r.place with
    | some o =>
      have hM := move_some x y hX o ha (by have := hb'.el; omega)
      clear x y hX nm hR hb' hN hf ha
      simp only
      go_enter Tryz.func11, Tryz.ntmps11
      go_wp2_with fail
      refine hF.mono ?_
      rintro e _ ⟨rfl, rfl⟩
      clear hF
      go_wp2_with fail
      refine hM.mono ?_
      rintro e w1 ⟨rfl, g1⟩
      have HG : Hid _ := hidden g1
      clear hM g1
      go_wp2
      go_ret
      exact ⟨rfl, HG.out⟩
    | none =>
      have hM := move_none x y ha
      have HE : Hid (∀ W, Below w.heap.size w W → Calls Tryz.prog 34 #[.pointer (some ⟨xb, 0, none⟩)] W fun e w' => e = .returned (.bool r.und.isSome) ∧ RcGo w w' B xb hb pb L r.endS) := fun W hW => by
        obtain ⟨uv, ev, es, x⟩ := x
        have hl : es.length ≤ 1000000 := by
          have h1 := hb'.el
          have h2 := congrArg List.length x.es
          rw [List.length_map] at h2
          omega
        refine (end_any (x.below hW) (Nat.le_trans y.le hW.size) hl).mono ?_
        rintro e w' ⟨he, g⟩
        exact ⟨he, RcGo.then (L1 := L) (fun k e => Or.inl e) (kept_of_below hW _) g⟩
      clear x y hX nm hR hb' hN hf ha
      simp only
      generalize r.und.isSome = bu at *
      go_enter Tryz.func11, Tryz.ntmps11
      go_wp2_with fail
      refine hF.mono ?_
      rintro e _ ⟨rfl, rfl⟩
      clear hF
      go_wp2_with fail
      refine hM.mono ?_
      rintro e w1 ⟨rfl, b1⟩
      have hE := HE.out _ b1
      clear hM b1
      go_wp2_with fail
      refine hE.mono ?_
      rintro e w2 ⟨rfl, g2⟩
      have HG : Hid _ := hidden g2
      clear hE g2
      go_wp2
      go_ret
      exact ⟨rfl, HG.out⟩
end
end Go.Proofs.YtlabdbfmfejkaaaGreatDoor

namespace Go.Proofs.YtlabdbfmfejkaaaGreatDoor
open Go.RowKit

/-- The labels of a reacher that has begun. -/
def begL (xb k : Nat) : Nat := if k = xb then 0 else 9
section
variable {w : World} {B xb hb pb : Nat} {L : Nat → Nat} {r : RSt} {a b c d : Value}
set_option maxRecDepth 20000 in
set_option maxHeartbeats 1000000 in
theorem begin_row (x : Row w xb 82 [.pointer (some ⟨hb, 0, none⟩), .pointer (some ⟨pb, 0, none⟩), a, b, c, d]) (hB : B ≤ xb) (t : Int) :
    Calls Tryz.prog 9 #[.pointer (some ⟨xb, 0, none⟩), .int .i64 t] w fun e w' => e = .returned (.tuple #[]) ∧ RcX w' B xb hb pb (begL xb) (.pointer none) (.slice none 0 0) [] (RSt.new t) ∧ Kept w w' (fun k => k = xb) := by
  have c2 := x.cell 2 (by simp)
  have c3 := x.cell 3 (by simp)
  have c4 := x.cell 4 (by simp)
  have c5 := x.cell 5 (by simp)
  simp only [List.getElem_cons_succ, List.getElem_cons_zero] at c2 c3 c4 c5
  have f2 := x.frozen 2
  have f3 := x.frozen 3
  have f4 := x.frozen 4
  have f5 := x.frozen 5
  have r1 := (((x.set 2 (.int .i64 t)).set 3 (.int .u64 0)).set 4 (.pointer none)).set 5 (.slice none 0 0)
  have k1 : Kept w ((((w.setCell ⟨xb, 2, none⟩ (.int .i64 t)).setCell ⟨xb, 3, none⟩ (.int .u64 0)).setCell ⟨xb, 4, none⟩ (.pointer none)).setCell ⟨xb, 5, none⟩ (.slice none 0 0)) (fun k => k = xb) := (((Kept.setCell w ⟨xb, 2, none⟩ (.int .i64 t)).trans (Kept.setCell _ ⟨xb, 3, none⟩ (.int .u64 0)) (fun _ _ e => e)).trans (Kept.setCell _ ⟨xb, 4, none⟩ (.pointer none)) (fun _ _ e => e)).trans (Kept.setCell _ ⟨xb, 5, none⟩ (.slice none 0 0)) (fun _ _ e => e)
  have hxl := x.lt
  have hz := k1.size
  have HX : Hid (RcX ((((w.setCell ⟨xb, 2, none⟩ (.int .i64 t)).setCell ⟨xb, 3, none⟩ (.int .u64 0)).setCell ⟨xb, 4, none⟩ (.pointer none)).setCell ⟨xb, 5, none⟩ (.slice none 0 0)) B xb hb pb (begL xb) (.pointer none) (.slice none 0 0) [] (RSt.new t)) := ⟨r1, rfl, ⟨⟨rfl, Or.inl ⟨rfl, rfl⟩⟩, (fun k e => by cases e), (fun e he => by cases he), (fun e he => by cases he)⟩, rfl, if_pos rfl, fun k e => by
    unfold begL at e
    by_cases ek : k = xb
    · subst ek
      exact ⟨hB, by omega⟩
    · rw [if_neg ek] at e
      omega⟩
  have HK : Hid _ := hidden k1
  clear r1 k1 x hz
  go_enter Tryz.func9, Tryz.ntmps9
  go_wp2
  go_end0
  exact ⟨rfl, HX.out, HK.out⟩
/-- Begun anew. -/
theorem begin_any (x : RcN w B xb hb pb L r) (t : Int) :
    Calls Tryz.prog 9 #[.pointer (some ⟨xb, 0, none⟩), .int .i64 t] w fun e w' => e = .returned (.tuple #[]) ∧ RcGo w w' B xb hb pb L (RSt.new t) := by
  obtain ⟨uv, ev, es, x⟩ := x
  have h0 := x.l0
  refine (begin_row (B := B) x.box (x.lo xb (by omega)).1 t).mono ?_
  rintro e w' ⟨rfl, y, k⟩
  refine ⟨rfl, ⟨begL xb, ⟨_, _, _, y⟩, fun k e => Or.inl ?_⟩, k.mono (fun k _ e => ?_)⟩
  · unfold begL at e
    by_cases ek : k = xb
    · subst ek; omega
    · rw [if_neg ek] at e; omega
  · have e' : k = xb := e
    subst e'
    omega
end
set_option maxRecDepth 20000 in
set_option maxHeartbeats 1000000 in
theorem reach_no (hp pp : Option Addr) (h : hp = none ∨ pp = none) (w : World) :
    Calls Tryz.prog 7 #[.pointer hp, .pointer pp] w fun e w' => e = .returned (.tuple #[.pointer none, .int .i64 1]) ∧ w = w' := by
  cases hp with
  | none =>
    go_enter Tryz.func7, Tryz.ntmps7
    go_wp2
    go_ret2
    exact ⟨rfl, rfl⟩
  | some ha =>
    have e : pp = none := by
      rcases h with h | h
      · cases h
      · exact h
    subst e
    go_enter Tryz.func7, Tryz.ntmps7
    go_wp2
    go_ret2
    exact ⟨rfl, rfl⟩
set_option maxRecDepth 20000 in
set_option maxHeartbeats 1000000 in
theorem reach_ok (hb pb B : Nat) (w : World) (hB : B ≤ w.heap.size) :
    Calls Tryz.prog 7 #[.pointer (some ⟨hb, 0, none⟩), .pointer (some ⟨pb, 0, none⟩)] w fun e w' => e = .returned (.tuple #[.pointer (some ⟨w.heap.size, 0, none⟩), .int .i64 0]) ∧ RcX w' B w.heap.size hb pb (begL w.heap.size) (.pointer none) (.slice none 0 0) [] (RSt.new 0) ∧ Below w.heap.size w w' := by
  have hA : Below w.heap.size w (w.alloc (.cells #[.pointer (some ⟨hb, 0, none⟩), .pointer (some ⟨pb, 0, none⟩), .int .i64 0, .int .u64 0, .pointer none, .slice none 0 0] 82)) := bel_alloc w _
  have r0 : Row (w.alloc (.cells #[.pointer (some ⟨hb, 0, none⟩), .pointer (some ⟨pb, 0, none⟩), .int .i64 0, .int .u64 0, .pointer none, .slice none 0 0] 82)) w.heap.size 82 [.pointer (some ⟨hb, 0, none⟩), .pointer (some ⟨pb, 0, none⟩), .int .i64 0, .int .u64 0, .pointer none, .slice none 0 0] := heap_alloc_new w _
  have hBe := begin_row r0 hB 0
  have HA : Hid _ := hidden hA
  clear hA r0
  go_enter Tryz.func7, Tryz.ntmps7
  go_wp2_with fail
  refine hBe.mono ?_
  rintro e w2 ⟨rfl, x2, k2⟩
  have HX : Hid _ := hidden x2
  have HB : Hid (Below w.heap.size w w2) := HA.out.trans (k2.below (by simp) (fun i hi => by show ¬ (i = w.heap.size); omega))
  clear hBe x2 k2
  go_wp2
  go_ret2
  exact ⟨rfl, HX.out, HB.out⟩
end Go.Proofs.YtlabdbfmfejkaaaGreatDoor

namespace Go.Proofs.YtlabdbfmfejkaaaGreatDoor
open Go.RowKit

/-- What holds a heap and its paint, with a set of blocks that stay. -/
structure Hos (S : World → (Nat → Prop) → Prop) (w0 : World) (B pb hb : Nat) (h : HSt) (p : PSt) : Prop where
  ph : ∀ w X, S w X → PH w0 B w pb hb h p X
  fresh : ∀ w w' X T, S w X → Kept w w' T → (∀ k, T k → k < w.heap.size → X k ∧ B ≤ k) → S w' (fun k => X k ∨ (w.heap.size ≤ k ∧ k < w'.heap.size))
  off : ∀ w X Y, S w X → (∀ k, Y k → X k) → S w Y
/-- .. and a reacher; X: other blocks that stay. -/
structure RcS (S : World → (Nat → Prop) → Prop) (w : World) (B xb hb pb : Nat) (r : RSt) (X : Nat → Prop) : Prop where
  ex : ∃ L, RcN w B xb hb pb L r ∧ (∀ k, L k < 9 → ¬ X k) ∧ S w (fun k => X k ∨ L k < 9)
theorem hos_ph (w0 : World) (B pb hb : Nat) (h : HSt) (p : PSt) : Hos (fun w X => PH w0 B w pb hb h p X) w0 B pb hb h p :=
  ⟨fun _ _ x => x, fun _ _ _ _ x hk hT => x.fresh hk hT, fun _ _ Y x hY => x.off Y hY⟩
section
variable {S S' : World → (Nat → Prop) → Prop} {w0 w w' : World} {B xb hb pb : Nat} {h : HSt} {p p' : PSt} {r r' : RSt} {X : Nat → Prop} {n : Nat} {args : Array Value} {e0 : Ending}
theorem RcS.rgo (H : Hos S w0 B pb hb h p) (x : RcS S w B xb hb pb r X) (f : ∀ L, RcN w B xb hb pb L r → PH w0 B w pb hb h p (fun k => X k ∨ L k < 9) → Calls Tryz.prog n args w fun e w' => e = e0 ∧ RcGo w w' B xb hb pb L r') :
    Calls Tryz.prog n args w fun e w' => e = e0 ∧ RcS S w' B xb hb pb r' X ∧ Kept w w' (Its B X) := by
  obtain ⟨L, y, hL, s⟩ := x.ex
  have ph := H.ph _ _ s
  have hlo := y.lo
  refine (f L y ph).mono ?_
  rintro e w' ⟨he, g⟩
  obtain ⟨L', y', a⟩ := g.ex
  have hlo' := y'.lo
  have s2 := H.fresh _ _ _ _ s g.kept (fun k e _ => ⟨Or.inr e, (hlo k e).1⟩)
  refine ⟨he, ⟨L', y', fun k e hx => ?_, H.off _ _ _ s2 (fun k e => ?_)⟩, g.kept.mono (fun k _ e => ⟨(hlo k e).1, hL k e⟩)⟩
  · rcases a k e with b | b
    · exact hL k b hx
    · have := ph.xs k (Or.inl hx)
      omega
  · rcases e with e | e
    · exact Or.inl (Or.inl e)
    · rcases a k e with b | b
      · exact Or.inl (Or.inr b)
      · exact Or.inr ⟨b, (hlo' k e).2⟩
/-- The host's own call. -/
theorem RcS.host (x : RcS S w B xb hb pb r X) (f : ∀ X', S w X' → Calls Tryz.prog n args w fun e w' => e = e0 ∧ S' w' X' ∧ Kept w w' (Its B X')) :
    Calls Tryz.prog n args w fun e w' => e = e0 ∧ RcS S' w' B xb hb pb r X ∧ Kept w w' (Its B X) := by
  obtain ⟨L, y, hL, s⟩ := x.ex
  refine (f _ s).mono ?_
  rintro e w' ⟨he, s', k⟩
  exact ⟨he, ⟨L, y.kept k (fun j hj e => e.2 (Or.inr hj)), hL, s'⟩, k.mono (fun j _ e => ⟨e.1, fun hx => e.2 (Or.inl hx)⟩)⟩
theorem RcS.read (H : Hos S w0 B pb hb h p) (x : RcS S w B xb hb pb r X) (hB : Below w.heap.size w w') : RcS S w' B xb hb pb r X := by
  obtain ⟨L, y, hL, s⟩ := x.ex
  exact ⟨L, y.below hB, hL, H.off _ _ _ (H.fresh _ _ _ (fun _ => False) s (kept_of_below hB _) (fun _ e => e.elim)) (fun k e => Or.inl e)⟩
/-- Blocks that stay are written. -/
theorem RcS.other (H : Hos S w0 B pb hb h p) (x : RcS S w B xb hb pb r X) {T : Nat → Prop} (hk : Kept w w' T) (hT : ∀ k, T k → X k ∧ B ≤ k) : RcS S w' B xb hb pb r X := by
  obtain ⟨L, y, hL, s⟩ := x.ex
  exact ⟨L, y.kept hk (fun k e f => hL k e (hT k f).1), hL, H.off _ _ _ (H.fresh _ _ _ T s hk (fun k e _ => ⟨Or.inl (hT k e).1, (hT k e).2⟩)) (fun k e => Or.inl e)⟩
/-- New blocks stay, too. -/
theorem RcS.grow (H : Hos S w0 B pb hb h p) (x : RcS S w B xb hb pb r X) (hB : Below w.heap.size w w') : RcS S w' B xb hb pb r (fun k => X k ∨ (w.heap.size ≤ k ∧ k < w'.heap.size)) := by
  obtain ⟨L, y, hL, s⟩ := x.ex
  refine ⟨L, y.below hB, fun k e hx => ?_, H.off _ _ _ (H.fresh _ _ _ (fun _ => False) s (kept_of_below hB _) (fun _ e => e.elim)) (fun k e => ?_)⟩
  · rcases hx with hx | hx
    · exact hL k e hx
    · have := (y.lo k e).2; omega
  · rcases e with (e | e) | e
    · exact Or.inl (Or.inl e)
    · exact Or.inr e
    · exact Or.inl (Or.inr e)
theorem RcS.host_of (x : RcS S w B xb hb pb r X) : S w X ∨ ∃ L : Nat → Nat, S w (fun k => X k ∨ L k < 9) := by
  obtain ⟨L, _, _, s⟩ := x.ex
  exact Or.inr ⟨L, s⟩
theorem RcS.out (H : Hos S w0 B pb hb h p) (x : RcS S w B xb hb pb r X) : S w X := by
  obtain ⟨L, _, _, s⟩ := x.ex
  exact H.off _ _ _ s (fun k e => Or.inl e)
/-- A new reacher. -/
theorem Hos.rnew (H : Hos S w0 B pb hb h p) (s : S w X) :
    Calls Tryz.prog 7 #[.pointer (some ⟨hb, 0, none⟩), .pointer (some ⟨pb, 0, none⟩)] w fun e w' => e = .returned (.tuple #[.pointer (some ⟨w.heap.size, 0, none⟩), .int .i64 0]) ∧ RcS S w' B w.heap.size hb pb (RSt.new 0) X ∧ Below w.heap.size w w' := by
  have ph := H.ph _ _ s
  refine (reach_ok hb pb B w ph.le).mono ?_
  rintro e w' ⟨he, y, hB⟩
  refine ⟨he, ⟨_, ⟨_, _, _, y⟩, fun k e hx => ?_, H.off _ _ _ (H.fresh _ _ _ (fun _ => False) s (kept_of_below hB _) (fun _ e => e.elim)) (fun k e => ?_)⟩, hB⟩
  · unfold begL at e
    by_cases ek : k = w.heap.size
    · have := ph.xs k hx; omega
    · rw [if_neg ek] at e; omega
  · rcases e with e | e
    · exact Or.inl e
    · refine Or.inr ⟨?_, (y.lo k e).2⟩
      unfold begL at e
      by_cases ek : k = w.heap.size
      · omega
      · rw [if_neg ek] at e; omega
theorem RcS.begin (H : Hos S w0 B pb hb h p) (x : RcS S w B xb hb pb r X) (t : Int) :
    Calls Tryz.prog 9 #[.pointer (some ⟨xb, 0, none⟩), .int .i64 t] w fun e w' => e = .returned (.tuple #[]) ∧ RcS S w' B xb hb pb (RSt.new t) X ∧ Kept w w' (Its B X) := x.rgo H (fun _ y _ => begin_any y t)
theorem RcS.step (H : Hos S w0 B pb hb h p) (x : RcS S w B xb hb pb r X) (nm : ∀ e ∈ p.me, namesB e.1 = true) (hR : ∀ s, ∀ x ∈ refsC h.cs s, x.2 < 18446744073709551616) {N : Nat} (hb' : RB r N) (hN : N ≤ 900000) :
    Calls Tryz.prog 11 #[.pointer (some ⟨xb, 0, none⟩)] w fun e w' => e = .returned (.bool (r.step h p).1) ∧ RcS S w' B xb hb pb (r.step h p).2 X ∧ Kept w w' (Its B X) := x.rgo H (fun _ y ph => rstep_any y ph (fun _ e => Or.inr e) nm hR hb' hN)
theorem RcS.rows (x : RcS S w B xb hb pb r X) {N : Nat} (hb' : RB r N) (hN : N ≤ 100000) :
    Calls Tryz.prog 14 #[.pointer (some ⟨xb, 0, none⟩)] w fun e w' => ∃ v ts, e = .returned v ∧ RL w' w.heap.size v ts ∧ ts.map (·.1) = r.ended ∧ Below w.heap.size w w' := by
  obtain ⟨L, y, _, _⟩ := x.ex
  exact rows_any y (by have := hb'.el; omega) (fun e he => by have := (hb'.eo e he).2; omega)
end
/-- So many steps. -/
def stepsN (h : HSt) (p : PSt) (r : RSt) : Nat → RSt
  | 0 => r
  | i + 1 => ((stepsN h p r i).step h p).2
theorem RB.steps {h : HSt} (ok : h.Ok) {p : PSt} (nm : ∀ e ∈ p.me, namesB e.1 = true) {r : RSt} {n : Nat} (H : RB r n) (i : Nat) : RB (stepsN h p r i) (n + 7 * i) := by
  induction i with
  | zero => exact H
  | succ i ih => exact (ih.step ok nm).mono (by omega)
end Go.Proofs.YtlabdbfmfejkaaaGreatDoor

namespace Go.Proofs.YtlabdbfmfejkaaaGreatDoor
open Go.RowKit

def hr0 : HSt := ⟨1, 4, 0, List.replicate 4 bk0, []⟩
def hr1 : HSt := hr0.makeS 1 0
def hr2 : HSt := hr1.setRefS 1 0 (2, 7)
def hr3 : HSt := hr2.setInS 1 5
def pr0 : PSt := (PSt.new 2).shade hr3 (1, 1) 5
def pr1 : PSt := pr0.scan hr3 1
theorem kr1 : hr0.makeR 1 0 = (1, 0) := by kernel_rfl
theorem kr2 : hr1.setRefR 1 0 (2, 7) = ((0, 0), 0) := by kernel_rfl
theorem kr3 : hr2.setInR 1 5 = 0 := by kernel_rfl
theorem kr4 : scanR hr3 pr0 1 = true := by kernel_rfl
theorem kr5 : (stepsN hr3 pr1 (RSt.new 3) 5).ended = [(1, [(2, 7)])] := by kernel_rfl
theorem kr6 : ((stepsN hr3 pr1 (RSt.new 3) 5).step hr3 pr1).1 = false := by kernel_rfl
theorem kr7 : pr1.me = [((2, 7), 5)] := by kernel_rfl
theorem kr8 : ∀ s, ∀ x ∈ refsC hr3.cs s, x.2 < 18446744073709551616 := by
  intro s x hx
  unfold refsC at hx
  cases hg : getC hr3.cs s with
  | none => rw [hg] at hx; cases hx
  | some o =>
    rw [hg] at hx
    have hm := (getC_mem hg).1
    have hc : hr3.cs.map (·.rf) = [[(2, 7)]] := by kernel_rfl
    have h1 : o.rf ∈ hr3.cs.map (·.rf) := List.mem_map.2 ⟨o, hm, rfl⟩
    rw [hc, List.mem_singleton] at h1
    have hx' : x ∈ o.rf := hx
    rw [h1, List.mem_singleton] at hx'
    subst hx'
    omega
theorem RL.cells {w : World} {base : Nat} {v : Value} {ts : List ((Nat × List (Int × Nat)) × Value)} (x : RL w base v ts) (hl : 0 < ts.length) : ∃ g cap, v = .slice (some ⟨g, 0, none⟩) ts.length cap ∧ base ≤ g ∧ g < w.heap.size ∧ ∀ (j : Nat) (u : Value), (endV ts)[j]? = some u → w.cell? ⟨g, j, none⟩ = some u := by
  rcases x.ow.2 with ⟨_, h0⟩ | ⟨g, cap, cur, hv, hb, hg, hn, hm, hs, ht⟩
  · omega
  · refine ⟨g, cap, hv, hb, (Array.getElem?_eq_some_iff.1 hg).1, fun j u hu => ?_⟩
    rw [cell_of_row w g j _ _ _ hg]
    rw [← ht, List.getElem?_take] at hu
    split at hu
    · simpa using hu
    · cases hu
/-- One row that was told. -/
theorem RL.one {w : World} {base : Nat} {v : Value} {ts : List ((Nat × List (Int × Nat)) × Value)} {s : Nat} {a : Int} {m : Nat} (x : RL w base v ts) (h : ts.map (·.1) = [(s, [(a, m)])]) : ∃ g c g2 c2, v = .slice (some ⟨g, 0, none⟩) 1 c ∧ g < w.heap.size ∧ w.cell? ⟨g, 0, none⟩ = some (.int .u64 (s : Int)) ∧ w.cell? ⟨g, 1, none⟩ = some (.slice (some ⟨g2, 0, none⟩) 1 c2) ∧ g2 < w.heap.size ∧ w.cell? ⟨g2, 0, none⟩ = some (.int .i64 a) ∧ w.cell? ⟨g2, 1, none⟩ = some (.int .u64 (m : Int)) := by
  match ts, h with
  | [((s', l'), v2)], h =>
    simp only [List.map_cons, List.map_nil, List.cons.injEq, and_true, Prod.mk.injEq] at h
    obtain ⟨rfl, rfl⟩ := h
    have ho := x.sr _ (List.mem_singleton.2 rfl)
    obtain ⟨g, cap, hv, _, hg, hc⟩ := x.cells (by simp)
    obtain ⟨ao2, c2, hv2, _, _, hat⟩ := ho.at
    obtain ⟨g2, rfl, _, hg2, e0, e1⟩ := hat 0 (by simp)
    have h1 := hc 1 v2 rfl
    rw [show v2 = .slice (some ⟨g2, 0, none⟩) 1 c2 from hv2] at h1
    exact ⟨g, cap, g2, c2, hv, hg, hc 0 _ rfl, h1, hg2, e0, e1⟩

set_option maxRecDepth 20000 in
set_option maxHeartbeats 1000000 in
theorem reknown_any (w : World) (hT : TB w) :
    Calls Tryz.prog 5 #[] w fun e w' => e = .returned (.bool true) ∧ Below w.heap.size w w' := by
  have hpos : 0 < w.heap.size := hT.size
  have hN : Calls Tryz.prog 18 #[.int .i64 1, .int .i64 64, .int .i64 4, .int .u64 0] w fun e w' => ∃ hb, e = .returned (.tuple #[.pointer (some ⟨hb, 0, none⟩), .int .i64 0]) ∧ HH w w.heap.size w' hb hr0 (fun _ => False) := HH.new 1 4 4 0 (by omega) (by omega) (by omega) (by omega) w hT
  have hM1 : ∀ w1 hb, HH w w.heap.size w1 hb hr0 (fun _ => False) → Calls Tryz.prog 20 #[.pointer (some ⟨hb, 0, none⟩), .int .i64 1, .int .i64 0] w1 fun e w' => e = .returned (.tuple #[.int .u64 1, .int .i64 0]) ∧ HH w w.heap.size w' hb hr1 (fun _ => False) ∧ Kept w1 w' (Its w.heap.size (fun _ => False)) := fun w1 hb x => by
    have := x.make 1 0
    rw [kr1] at this
    exact this
  have hS1 : ∀ w1 hb, HH w w.heap.size w1 hb hr1 (fun _ => False) → Calls Tryz.prog 15 #[.pointer (some ⟨hb, 0, none⟩), .int .u64 1, .int .i64 0, .agg #[.int .i64 2, .int .u64 7]] w1 fun e w' => e = .returned (.tuple #[.agg #[.int .i64 0, .int .u64 0], .int .i64 0]) ∧ HH w w.heap.size w' hb hr2 (fun _ => False) ∧ Kept w1 w' (Its w.heap.size (fun _ => False)) := fun w1 hb x => by
    have := x.setRef 1 (by omega) 0 2 7
    rw [kr2] at this
    exact this
  have hI1 : ∀ w1 hb, HH w w.heap.size w1 hb hr2 (fun _ => False) → Calls Tryz.prog 23 #[.pointer (some ⟨hb, 0, none⟩), .int .u64 1, .int .i64 5] w1 fun e w' => e = .returned (.int .i64 0) ∧ HH w w.heap.size w' hb hr3 (fun _ => False) ∧ Kept w1 w' (Its w.heap.size (fun _ => False)) := fun w1 hb x => by
    have : Calls Tryz.prog 23 #[.pointer (some ⟨hb, 0, none⟩), .int .u64 ((1 : Nat) : Int), .int .i64 5] w1 fun e w' => e = .returned (.int .i64 (hr2.setInR 1 5 : Int)) ∧ HH w w.heap.size w' hb (hr2.setInS 1 5) (fun _ => False) ∧ Kept w1 w' (Its w.heap.size (fun _ => False)) := x.use (fun _ hp => hp.setIn 1 (by omega) 5)
    rw [kr3] at this
    exact this
  have hP := fun w1 hb (x : HH w w.heap.size w1 hb hr3 (fun _ => False)) => x.paint hpos 2 (by omega) (by omega)
  have hRn := fun w1 pb hb (x : PH w w.heap.size w1 pb hb hr3 (PSt.new 2) (fun _ => False)) => (hos_ph w w.heap.size pb hb hr3 (PSt.new 2)).rnew (X := fun _ => False) x
  have hSh : ∀ w1 pb hb xb, RcS (fun w1 X => PH w w.heap.size w1 pb hb hr3 (PSt.new 2) X) w1 w.heap.size xb hb pb (RSt.new 0) (fun _ => False) → Calls Tryz.prog 27 #[.pointer (some ⟨pb, 0, none⟩), .agg #[.int .i64 1, .int .u64 1], .int .i64 5] w1 fun e w' => e = .returned (.tuple #[]) ∧ RcS (fun w1 X => PH w w.heap.size w1 pb hb hr3 pr0 X) w' w.heap.size xb hb pb (RSt.new 0) (fun _ => False) ∧ Kept w1 w' (Its w.heap.size (fun _ => False)) := fun w1 pb hb xb x => x.host (S' := fun w1 X => PH w w.heap.size w1 pb hb hr3 pr0 X) (fun X' y => y.shade 1 1 5)
  have hSc : ∀ w1 pb hb xb, RcS (fun w1 X => PH w w.heap.size w1 pb hb hr3 pr0 X) w1 w.heap.size xb hb pb (RSt.new 0) (fun _ => False) → Calls Tryz.prog 28 #[.pointer (some ⟨pb, 0, none⟩), .int .u64 1] w1 fun e w' => e = .returned (.bool true) ∧ RcS (fun w1 X => PH w w.heap.size w1 pb hb hr3 pr1 X) w' w.heap.size xb hb pb (RSt.new 0) (fun _ => False) ∧ Kept w1 w' (Its w.heap.size (fun _ => False)) := fun w1 pb hb xb x => x.host (S' := fun w1 X => PH w w.heap.size w1 pb hb hr3 pr1 X) (fun X' y => by
    have := y.scan 1 (by omega)
    rw [kr4] at this
    exact this)
  have hBe := fun w1 pb hb xb (x : RcS (fun w1 X => PH w w.heap.size w1 pb hb hr3 pr1 X) w1 w.heap.size xb hb pb (RSt.new 0) (fun _ => False)) => x.begin (hos_ph w w.heap.size pb hb hr3 pr1) 3
  have hnm : ∀ e ∈ pr1.me, namesB e.1 = true := by
    intro e he
    rw [kr7, List.mem_singleton] at he
    rw [he]
    rfl
  have hok : ∀ w1 pb hb xb r, RcS (fun w1 X => PH w w.heap.size w1 pb hb hr3 pr1 X) w1 w.heap.size xb hb pb r (fun _ => False) → hr3.Ok := fun w1 pb hb xb r x => (x.out (hos_ph w w.heap.size pb hb hr3 pr1)).ok
  have hSt := fun w1 pb hb xb i (hi : i ≤ 10) (x : RcS (fun w1 X => PH w w.heap.size w1 pb hb hr3 pr1 X) w1 w.heap.size xb hb pb (stepsN hr3 pr1 (RSt.new 3) i) (fun _ => False)) => x.step (hos_ph w w.heap.size pb hb hr3 pr1) hnm kr8 (RB.steps (hok _ _ _ _ _ x) hnm (RB.new 3) i) (by omega)
  have hRo := fun w1 pb hb xb (x : RcS (fun w1 X => PH w w.heap.size w1 pb hb hr3 pr1 X) w1 w.heap.size xb hb pb (stepsN hr3 pr1 (RSt.new 3) 5) (fun _ => False)) => x.rows (RB.steps (hok _ _ _ _ _ x) hnm (RB.new 3) 5) (by omega)
  rw [kr5] at hRo
  have hSl := fun w1 pb hb xb (x : RcS (fun w1 X => PH w w.heap.size w1 pb hb hr3 pr1 X) w1 w.heap.size xb hb pb (stepsN hr3 pr1 (RSt.new 3) 5) (fun _ => False)) => hSt w1 pb hb xb 5 (by omega) x
  rw [kr6] at hSl
  have HRD : Hid (∀ w1 w2 pb hb xb r, RcS (fun w1 X => PH w w.heap.size w1 pb hb hr3 pr1 X) w1 w.heap.size xb hb pb r (fun _ => False) → Below w1.heap.size w1 w2 → RcS (fun w1 X => PH w w.heap.size w1 pb hb hr3 pr1 X) w2 w.heap.size xb hb pb r (fun _ => False)) := fun w1 w2 pb hb xb r x b => x.read (hos_ph w w.heap.size pb hb hr3 pr1) b
  have HFIN : Hid (∀ w1 pb hb xb r, RcS (fun w1 X => PH w w.heap.size w1 pb hb hr3 pr1 X) w1 w.heap.size xb hb pb r (fun _ => False) → Below w.heap.size w w1) := fun w1 pb hb xb r x => (x.out (hos_ph w w.heap.size pb hb hr3 pr1)).bel
  have HS5 : Hid (∀ i, ((stepsN hr3 pr1 (RSt.new 3) i).step hr3 pr1).2 = stepsN hr3 pr1 (RSt.new 3) (i + 1)) := fun _ => rfl
  have HS0 : Hid (RSt.new 3 = stepsN hr3 pr1 (RSt.new 3) 0) := rfl
  have heq := eqID
  clear hnm hok hpos
  generalize pr1 = p1 at *
  generalize pr0 = p0 at *
  generalize PSt.new 2 = pn at *
  generalize hr3 = h3 at *
  generalize hr2 = h2 at *
  generalize hr1 = h1 at *
  generalize hr0 = h0 at *
  go_enter Tryz.func5, Tryz.ntmps5
  go_wp2_with fail
  refine hN.mono ?_
  rintro e w1 ⟨hb, rfl, x1⟩
  go_wp2_with fail
  refine (hM1 _ _ x1).mono ?_
  rintro e w2 ⟨rfl, x2, k2⟩
  clear x1 k2 hM1 hN
  go_wp2_with fail
  refine (hS1 _ _ x2).mono ?_
  rintro e w3 ⟨rfl, x3, k3⟩
  clear x2 k3 hS1
  go_wp2_with fail
  refine (hI1 _ _ x3).mono ?_
  rintro e w4 ⟨rfl, x4, k4⟩
  clear x3 k4 hI1
  go_wp2_with fail
  refine (hP _ _ x4).mono ?_
  rintro e w5 ⟨pb, rfl, x5, b5⟩
  clear x4 b5 hP
  go_wp2_with fail
  refine (hRn _ _ _ x5).mono ?_
  rintro e w6 ⟨rfl, x6, b6⟩
  clear x5 b6 hRn
  generalize w5.heap.size = xb at *
  go_wp2_with fail
  refine (hSh _ _ _ _ x6).mono ?_
  rintro e w7 ⟨rfl, x7, k7⟩
  clear x6 k7 hSh
  go_wp2_with fail
  refine (hSc _ _ _ _ x7).mono ?_
  rintro e w8 ⟨rfl, x8, k8⟩
  clear x7 k8 hSc
  go_wp2_with fail
  refine (hBe _ _ _ _ x8).mono ?_
  rintro e w9 ⟨rfl, x9, k9⟩
  rw [HS0.out] at x9
  have HX9 : Hid _ := hidden x9
  clear x8 k9 hBe x9
  go_wp2
  go_loopw [7] (fun t wr => ∃ i : Nat, i ≤ 5 ∧ t = .int .i64 (i : Int) ∧ RcS (fun w1 X => PH w w.heap.size w1 pb hb h3 p1 X) wr w.heap.size xb hb pb (stepsN h3 p1 (RSt.new 3) i) (fun _ => False)) (fun t _ => 5 - (intOf t).toNat)
  case atStart => exact ⟨0, by omega, rfl, HX9.out⟩
  case round =>
    clear HX9
    obtain ⟨i, hi, rfl, x⟩ := hrel
    by_cases hlt : (i : Int) < 5
    · have hS := hSt _ _ _ _ i (by omega) x
      rw [HS5.out] at hS
      generalize ((stepsN h3 p1 (RSt.new 3) i).step h3 p1).1 = bb at *
      clear x hRo hSl
      go_wp2_with fail
      refine hS.mono ?_
      rintro e w2 ⟨rfl, x2, k2⟩
      have HX : Hid _ := hidden x2
      clear hS x2 k2
      go_wp2
      go_roundw
      case rel => exact ⟨i + 1, by omega, by go_num, HX.out⟩
      case measure => simp [intOf]; omega
    · have hi5 : i = 5 := by omega
      subst hi5
      have hR := hRo _ _ _ _ x
      have HX : Hid _ := hidden x
      clear x hRo hSt hlt hi
      go_wp2_with fail
      refine hR.mono ?_
      rintro e w2 ⟨v, ts, rfl, rl, hts, b2⟩
      obtain ⟨g, c, g2, c2, rfl, q1, q2, q3, q4, q5, q6⟩ := rl.one hts
      have x2 := HRD.out _ _ _ _ _ _ HX.out b2
      have hS := hSl _ _ _ _ x2
      clear hR rl hts b2 HX x2 hSl
      go_wp2_with fail
      refine hS.mono ?_
      rintro e w3 ⟨rfl, x3, k3⟩
      have HB : Hid _ := hidden (HFIN.out _ _ _ _ _ x3)
      clear hS x3 k3
      go_wp2
      go_ret
      exact ⟨rfl, HB.out⟩

/-- Nothing is marked. -/
theorem sus_new (h : HSt) (M : Nat) (t : Int) (s : Nat) : susO h (PSt.new M) t s = false := by
  unfold susO markR
  cases getC h.cs s <;> rfl
theorem un_steps {h : HSt} (ok : h.Ok) (hl : h.cs.length = 2) (hla : h.last = 2) (M : Nat) : (RSt.new 0).step h (PSt.new M) = (true, ⟨0, 1, none, []⟩) ∧ RSt.step h (PSt.new M) ⟨0, 1, none, []⟩ = (true, ⟨0, 2, none, []⟩) ∧ RSt.step h (PSt.new M) ⟨0, 2, none, []⟩ = (false, ⟨0, 2, none, []⟩) := by
  have hsrt := ok.srt
  have hle := ok.le
  have hb : ∀ r o, beginsB h (PSt.new M) r o = false := fun r o => by unfold beginsB; rw [sus_new]; simp
  match hc : h.cs, hl with
  | [a, b], _ =>
    rw [hc] at hsrt hle
    have h1 := hle a (by simp)
    have h2 := hle b (by simp)
    have h3 := (List.pairwise_cons.1 hsrt).1 b (by simp)
    have ea : a.s = 1 := by omega
    have eb : b.s = 2 := by omega
    have a0 : aboveC h.cs 0 = some a := by rw [hc]; unfold aboveC; rw [List.find?_cons]; simp [ea]
    have a1 : aboveC h.cs 1 = some b := by rw [hc]; unfold aboveC; rw [List.find?_cons]; simp [ea, eb]
    have a2 : aboveC h.cs 2 = none := by rw [hc]; unfold aboveC; rw [List.find?_cons]; simp [ea, eb]
    refine ⟨?_, ?_, ?_⟩
    · unfold RSt.step followR RSt.new moveS
      simp only [a0, hb, ea]
      rfl
    · unfold RSt.step followR moveS
      simp only [a1, hb, eb]
      rfl
    · unfold RSt.step followR RSt.endS
      simp only [a2]
      rfl
theorem m2_u64 {g : Gr} {n : Nat} {h : HSt} (m : M2 g n n 0 h) (hok : h.Ok) (hn2 : n ≤ 60) : ∀ s, ∀ x ∈ refsC h.cs s, x.2 < 18446744073709551616 := by
  intro k x hx
  unfold refsC at hx
  cases hk : getC h.cs k with
  | none => rw [hk] at hx; cases hx
  | some o =>
    rw [hk] at hx
    have hx' : x ∈ o.rf := hx
    obtain ⟨ho, hs⟩ := getC_mem hk
    have hle := hok.le o ho
    rw [hs, m.last] at hle
    obtain ⟨o', h1, h2, h3⟩ := m.at_ (k - 1) (by omega)
    have e : k - 1 + 1 = k := by omega
    rw [e, hk] at h1
    cases h1
    obtain ⟨q, hq, rfl⟩ := List.getElem_of_mem hx'
    have ht := h3 q (by omega) (Or.inl (by omega))
    rw [List.getElem?_eq_getElem hq] at ht
    simp only [Option.some.injEq] at ht
    rw [ht]
    have hr := target_right g (k - 1) q n (by omega) hn2
    generalize targetR g (k - 1) q n = t at *
    unfold rightI at hr
    simp only [Bool.or_eq_true, Bool.and_eq_true, beq_iff_eq, decide_eq_true_eq] at hr
    omega
def grk (v1 v2 : Value) : Gr := ⟨[(v1, [2]), (v2, [1])], [], [12]⟩
theorem ws_nil {α : Type} (w : World) (c : Nat) (f : α → List Value) : WS w (.slice none 0 0) c f [] := ⟨none, 0, rfl, Nat.le_refl _, fun _ => rfl, fun h => absurd rfl h⟩
theorem ws_one {w : World} {b : Nat} {x : Int} (h : w.cell? ⟨b, 0, none⟩ = some (.int .i64 x)) : WS w (.slice (some ⟨b, 0, none⟩) 1 1) 1 cI [x] :=
  ⟨some ⟨b, 0, none⟩, 1, rfl, Nat.le_refl _, (fun e => by cases e), fun _ => ⟨b, 0, rfl, cell_lt h, fun i hi j u hu => by
    have hi' : i < 1 := hi
    obtain rfl : i = 0 := by omega
    match j, hu with
    | 0, hu => cases hu; exact h⟩⟩
theorem grk_gi {w : World} {b0 b1 b2 b3 : Nat} (h0 : w.cell? ⟨b0, 0, none⟩ = some (.int .i64 2)) (h1 : w.cell? ⟨b1, 0, none⟩ = some (.int .i64 1)) (h2 : w.cell? ⟨b2, 0, none⟩ = some (.slice (some ⟨b0, 0, none⟩) 1 1)) (h2' : w.cell? ⟨b2, 1, none⟩ = some (.slice (some ⟨b1, 0, none⟩) 1 1)) (h3 : w.cell? ⟨b3, 0, none⟩ = some (.int .i64 12)) :
    GI w (.slice (some ⟨b2, 0, none⟩) 2 2) (.slice none 0 0) (.slice (some ⟨b3, 0, none⟩) 1 1) (grk (.slice (some ⟨b0, 0, none⟩) 1 1) (.slice (some ⟨b1, 0, none⟩) 1 1)) := by
  refine ⟨⟨some ⟨b2, 0, none⟩, 2, rfl, Nat.le_refl _, (fun e => by cases e), fun _ => ⟨b2, 0, rfl, cell_lt h2, fun i hi j u hu => ?_⟩⟩, fun x hx => ?_, ws_nil w 1 cB, ws_one h3, by show 0 ≤ _; omega, by show 1 ≤ _; omega⟩
  · have hi' : i < 2 := hi
    rcases (by omega : i = 0 ∨ i = 1) with rfl | rfl
    · match j, hu with
      | 0, hu => cases hu; exact h2
    · match j, hu with
      | 0, hu => cases hu; exact h2'
  · have hx' : x ∈ [((.slice (some ⟨b0, 0, none⟩) 1 1 : Value), ([2] : List Int)), (.slice (some ⟨b1, 0, none⟩) 1 1, [1])] := hx
    simp only [List.mem_cons, List.not_mem_nil, or_false] at hx'
    rcases hx' with rfl | rfl
    · exact ws_one h0
    · exact ws_one h1

end Go.Proofs.YtlabdbfmfejkaaaGreatDoor
