import Derived.Test.YtdafpfdmnccelaaDoorPaKP
import Derived.Test.YtdafpfdmnccelaaDoorPick
import Derived.Test.YtdafpfdmnccelaaDoorWsl
import Derived.Test.YtdafpfdmnccelaaDoorHpYP
/- A graph that came in: Size, Target, Dist. -/
/- The heap of a graph, reckoned. -/
/- Both heaps of a graph. -/
/- A heap, its paint and what the plain heap says last; the law's steps; a graph that came in. -/
namespace Go.Proofs.YtdafpfdmnccelaaDoor
open Go.ChangeShapes Go.WideShapes Go.ChangeAt Go.RowKit Go.Deep

/-- A graph: of each object the slice of its references and what it holds; which lead out; distances. -/
structure Gr where
  refs : List (Value × List Int)
  out : List Bool
  inn : List Int
def cI (z : Int) : List Value := [.int .i64 z]
def cB (b : Bool) : List Value := [.bool b]
def cR (x : Value × List Int) : List Value := [x.1]
/-- It came in as these three slices. -/
structure GI (w : World) (vr vo vi : Value) (g : Gr) : Prop where
  r : WS w vr 1 cR g.refs
  rs : ∀ x ∈ g.refs, WS w x.1 1 cI x.2
  o : WS w vo 1 cB g.out
  i : WS w vi 1 cI g.inn
  ol : g.out.length ≤ 9223372036854775807
  il : g.inn.length ≤ 9223372036854775807
section
variable {w w' : World} {vr vo vi : Value} {g : Gr}
theorem GI.below (x : GI w vr vo vi g) (hb : Below w.heap.size w w') : GI w' vr vo vi g := ⟨x.r.below hb, fun y hy => (x.rs y hy).below hb, x.o.below hb, x.i.below hb, x.ol, x.il⟩
theorem WS.one {α : Type} {f : α → Value} {ao : Option Addr} {n cap : Nat} {xs : List α} (h : WS w (.slice ao n cap) 1 (fun x => [f x]) xs) (i : Nat) (hi : i < xs.length) : ∃ b off, ao = some ⟨b, off, none⟩ ∧ b < w.heap.size ∧ w.cell? ⟨b, off + i, none⟩ = some (f xs[i]) := by
  obtain ⟨b, off, h1, h2, h3⟩ := h.at i hi
  have := h3 0 _ rfl
  rw [Nat.mul_one, Nat.add_zero] at this
  exact ⟨b, off, h1, h2, this⟩
theorem GI.shape (x : GI w vr vo vi g) : ∃ a1 c1 a2 c2 a3 c3, vr = .slice a1 g.refs.length c1 ∧ vo = .slice a2 g.out.length c2 ∧ vi = .slice a3 g.inn.length c3 := by
  obtain ⟨a1, c1, e1, _⟩ := x.r.slice
  obtain ⟨a2, c2, e2, _⟩ := x.o.slice
  obtain ⟨a3, c3, e3, _⟩ := x.i.slice
  exact ⟨a1, c1, a2, c2, a3, c3, e1, e2, e3⟩

set_option maxRecDepth 20000 in
set_option maxHeartbeats 400000 in
theorem size_any (x : GI w vr vo vi g) (mo : Nat) :
    Calls Tryd.prog 26 #[.agg #[vr, vo, vi], .int .i64 (mo : Int)] w fun e w' => e = .returned (.int .i64 ((min g.refs.length mo : Nat) : Int)) ∧ Below w.heap.size w w' := by
  obtain ⟨a1, c1, a2, c2, a3, c3, rfl, rfl, rfl⟩ := x.shape
  clear x
  generalize g.refs.length = n at *
  go_enter Tryd.func26, Tryd.ntmps26
  go_wp2
  go_ret
  exact ⟨congrArg (fun z => Ending.returned (.int .i64 z)) (by omega), bel_alloc _ _⟩
end

/-- What a reference leads to. -/
def rawR (g : Gr) (i k : Nat) : Int := ((g.refs.getD i (.bool false, [])).2).getD k 0
def outB (g : Gr) (i k : Nat) : Bool := if 0 < g.out.length then g.out.getD (pickN (7 * (i : Int) + (k : Int)) g.out.length) false else false
def targetF (raw : Int) (ob : Bool) (n : Nat) : Int × Nat :=
  if raw.tmod 5 = 0 then (0, 0) else if ob then (2 + (pickN raw 2 : Int), 1 + pickN (wrap64 (raw.tdiv 2)) 4) else (1, 1 + pickN raw n)
def targetR (g : Gr) (i k n : Nat) : Int × Nat := targetF (rawR g i k) (outB g i k) n
set_option maxRecDepth 20000 in
set_option maxHeartbeats 2000000 in
theorem target_walk (w : World) (i k n nr nk no ni c1 c2 c3 c4 b1 o1 b4 o4 : Nat) (a2 a3 : Option Addr) (raw : Int) (ob : Bool) (hi : i < nr) (hk : k < nk) (hi2 : i < 60) (hk2 : k < 7) (hn : 0 < n) (hn2 : n ≤ 60)
    (hl1 : b1 < w.heap.size) (d1 : w.cell? ⟨b1, o1 + i, none⟩ = some (.slice (some ⟨b4, o4, none⟩) nk c4)) (hl4 : b4 < w.heap.size) (d4 : w.cell? ⟨b4, o4 + k, none⟩ = some (.int .i64 raw)) (hol : no ≤ 9223372036854775807)
    (hov : (0 < no ∧ ∃ b2 o2, a2 = some ⟨b2, o2, none⟩ ∧ b2 < w.heap.size ∧ w.cell? ⟨b2, o2 + pickN (7 * (i : Int) + (k : Int)) no, none⟩ = some (.bool ob)) ∨ (no = 0 ∧ ob = false)) :
    Calls Tryd.prog 29 #[.agg #[.slice (some ⟨b1, o1, none⟩) nr c1, .slice a2 no c2, .slice a3 ni c3], .int .i64 (i : Int), .int .i64 (k : Int), .int .i64 (n : Int)] w fun e w' => e = .returned (.agg #[.int .i64 (targetF raw ob n).1, .int .u64 ((targetF raw ob n).2 : Int)]) ∧ Below w.heap.size w w' := by
  have hki : (k : Int) < (nk : Int) := by omega
  have hii : (i : Int) < (nr : Int) := by omega
  have hi3 : (i : Int) < 60 := by omega
  have hk3 : (k : Int) < 7 := by omega
  have hP2 := fun W => pick_any raw 2 (by omega) (by omega) W
  have hP4 := fun W => pick_any (wrap64 (raw.tdiv 2)) 4 (by omega) (by omega) W
  have hPn := fun W => pick_any raw n hn (by omega) W
  have l2 := pickN_lt raw 2 (by omega)
  have l4 := pickN_lt (wrap64 (raw.tdiv 2)) 4 (by omega)
  have ln := pickN_lt raw n hn
  have hPo : 0 < no → ∀ W m, Calls Tryd.prog 11 #[.int .i64 (7 * (i : Int) + (k : Int)), .int .i64 (no : Int)] (World.drewN W m) fun e w' => e = .returned (.int .i64 (pickN (7 * (i : Int) + (k : Int)) no : Int)) ∧ w' = World.drewN W m := fun h W m => (pick_any _ no h hol _).mono (fun _ _ ⟨a, b⟩ => ⟨a, b.symm⟩)
  have hpl := fun h => pickN_lt (7 * (i : Int) + (k : Int)) no h
  have HTF : Hid (∀ q, targetF raw ob n = q ↔ targetF raw ob n = q) := fun _ => Iff.rfl
  have h70 : (0 : Int) ≤ 7 * (i : Int) := by omega
  have h71 : 7 * (i : Int) + (k : Int) ≤ 600 := by omega
  clear HTF
  generalize pickN (7 * (i : Int) + (k : Int)) no = pk at *
  go_enter Tryd.func29, Tryd.ntmps29
  go_upto_region 2 with fail
  obtain ⟨w2, hw2⟩ : ∃ z, z = (w.alloc (.cells #[.slice (some ⟨b1, o1, none⟩) nr c1, .slice a2 no c2, .slice a3 ni c3] 29)).alloc (.cells #[.int .i64 0, .int .u64 0] 51) := ⟨_, rfl⟩
  rw [← hw2]
  have bw2 : Below w.heap.size w w2 := by rw [hw2]; exact (bel_alloc _ _).trans ((bel_alloc _ _).mono (by simp))
  have q1 : ∀ m, (w2.drewN m).cell? ⟨w.heap.size, 1, none⟩ = some (.slice a2 no c2) := fun m => by rw [hw2]; simp
  have q2 : w2.cell? ⟨w.heap.size + 1, 0, none⟩ = some (.int .i64 0) := by rw [hw2]; simp
  have q3 : w2.cell? ⟨w.heap.size + 1, 1, none⟩ = some (.int .u64 0) := by rw [hw2]; simp
  have q4 : ∀ j, w2.frozen? ⟨w.heap.size + 1, j, none⟩ = false := fun j => by rw [hw2]; simp
  have z2 : w2.heap.size = w.heap.size + 2 := by rw [hw2]; simp
  have q0 := q1 0
  clear hw2 d1 d4 hl1 hl4
  go_cut [10] from 19 to 36 (fun t wc => t = .bool ob ∧ ∃ m, wc = w2.drewN m)
  case first =>
    rcases hov with ⟨h0, b2, o2, rfl, hl2, d2⟩ | ⟨rfl, rfl⟩
    · have hPo1 := hPo h0 w2
      have hpl1 : (pk : Int) < (no : Int) := by have := hpl h0; omega
      have d2' := fun m => ((bw2.trans ((below_drewN0 w2 m).mono bw2.size)).cell (p := ⟨b2, o2 + pk, none⟩) hl2).trans d2
      have h0i : (0 : Int) < (no : Int) := by omega
      clear hPo hpl hP2 hP4 hPn d2 z2 q2 q3 q4 bw2 ln l2 l4
      go_quiet (first | (go_at_call 11; exact Calls.quiet_of_same (hPo1 _)))
      go_wp2
      go_meet
      exact ⟨rfl, _, rfl⟩
    · clear hPo hpl hP2 hP4 hPn z2 q2 q3 q4 bw2 ln l2 l4
      go_quiet (fail)
      go_wp2
      go_meet
      exact ⟨rfl, _, rfl⟩
  case rest =>
    obtain ⟨rfl, m, hwc⟩ := hcut
    have b3 : Below w.heap.size w wc := by rw [hwc]; exact bw2.trans ((below_drewN0 w2 m).mono bw2.size)
    have r2 : wc.cell? ⟨w.heap.size + 1, 0, none⟩ = some (.int .i64 0) := by rw [hwc]; exact q2
    have r3 : wc.cell? ⟨w.heap.size + 1, 1, none⟩ = some (.int .u64 0) := by rw [hwc]; exact q3
    have r4 : ∀ j, wc.frozen? ⟨w.heap.size + 1, j, none⟩ = false := fun j => by rw [hwc]; exact q4 j
    have z3 : wc.heap.size = w.heap.size + 2 := by rw [hwc]; exact z2
    clear hwc q0 q1 q2 q3 q4 z2 bw2 hov hPo hpl
    have hbs : ∀ x y : Value, Below w.heap.size w ((wc.setCell ⟨w.heap.size + 1, 0, none⟩ x).setCell ⟨w.heap.size + 1, 1, none⟩ y) := fun x y => b3.trans (((Kept.setCell wc ⟨w.heap.size + 1, 0, none⟩ x).trans (Kept.setCell _ ⟨w.heap.size + 1, 1, none⟩ y) (fun _ _ e => e)).below (by omega) (fun i hi e => by have e' : i = w.heap.size + 1 := e; omega))
    have HBS : Hid _ := hidden hbs
    clear hbs
    by_cases h5 : raw.tmod 5 = 0
    · have h5' : (raw.tmod 5 == 0) = true := by simpa using h5
      clear hP2 hP4 hPn
      have HE : Hid (targetF raw ob n = (0, 0)) := by
        have : targetF raw ob n = (0, 0) := by unfold targetF; rw [if_pos h5]
        exact this
      go_wp2
      refine bodyPost_ret (v := .agg #[.int .i64 0, .int .u64 0]) (by simp [results, Tryd.results29, go_sem, *]) rfl ⟨by rw [HE.out]; rfl, HBS.out _ _⟩
    · cases ob with
      | true =>
        have HE : Hid (targetF raw true n = (2 + (pickN raw 2 : Int), 1 + pickN (wrap64 (raw.tdiv 2)) 4)) := by
          have : targetF raw true n = (2 + (pickN raw 2 : Int), 1 + pickN (wrap64 (raw.tdiv 2)) 4) := by unfold targetF; rw [if_neg h5, if_pos rfl]
          exact this
        generalize pickN raw 2 = p2 at *
        generalize pickN (wrap64 (raw.tdiv 2)) 4 = p4 at *
        clear hPn ln
        go_wp2_with fail
        refine (hP2 _).mono ?_
        rintro e _ ⟨rfl, rfl⟩
        go_wp2_with fail
        refine (hP4 _).mono ?_
        rintro e _ ⟨rfl, rfl⟩
        clear hP2 hP4
        go_wp2
        refine bodyPost_ret (v := .agg #[.int .i64 (2 + (p2 : Int)), .int .u64 ((1 + p4 : Nat) : Int)]) (by simp [results, Tryd.results29, go_sem, *]) rfl ⟨by rw [HE.out], HBS.out _ _⟩
      | false =>
        have HE : Hid (targetF raw false n = (1, 1 + pickN raw n)) := by
          have : targetF raw false n = (1, 1 + pickN raw n) := by unfold targetF; rw [if_neg h5, if_neg (by simp)]
          exact this
        generalize pickN raw n = pn at *
        clear hP2 hP4 l2 l4
        go_wp2_with fail
        refine (hPn _).mono ?_
        rintro e _ ⟨rfl, rfl⟩
        clear hPn
        go_wp2
        refine bodyPost_ret (v := .agg #[.int .i64 1, .int .u64 ((1 + pn : Nat) : Int)]) (by simp [results, Tryd.results29, go_sem, *]) rfl ⟨by rw [HE.out], HBS.out _ _⟩

def distF (z : Int) : Int := max 0 ((pickN z 14 : Int) - 6)
def distR (g : Gr) (i : Nat) : Int := if g.inn.length = 0 then 0 else distF (g.inn.getD (i % g.inn.length) 0)
set_option maxRecDepth 20000 in
set_option maxHeartbeats 2000000 in
theorem dist_walk (w : World) (i ni c1 c2 c3 nr no b3 o3 : Nat) (a1 a2 : Option Addr) (z : Int) (h0 : 0 < ni) (hn : ni ≤ 9223372036854775807)
    (hl3 : b3 < w.heap.size) (d3 : w.cell? ⟨b3, o3 + i % ni, none⟩ = some (.int .i64 z)) :
    Calls Tryd.prog 33 #[.agg #[.slice a1 nr c1, .slice a2 no c2, .slice (some ⟨b3, o3, none⟩) ni c3], .int .i64 (i : Int)] w fun e w' => e = .returned (.int .i64 (distF z)) ∧ Below w.heap.size w w' := by
  have hne : ((ni : Int) == 0) = false := by rw [beq_eq_false_iff_ne]; omega
  have hni : ¬ (ni : Int) = 0 := by omega
  have hml : ((i % ni : Nat) : Int) < (ni : Int) := by have := Nat.mod_lt i h0; omega
  have hP := fun W m => (pick_any z 14 (by omega) (by omega) (World.drewN W m)).mono (fun (_ : Ending) (w' : World) ⟨a, b⟩ => (⟨a, b.symm⟩ : _ ∧ w' = World.drewN W m))
  have hpl := pickN_lt z 14 (by omega)
  have hE : distF z = max 0 ((pickN z 14 : Int) - 6) := rfl
  rw [hE]
  clear hE
  generalize pickN z 14 = pz at *
  generalize hj : i % ni = j at *
  have hjt : (i : Int).tmod (ni : Int) = (j : Int) := by rw [← hj]; rfl
  have hjm : (i : Int) % (ni : Int) = (j : Int) := by rw [← hj]; rfl
  clear hj
  have hb : ∀ o m, Below w.heap.size w ((w.alloc o).drewN m) := fun o m => (bel_alloc w o).trans ((below_drewN0 _ m).mono (by simp))
  have d3' := fun o m => ((hb o m).cell (p := ⟨b3, o3 + j, none⟩) hl3).trans d3
  have HB : Hid _ := hidden hb
  clear d3 hb
  go_enter Tryd.func33, Tryd.ntmps33
  go_upto_region 3 with fail
  have hP1 := hP (w.alloc (.cells #[.slice a1 nr c1, .slice a2 no c2, .slice (some ⟨b3, o3, none⟩) ni c3] 29))
  clear hP
  go_quiet (first | (go_at_call 11; exact Calls.quiet_of_same (hP1 _)))
  go_wp2
  go_ret
  exact ⟨rfl, HB.out _ _⟩

set_option maxRecDepth 20000 in
set_option maxHeartbeats 400000 in
theorem dist_none (w : World) (i nr no c1 c2 c3 : Nat) (a1 a2 a3 : Option Addr) :
    Calls Tryd.prog 33 #[.agg #[.slice a1 nr c1, .slice a2 no c2, .slice a3 0 c3], .int .i64 (i : Int)] w fun e w' => e = .returned (.int .i64 0) ∧ Below w.heap.size w w' := by
  go_enter Tryd.func33, Tryd.ntmps33
  go_wp2
  go_ret
  exact ⟨rfl, bel_alloc _ _⟩
section
variable {w w' : World} {vr vo vi : Value} {g : Gr}
theorem target_any (x : GI w vr vo vi g) (i k n : Nat) (hi : i < g.refs.length) (hk : k < g.refs[i].2.length) (hi2 : i < 60) (hk2 : k < 7) (hn : 0 < n) (hn2 : n ≤ 60) :
    Calls Tryd.prog 29 #[.agg #[vr, vo, vi], .int .i64 (i : Int), .int .i64 (k : Int), .int .i64 (n : Int)] w fun e w' => e = .returned (.agg #[.int .i64 (targetR g i k n).1, .int .u64 ((targetR g i k n).2 : Int)]) ∧ Below w.heap.size w w' := by
  have hin := x.rs _ (List.getElem_mem hi)
  obtain ⟨a1, c1, a2, c2, a3, c3, rfl, rfl, rfl⟩ := x.shape
  obtain ⟨b1, o1, rfl, hl1, d1⟩ := WS.one (f := fun y : Value × List Int => y.1) x.r i hi
  have hraw : rawR g i k = g.refs[i].2[k] := by
    unfold rawR
    have e1 : g.refs.getD i (.bool false, []) = g.refs[i] := by simp [List.getD_eq_getElem?_getD, List.getElem?_eq_getElem hi]
    rw [e1]
    simp [List.getD_eq_getElem?_getD, List.getElem?_eq_getElem hk]
  obtain ⟨a4, c4, e4, _⟩ := hin.slice
  rw [e4] at hin d1
  obtain ⟨b4, o4, rfl, hl4, d4⟩ := WS.one (f := fun z : Int => Value.int .i64 z) hin k hk
  rw [← hraw] at d4
  refine target_walk w i k n _ _ _ _ c1 c2 c3 c4 b1 o1 b4 o4 a2 a3 (rawR g i k) (outB g i k) hi hk hi2 hk2 hn hn2 hl1 d1 hl4 d4 x.ol ?_
  by_cases h0 : 0 < g.out.length
  · have hp := pickN_lt (7 * (i : Int) + (k : Int)) g.out.length h0
    obtain ⟨b2, o2, e2, hl2, d2⟩ := WS.one (f := fun z : Bool => Value.bool z) x.o _ hp
    refine Or.inl ⟨h0, b2, o2, e2, hl2, ?_⟩
    rw [d2]
    have : outB g i k = g.out[pickN (7 * (i : Int) + (k : Int)) g.out.length] := by
      unfold outB
      rw [if_pos h0, List.getD_eq_getElem?_getD, List.getElem?_eq_getElem hp]
      rfl
    rw [this]
  · exact Or.inr ⟨by omega, by unfold outB; rw [if_neg h0]⟩
theorem dist_any (x : GI w vr vo vi g) (i : Nat) :
    Calls Tryd.prog 33 #[.agg #[vr, vo, vi], .int .i64 (i : Int)] w fun e w' => e = .returned (.int .i64 (distR g i)) ∧ Below w.heap.size w w' := by
  obtain ⟨a1, c1, a2, c2, a3, c3, rfl, rfl, rfl⟩ := x.shape
  unfold distR
  by_cases h0 : g.inn.length = 0
  · rw [if_pos h0, h0]
    exact dist_none w i _ _ c1 c2 c3 a1 a2 a3
  · rw [if_neg h0]
    have hp := Nat.mod_lt i (show 0 < g.inn.length by omega)
    obtain ⟨b3, o3, rfl, hl3, d3⟩ := WS.one (f := fun z : Int => Value.int .i64 z) x.i _ hp
    have e : g.inn.getD (i % g.inn.length) 0 = g.inn[i % g.inn.length] := by
      rw [List.getD_eq_getElem?_getD, List.getElem?_eq_getElem hp]
      rfl
    rw [e]
    exact dist_walk w i _ c1 c2 c3 _ _ b3 o3 a1 a2 _ (by omega) x.il hl3 d3
end

end Go.Proofs.YtdafpfdmnccelaaDoor

namespace Go.Proofs.YtdafpfdmnccelaaDoor
open Go.RowKit

/-- How many blocks are free. -/
def freeB (bs : List Bk) : Nat := bs.countP (fun x => x.c == 0)
theorem freeB_set : ∀ (bs : List Bk) (n : Nat) (y : Bk), freeB bs ≤ freeB (bs.set n y) + 1
  | [], _, _ => by simp [freeB]
  | x :: bs, 0, y => by
    unfold freeB
    rw [List.set_cons_zero, List.countP_cons, List.countP_cons]
    split <;> split <;> omega
  | x :: bs, n + 1, y => by
    have := freeB_set bs n y
    unfold freeB at *
    rw [List.set_cons_succ, List.countP_cons, List.countP_cons]
    split <;> omega
theorem alloc_free {bs : List Bk} (hO : AO bs) (s : Int) (h1 : 1 ≤ s) (h2 : s ≤ 16) (hf : 0 < freeB bs) : (allocR bs s).2 = 0 ∧ freeB bs ≤ freeB (allocL bs s) + 1 := by
  have hk : IsC (classN s) := by
    have h : s = 1 ∨ s = 2 ∨ s = 3 ∨ s = 4 ∨ s = 5 ∨ s = 6 ∨ s = 7 ∨ s = 8 ∨ s = 9 ∨ s = 10 ∨ s = 11 ∨ s = 12 ∨ s = 13 ∨ s = 14 ∨ s = 15 ∨ s = 16 := by omega
    unfold IsC
    rcases h with rfl | rfl | rfl | rfl | rfl | rfl | rfl | rfl | rfl | rfl | rfl | rfl | rfl | rfl | rfl | rfl <;> decide
  have hk0 : ¬ classN s = 0 := by have := hk.pos; omega
  have hp : ∃ n, pickB (classN s) bs = some n := by
    unfold pickB
    cases hfi : firstB (classN s) (classN s) bs with
    | some n => exact ⟨n, rfl⟩
    | none =>
      obtain ⟨x, hx, hc⟩ := List.countP_pos_iff.1 hf
      have hc : x.c = 0 := by simpa using hc
      have ht : x.t = 0 := by
        rcases hO x hx with h | h
        · exact h.2
        · have := h.1.pos
          omega
      have hb : isB 0 (classN s) x = true := by
        unfold isB roomN
        rw [if_pos (Or.inl hc), ht, pc_zero, hc]
        have h16 := (isC_div hk).1
        have h17 : 0 < 16 / classN s - 0 := by rw [Nat.sub_zero]; exact h16
        simp only [beq_self_eq_true, Bool.true_and, decide_eq_true_eq]
        exact h17
      cases hfj : firstB 0 (classN s) bs with
      | some n => exact ⟨n, rfl⟩
      | none =>
        unfold firstB at hfj
        rw [List.findIdx?_eq_none_iff] at hfj
        rw [hfj x hx] at hb
        cases hb
  obtain ⟨n, hn⟩ := hp
  unfold allocR allocL
  rw [if_neg hk0, if_neg hk0, hn]
  exact ⟨rfl, freeB_set _ _ _⟩

theorem getC_upd (cs : List Oc) (s t : Nat) (f : Oc → Oc) (hf : ∀ o, (f o).s = o.s) : getC (updC cs s f) t = (getC cs t).map (fun o => if o.s = s then f o else o) := by
  unfold getC updC
  rw [List.find?_map]
  congr 2
  funext o
  simp only [Function.comp]
  split
  · rw [hf]
  · rfl
theorem getC_app {cs : List Oc} {o : Oc} (h : ∀ p ∈ cs, p.s ≠ o.s) (t : Nat) : getC (cs ++ [o]) t = if t = o.s then some o else getC cs t := by
  unfold getC
  rw [List.find?_append]
  by_cases e : t = o.s
  · rw [if_pos e]
    have : cs.find? (fun p => p.s == t) = none := by
      rw [List.find?_eq_none]
      intro p hp
      rw [e]
      simpa using h p hp
    rw [this]
    simp [e]
  · rw [if_neg e]
    have : ([o].find? (fun p => p.s == t)) = none := by
      rw [List.find?_eq_none]
      intro p hp
      rw [List.mem_singleton] at hp
      subst hp
      simpa using fun h => e h.symm
    rw [this]
    simp

/-- How many references an object has. -/
def fl (g : Gr) (j : Nat) : Nat := min ((g.refs.getD j (.bool false, [])).2.length) 7
theorem fl_at {g : Gr} {j : Nat} (h : j < g.refs.length) : fl g j = min (g.refs[j].2.length) 7 := by
  unfold fl
  have e1 : g.refs.getD j (.bool false, []) = g.refs[j] := by simp [List.getD_eq_getElem?_getD, List.getElem?_eq_getElem h]
  rw [e1]
/-- So many objects are made. -/
structure M1 (g : Gr) (i : Nat) (h : HSt) : Prop where
  node : h.node = 1
  most : h.most = 64
  last : h.last = i
  len : h.cs.length = i
  free : 256 ≤ freeB h.bs + i
  at_ : ∀ j, j < i → ∃ o, getC h.cs (j + 1) = some o ∧ o.rf.length = fl g j
theorem M1.step {g : Gr} {i : Nat} {h : HSt} (H : h.Ok) (m : M1 g i h) (hi : i < 60) : h.makeR (fl g i : Int) 0 = (i + 1, 0) ∧ M1 g (i + 1) (h.makeS (fl g i : Int) 0) := by
  have hf : fl g i ≤ 7 := by unfold fl; omega
  obtain ⟨a1, a2⟩ := alloc_free H.ao (1 + (fl g i : Int) + 0) (by omega) (by omega) (by have := m.free; omega)
  have hm : h.makeR (fl g i : Int) 0 = (i + 1, 0) := by
    unfold HSt.makeR
    have hl := m.len
    have hmo := m.most
    have hla := m.last
    rw [if_pos (by omega), if_neg (by omega), if_neg (by omega), if_pos a1, hla]
  refine ⟨hm, ?_⟩
  unfold HSt.makeS
  rw [if_pos (by rw [hm])]
  have hs : ∀ p ∈ h.cs, p.s ≠ (h.newO (fl g i : Int) 0).s := fun p hp e => by
    have := (H.le p hp).2
    have e2 : p.s = h.last + 1 := e
    omega
  refine ⟨m.node, m.most, by show h.last + 1 = i + 1; rw [m.last], by simp [m.len], by have := m.free; show 256 ≤ freeB (allocL h.bs _) + (i + 1); omega, fun j hj => ?_⟩
  show ∃ o, getC (h.cs ++ [h.newO (fl g i : Int) 0]) (j + 1) = some o ∧ o.rf.length = fl g j
  rw [getC_app hs]
  have e3 : (h.newO (fl g i : Int) 0).s = i + 1 := by show h.last + 1 = i + 1; rw [m.last]
  rw [e3]
  by_cases e : j + 1 = i + 1
  · rw [if_pos e]
    have e4 : j = i := by omega
    subst e4
    exact ⟨_, rfl, by show (List.replicate (fl g j : Int).toNat ((0 : Int), 0)).length = _; simp⟩
  · rw [if_neg e]
    exact m.at_ j (by omega)
/-- References are set: of the objects ahead of i all, of i those ahead of k. -/
structure M2 (g : Gr) (n i k : Nat) (h : HSt) : Prop where
  node : h.node = 1
  most : h.most = 64
  last : h.last = n
  len : h.cs.length = n
  at_ : ∀ j, j < n → ∃ o, getC h.cs (j + 1) = some o ∧ o.rf.length = fl g j ∧ ∀ m, m < fl g j → (j < i ∨ (j = i ∧ m < k)) → o.rf[m]? = some (targetR g j m n)
  dis : ∀ j, j < i → ∃ o, getC h.cs (j + 1) = some o ∧ (o.d : Int) = distR g j
  free : 256 ≤ freeB h.bs + n
theorem M1.m2 {g : Gr} {n : Nat} {h : HSt} (m : M1 g n h) : M2 g n 0 0 h := by
  refine ⟨m.node, m.most, m.last, m.len, fun j hj => ?_, (fun j hj => absurd hj (Nat.not_lt_zero j)), m.free⟩
  obtain ⟨o, h1, h2⟩ := m.at_ j hj
  exact ⟨o, h1, h2, fun q hq e => by omega⟩
theorem target_right (g : Gr) (i k n : Nat) (hn : 0 < n) (hn2 : n ≤ 60) : rightI (targetR g i k n) = true := by
  unfold targetR targetF
  split
  · rfl
  · have h2 := pickN_lt (rawR g i k) 2 (by omega)
    have h4 := pickN_lt (wrap64 ((rawR g i k).tdiv 2)) 4 (by omega)
    have h5 := pickN_lt (rawR g i k) n hn
    split
    · apply rightI_yes
      exact Or.inr ⟨by omega, by omega, by omega, by omega⟩
    · apply rightI_yes
      exact Or.inr ⟨by omega, by omega, by omega, by omega⟩
theorem M2.ref {g : Gr} {n i k : Nat} {h : HSt} (m : M2 g n i k h) (hi : i < n) (hk : k < fl g i) (hn2 : n ≤ 60) : M2 g n i (k + 1) (h.setRefS (i + 1) (k : Int) (targetR g i k n)) := by
  obtain ⟨o, h1, h2, h3⟩ := m.at_ i hi
  have hr : (refR h.cs (i + 1) (k : Int)).2 = 0 := by
    unfold refR
    rw [h1]
    simp only
    rw [if_pos (by omega)]
  unfold HSt.setRefS
  rw [if_pos ⟨target_right g i k n (by omega) hn2, hr⟩]
  refine ⟨m.node, m.most, m.last, by show (updC h.cs _ _).length = n; rw [updC_len]; exact m.len, fun j hj => ?_, fun j hj => ?_, m.free⟩
  rotate_left
  · obtain ⟨o, q1, q2⟩ := m.dis j hj
    show ∃ o, getC (updC h.cs (i + 1) (fun o => o.setR (k : Int).toNat (targetR g i k n))) (j + 1) = some o ∧ _
    rw [getC_upd h.cs (i + 1) (j + 1) (fun o => o.setR (k : Int).toNat (targetR g i k n)) (fun _ => rfl), q1]
    simp only [Option.map_some]
    refine ⟨_, rfl, ?_⟩
    split <;> exact q2
  show ∃ o, getC (updC h.cs (i + 1) (fun o => o.setR (k : Int).toNat (targetR g i k n))) (j + 1) = some o ∧ _
  rw [getC_upd h.cs (i + 1) (j + 1) (fun o => o.setR (k : Int).toNat (targetR g i k n)) (fun _ => rfl)]
  obtain ⟨p, p1, p2, p3⟩ := m.at_ j hj
  have hs := (getC_mem p1).2
  rw [p1]
  by_cases e : j = i
  · subst e
    simp only [Option.map_some, if_pos hs]
    refine ⟨_, rfl, ?_, fun q hq hc => ?_⟩
    · simpa [Oc.setR] using p2
    · show (p.rf.set (k : Int).toNat (targetR g j k n))[q]? = _
      rw [Int.toNat_natCast]
      by_cases e2 : q = k
      · subst e2
        rw [List.getElem?_set_self (by omega)]
      · rw [List.getElem?_set_ne (fun h => e2 h.symm)]
        exact p3 q hq (by omega)
  · have hne : ¬ p.s = i + 1 := by omega
    simp only [Option.map_some, if_neg hne]
    exact ⟨_, rfl, p2, fun q hq hc => p3 q hq (by omega)⟩
theorem dist_le (g : Gr) (i : Nat) : 0 ≤ distR g i ∧ distR g i ≤ 40 := by
  unfold distR
  split
  · omega
  · unfold distF
    have := pickN_lt (g.inn.getD (i % g.inn.length) 0) 14 (by omega)
    omega
theorem M2.din {g : Gr} {n i : Nat} {h : HSt} (m : M2 g n i (fl g i) h) (hi : i < n) : M2 g n (i + 1) 0 (h.setInS (i + 1) (distR g i)) := by
  obtain ⟨d1, d2⟩ := dist_le g i
  obtain ⟨o0, o1, _⟩ := m.at_ i hi
  unfold HSt.setInS
  rw [if_pos ⟨d1, d2, by rw [o1]; rfl⟩]
  refine ⟨m.node, m.most, m.last, by show (updC h.cs _ _).length = n; rw [updC_len]; exact m.len, fun j hj => ?_, fun j hj => ?_, m.free⟩
  · show ∃ o, getC (updC h.cs (i + 1) (fun o => o.setD (distR g i).toNat)) (j + 1) = some o ∧ _
    rw [getC_upd h.cs (i + 1) (j + 1) (fun o => o.setD (distR g i).toNat) (fun _ => rfl)]
    obtain ⟨p, p1, p2, p3⟩ := m.at_ j hj
    rw [p1]
    simp only [Option.map_some]
    refine ⟨_, rfl, ?_, fun q hq hc => ?_⟩
    · split
      · exact p2
      · exact p2
    · have : (if p.s = i + 1 then p.setD (distR g i).toNat else p).rf = p.rf := by split <;> rfl
      rw [this]
      refine p3 q hq ?_
      by_cases e : j = i
      · subst e; exact Or.inr ⟨rfl, hq⟩
      · omega
  · show ∃ o, getC (updC h.cs (i + 1) (fun o => o.setD (distR g i).toNat)) (j + 1) = some o ∧ _
    rw [getC_upd h.cs (i + 1) (j + 1) (fun o => o.setD (distR g i).toNat) (fun _ => rfl)]
    by_cases e : j = i
    · subst e
      rw [o1]
      simp only [Option.map_some, if_pos (getC_mem o1).2]
      exact ⟨_, rfl, by show ((distR g j).toNat : Int) = _; omega⟩
    · obtain ⟨p, p1, p2⟩ := m.dis j (by omega)
      rw [p1]
      have hne : ¬ p.s = i + 1 := by have := (getC_mem p1).2; omega
      simp only [Option.map_some, if_neg hne]
      exact ⟨_, rfl, p2⟩

end Go.Proofs.YtdafpfdmnccelaaDoor

namespace Go.Proofs.YtdafpfdmnccelaaDoor
open Go.RowKit

theorem H2.made {w w1 w2 : World} {hb rb : Nat} {h : HSt} {F G : Nat → Prop} (hT : TB w) (hp : HP w1 hb F h) (hF : ∀ k, F k → w.heap.size ≤ k) (hB : Below w.heap.size w w1) (rp : RP w2 rb G h) (hG : ∀ k, G k → w1.heap.size ≤ k) (hB2 : Below w1.heap.size w1 w2) : H2 w w.heap.size w2 hb rb h h (fun _ => False) := by
  have hlt := hp.lt
  have hs := hB.size
  exact ⟨⟨F, G, hp.below hB2, rp, fun k hk => ⟨hF k hk, id, fun e => by have := hG k e; have := hlt k hk; omega⟩, fun k hk => ⟨by have := hG k hk; omega, id⟩⟩, hB.trans (hB2.mono hs), Nat.le_trans hs hB2.size, fun _ e => e.elim, hT.size⟩
theorem H2.lower {w0 w1 w : World} {B hb rb : Nat} {h h' : HSt} (x : H2 w1 B w hb rb h h' (fun _ => False)) (hb' : Below w0.heap.size w0 w1) (hB : w0.heap.size ≤ B) (hp : 0 < w0.heap.size) : H2 w0 w0.heap.size w hb rb h h' (fun _ => False) := by
  obtain ⟨F, G, h1, h2, hF, hG⟩ := x.ex
  exact ⟨⟨F, G, h1, h2, fun k hk => ⟨Nat.le_trans hB (hF k hk).1, id, (hF k hk).2.2⟩, fun k hk => ⟨Nat.le_trans hB (hG k hk).1, id⟩⟩, hb'.trans (x.bel.mono hB), Nat.le_trans hB x.le, fun _ e => e.elim, hp⟩

def hg0 : HSt := ⟨1, 64, 0, List.replicate 256 bk0, []⟩
theorem hg0_m1 (g : Gr) : M1 g 0 hg0 := ⟨rfl, rfl, rfl, rfl, by
  show 256 ≤ freeB (List.replicate 256 bk0) + 0
  unfold freeB
  rw [List.countP_replicate]
  decide, fun j hj => by omega⟩

set_option maxRecDepth 20000 in
set_option maxHeartbeats 4000000 in
theorem heaps_at {w : World} {vr vo vi : Value} {g : Gr} (x : GI w vr vo vi g) (hT : TB w) (mo : Nat) (hmo : mo ≤ 60) :
    Calls Tryd.prog 6 #[.agg #[vr, vo, vi], .int .i64 (mo : Int)] w fun e w' => ∃ hb rb h, e = .returned (.tuple #[.pointer (some ⟨hb, 0, none⟩), .pointer (some ⟨rb, 0, none⟩)]) ∧ H2 w w.heap.size w' hb rb h h (fun _ => False) ∧ M2 g (min g.refs.length mo) (min g.refs.length mo) 0 h := by
  obtain ⟨a1, c1, a2, c2, a3, c3, e1, e2, e3⟩ := x.shape
  have hSz := fun W (hB : Below w.heap.size w W) => size_any (x.below hB) mo
  have HX : Hid _ := hidden x
  have hN : ∀ W, TB W → Calls Tryd.prog 27 #[.int .i64 1, .int .i64 4096, .int .i64 64, .int .u64 0] W fun e w' => ∃ hb F, e = .returned (.tuple #[.pointer (some ⟨hb, 0, none⟩), .int .i64 0]) ∧ HP w' hb F hg0 ∧ (∀ k, F k → W.heap.size ≤ k) ∧ Below W.heap.size W w' := fun W hW => hnew_ok 1 256 64 0 (by omega) (by omega) (by omega) (by omega) W hW
  have hR : ∀ W, Calls Tryd.prog 28 #[.int .i64 1, .int .i64 4096, .int .i64 64, .int .u64 0] W fun e w' => ∃ rb G, e = .returned (.pointer (some ⟨rb, 0, none⟩)) ∧ RP w' rb G hg0 ∧ (∀ k, G k → W.heap.size ≤ k) ∧ Below W.heap.size W w' := fun W => hrnew_ok 1 256 64 0 (by omega) (by omega) (by omega) (by omega) W
  have HM0 : Hid _ := hidden (hg0_m1 g)
  generalize hg0 = h0 at *
  have HN : Hid (∀ i, i < min g.refs.length mo → i < g.refs.length ∧ i < 60) := fun i hi => by omega
  have hn30 : min g.refs.length mo ≤ 60 := by omega
  generalize min g.refs.length mo = n at *
  clear hmo
  rw [e1, e2, e3] at hSz ⊢
  clear x
  go_enter Tryd.func6, Tryd.ntmps6
  go_wp2_with fail
  refine (hSz _ (bel_alloc _ _)).mono ?_
  rintro e w1 ⟨rfl, b1⟩
  have hz1 := b1.size
  have hb01 : Below w.heap.size w w1 := (bel_alloc _ _).trans (b1.mono (by simp))
  have d0 := (b1.cell (p := ⟨w.heap.size, 0, none⟩) (by simp))
  have d1 := (b1.cell (p := ⟨w.heap.size, 1, none⟩) (by simp))
  have d2 := (b1.cell (p := ⟨w.heap.size, 2, none⟩) (by simp))
  simp at d0 d1 d2 hz1
  have hT1 : TB w1 := hT.below hb01
  clear hSz b1
  go_wp2_with fail
  refine (hN w1 hT1).mono ?_
  rintro e w2 ⟨hb, F, rfl, hp, hF, hB⟩
  clear hN
  go_wp2_with fail
  refine (hR w2).mono ?_
  rintro e w3 ⟨rb, G, rfl, rp, hG, hB2⟩
  have y3 := H2.made hT1 hp hF hB rp hG hB2
  clear hp hF hB rp hG hB2 hR hT1
  have hgw : w.heap.size < w1.heap.size := by omega
  have HD0 : Hid (∀ W : World, Below w1.heap.size w1 W → W.cell? ⟨w.heap.size, 0, none⟩ = some (.slice a1 g.refs.length c1) ∧ W.cell? ⟨w.heap.size, 1, none⟩ = some (.slice a2 g.out.length c2) ∧ W.cell? ⟨w.heap.size, 2, none⟩ = some (.slice a3 g.inn.length c3) ∧ GI W (.slice a1 g.refs.length c1) (.slice a2 g.out.length c2) (.slice a3 g.inn.length c3) g) := fun W hB => by
    refine ⟨(hB.cell (p := ⟨w.heap.size, 0, none⟩) hgw).trans d0, (hB.cell (p := ⟨w.heap.size, 1, none⟩) hgw).trans d1, (hB.cell (p := ⟨w.heap.size, 2, none⟩) hgw).trans d2, ?_⟩
    have := HX.out
    rw [e1, e2, e3] at this
    exact this.below (hb01.trans (hB.mono hb01.size))
  have HLW : Hid (∀ W h, H2 w1 w1.heap.size W hb rb h h (fun _ => False) → H2 w w.heap.size W hb rb h h (fun _ => False)) := fun W h y => y.lower hb01 hb01.size hT.size
  have Y3 : Hid _ := hidden y3
  have hgw2 : w.heap.size < w1.heap.size := hgw
  clear y3 d0 d1 d2 e1 e2 e3 HX hb01 hz1 hgw
  have HI : Hid (∀ W i (hB : Below w1.heap.size w1 W) (hi : i < n), ∃ b o b4 o4 c4 nk, a1 = some ⟨b, o, none⟩ ∧ b < W.heap.size ∧ W.cell? ⟨b, o + i, none⟩ = some (.slice b4 nk c4) ∧ (i : Int) < (g.refs.length : Int) ∧ (min (nk : Int) 7 = (fl g i : Int)) ∧ (∀ k : Nat, k < fl g i → (k : Int) < (nk : Int) ∧ (k : Int) < 7) ∧ (fl g i = nk ∨ (fl g i = 7 ∧ 7 < nk)) ∧ o4 = nk ∧ ∃ h : i < g.refs.length, nk = g.refs[i].2.length) := fun W i hB hi => by
    obtain ⟨h1, h2⟩ := HN.out i hi
    have hG := (HD0.out W hB).2.2.2
    obtain ⟨b, o, q1, q2, q3⟩ := WS.one (f := fun y : Value × List Int => y.1) hG.r i h1
    obtain ⟨a4, c4, q4, _⟩ := (hG.rs _ (List.getElem_mem h1)).slice
    rw [q4] at q3
    have hfl := fl_at h1
    exact ⟨b, o, a4, _, c4, _, q1, q2, q3, by omega, by omega, fun k hk => ⟨by omega, by omega⟩, by omega, rfl, h1, rfl⟩
  go_wp2
  go_loopw [10] (fun t wr => ∃ (i : Nat) (h : HSt), i ≤ n ∧ t = .int .i64 (i : Int) ∧ M1 g i h ∧ H2 w1 w1.heap.size wr hb rb h h (fun _ => False)) (fun t _ => n - (intOf t).toNat)
  case atStart => exact ⟨0, h0, Nat.zero_le _, rfl, HM0.out, Y3.out⟩
  case round =>
    obtain ⟨i, h, hi, rfl, m1, y⟩ := hrel
    clear Y3 HM0
    by_cases hlt : i < n
    · obtain ⟨b, o, a4, o4, c4, nk, rfl, hbl, q1, hil, hmn, _, _, _, _⟩ := HI.out wr i y.bel hlt
      obtain ⟨d0, _, _, _⟩ := HD0.out wr y.bel
      obtain ⟨hmk, m2⟩ := M1.step y.ok m1 (by omega)
      have hMk : Calls Tryd.prog 17 #[.pointer (some ⟨hb, 0, none⟩), .int .i64 (min (nk : Int) 7), .int .i64 0] wr fun e w' => e = .returned (.tuple #[.int .u64 ((i : Int) + 1), .int .i64 0]) ∧ H2 w1 w1.heap.size w' hb rb (h.makeS (fl g i : Int) 0) h (fun _ => False) ∧ Kept wr w' (Its w1.heap.size (fun _ => False)) := by
        have := y.hmake (fl g i : Int) 0
        rw [hmk] at this
        rw [hmn]
        exact this
      have hRk : ∀ W h', H2 w1 w1.heap.size W hb rb h' h (fun _ => False) → Calls Tryd.prog 18 #[.pointer (some ⟨rb, 0, none⟩), .int .i64 (min (nk : Int) 7), .int .i64 0] W fun e w' => e = .returned (.tuple #[.int .u64 ((i : Int) + 1), .int .i64 0]) ∧ H2 w1 w1.heap.size w' hb rb h' (h.makeS (fl g i : Int) 0) (fun _ => False) ∧ Kept W w' (Its w1.heap.size (fun _ => False)) := fun W h' z => by
        have := z.rmake (fl g i : Int) 0
        rw [hmk] at this
        rw [hmn]
        exact this
      have HM2 : Hid _ := hidden m2
      have HL : Hid (i + 1 ≤ n) := hlt
      have hlti : (i : Int) < (n : Int) := by omega
      have hgl : w.heap.size < wr.heap.size := Nat.lt_of_lt_of_le hgw2 y.bel.size
      generalize h.makeS (fl g i : Int) 0 = h' at *
      clear hmk m1 m2 hmn hlt y
      go_upto_region 10 with fail
      generalize min (nk : Int) 7 = mn at *
      go_wp2_with fail
      refine hMk.mono ?_
      rintro e w4 ⟨rfl, y4, k4⟩
      clear hMk k4 d0 q1
      go_wp2_with fail
      refine (hRk _ _ y4).mono ?_
      rintro e w5 ⟨rfl, y5, k5⟩
      have Y5 : Hid _ := hidden y5
      clear hRk k5 y4 y5
      go_wp2
      go_roundw
      case rel => exact ⟨i + 1, h', HL.out, by go_num, HM2.out, Y5.out⟩
      case measure => have := HL.out; simp [intOf]; omega
    · have hE : i = n := by omega
      subst hE
      have M20 : Hid _ := hidden m1.m2
      have Y : Hid _ := hidden y
      clear m1 y hlt
      go_wp2
      go_loopw [16] (fun t wr => ∃ (j : Nat) (h : HSt), j ≤ i ∧ t = .int .i64 (j : Int) ∧ M2 g i j 0 h ∧ H2 w1 w1.heap.size wr hb rb h h (fun _ => False)) (fun t _ => i - (intOf t).toNat)
      case atStart => exact ⟨0, h, Nat.zero_le _, rfl, M20.out, Y.out⟩
      case round =>
        obtain ⟨j, h, hj, rfl, m2, y⟩ := hrel
        clear M20 Y
        by_cases hlt : j < i
        · have hlti : (j : Int) < (i : Int) := by omega
          have M2' : Hid _ := hidden m2
          have Y : Hid _ := hidden y
          have HJ : Hid (j + 1 ≤ i) := hlt
          clear m2 y
          go_wp2
          go_loopw [17] (fun t wr => ∃ (k : Nat) (h : HSt), k ≤ fl g j ∧ t = .int .i64 (k : Int) ∧ M2 g i j k h ∧ H2 w1 w1.heap.size wr hb rb h h (fun _ => False)) (fun t _ => fl g j - (intOf t).toNat)
          case atStart => exact ⟨0, h, Nat.zero_le _, rfl, M2'.out, Y.out⟩
          case round =>
            obtain ⟨k, h, hk, rfl, m2, y⟩ := hrel
            clear M2' Y
            obtain ⟨b, o, a4, o4, c4, nk, rfl, hbl, q1, hil, _, hkk, hfe, _, hgl, hnk⟩ := HI.out wr j y.bel hlt
            obtain ⟨d0, d1, d2, gi⟩ := HD0.out wr y.bel
            have hgwr : w.heap.size < wr.heap.size := Nat.lt_of_lt_of_le hgw2 y.bel.size
            by_cases hkl : k < fl g j
            · obtain ⟨hk1, hk2⟩ := hkk k hkl
              have hTg := target_any gi j k i hgl (by omega) (by omega) (by omega) (by omega) (by omega)
              have HM3 : Hid _ := hidden (m2.ref hlt hkl hn30)
              have hSR : ∀ W X, H2 w1 w1.heap.size W hb rb h h X → Calls Tryd.prog 30 #[.pointer (some ⟨hb, 0, none⟩), .int .u64 ((j : Int) + 1), .int .i64 (k : Int), .agg #[.int .i64 (targetR g j k i).1, .int .u64 ((targetR g j k i).2 : Int)]] W fun e w' => e = .returned (.tuple #[.agg #[.int .i64 (h.setRefR (j + 1) (k : Int) (targetR g j k i)).1.1, .int .u64 ((h.setRefR (j + 1) (k : Int) (targetR g j k i)).1.2 : Int)], .int .i64 ((h.setRefR (j + 1) (k : Int) (targetR g j k i)).2 : Int)]) ∧ H2 w1 w1.heap.size w' hb rb (h.setRefS (j + 1) (k : Int) (targetR g j k i)) h X ∧ Kept W w' (Its w1.heap.size X) := fun W X z => z.hsetRef (j + 1) (k : Int) (targetR g j k i).1 (targetR g j k i).2 (by omega)
              have hSP : ∀ W X h', H2 w1 w1.heap.size W hb rb h' h X → Calls Tryd.prog 31 #[.pointer (some ⟨rb, 0, none⟩), .int .u64 ((j : Int) + 1), .int .i64 (k : Int), .agg #[.int .i64 (targetR g j k i).1, .int .u64 ((targetR g j k i).2 : Int)]] W fun e w' => e = .returned (.tuple #[.agg #[.int .i64 (h.setRefR (j + 1) (k : Int) (targetR g j k i)).1.1, .int .u64 ((h.setRefR (j + 1) (k : Int) (targetR g j k i)).1.2 : Int)], .int .i64 ((h.setRefR (j + 1) (k : Int) (targetR g j k i)).2 : Int)]) ∧ H2 w1 w1.heap.size w' hb rb h' (h.setRefS (j + 1) (k : Int) (targetR g j k i)) X ∧ Kept W w' (Its w1.heap.size X) := fun W X h' z => z.rsetRef (j + 1) (k : Int) (targetR g j k i).1 (targetR g j k i).2
              have HL : Hid (k + 1 ≤ fl g j) := hkl
              have Y : Hid _ := hidden y
              generalize h.setRefR (j + 1) (k : Int) (targetR g j k i) = ans at *
              generalize h.setRefS (j + 1) (k : Int) (targetR g j k i) = h' at *
              generalize targetR g j k i = tg at *
              obtain ⟨ta, ts⟩ := tg
              obtain ⟨⟨xn, xs⟩, xe⟩ := ans
              simp only at hTg hSR hSP
              have hjb : (j : Int) + 1 ≤ 61 := by omega
              have hj0 : (0 : Int) ≤ (j : Int) + 1 := by omega
              clear m2 y gi hkk hfe hkl hk hnk hgl hlt hj
              go_upto_region 20 with fail
              go_wp2_with fail
              refine hTg.mono ?_
              rintro e w4 ⟨rfl, b4⟩
              have y4 := (Y.out.read b4).box (.cells #[.int .i64 ta, .int .u64 (ts : Int)] 51)
              have r4 : Row (w4.alloc (.cells #[.int .i64 ta, .int .u64 (ts : Int)] 51)) w4.heap.size 51 [.int .i64 ta, .int .u64 (ts : Int)] := heap_alloc_new w4 _
              clear hTg b4 q1 d0 d1 d2
              have c0 := r4.cell 0 (by simp)
              have c1' := r4.cell 1 (by simp)
              simp at c0 c1'
              go_wp2_with fail
              refine (hSR _ _ y4).mono ?_
              rintro e w5 ⟨rfl, y5, k5⟩
              have r5 := its_row k5 (Or.inr rfl) r4
              have c0 := r5.cell 0 (by simp)
              have c1' := r5.cell 1 (by simp)
              simp at c0 c1'
              clear k5 y4 r4 hSR r5
              go_wp2_with fail
              refine (hSP _ _ _ y5).mono ?_
              rintro e w6 ⟨rfl, y6, k6⟩
              have Y6 : Hid _ := hidden (y6.off (fun _ => False) (fun _ e => e.elim))
              clear k6 y5 y6 hSP c0 c1'
              go_wp2
              go_roundw
              case rel => exact ⟨k + 1, h', HL.out, by go_num, HM3.out, Y6.out⟩
              case measure => have := HL.out; simp [intOf]; omega
            · have hE : k = fl g j := by omega
              have M3 : Hid (M2 g i j (fl g j) h) := by rw [← hE]; exact m2
              have Y : Hid _ := hidden y
              have hex : (¬ (k : Int) < (nk : Int)) ∨ ((k : Int) < (nk : Int) ∧ ¬ (k : Int) < 7) := by
                rcases hfe with e | ⟨e, e'⟩
                · exact Or.inl (by omega)
                · exact Or.inr ⟨by omega, by omega⟩
              have hDs := fun W (hB : Below w1.heap.size w1 W) => dist_any (HD0.out W hB).2.2.2 j
              have hS1 : ∀ W, H2 w1 w1.heap.size W hb rb h h (fun _ => False) → Calls Tryd.prog 32 #[.pointer (some ⟨hb, 0, none⟩), .int .u64 ((j : Int) + 1), .int .i64 (distR g j)] W fun e w' => e = .returned (.int .i64 (h.setInR (j + 1) (distR g j) : Int)) ∧ H2 w1 w1.heap.size w' hb rb (h.setInS (j + 1) (distR g j)) h (fun _ => False) ∧ Kept W w' (Its w1.heap.size (fun _ => False)) := fun W z => z.hsetIn (j + 1) (distR g j) (by omega)
              have hS2 : ∀ W h', H2 w1 w1.heap.size W hb rb h' h (fun _ => False) → Calls Tryd.prog 34 #[.pointer (some ⟨rb, 0, none⟩), .int .u64 ((j : Int) + 1), .int .i64 (distR g j)] W fun e w' => e = .returned (.int .i64 (h.setInR (j + 1) (distR g j) : Int)) ∧ H2 w1 w1.heap.size w' hb rb h' (h.setInS (j + 1) (distR g j)) (fun _ => False) ∧ Kept W w' (Its w1.heap.size (fun _ => False)) := fun W h' z => z.rsetIn (j + 1) (distR g j)
              have HM4 : Hid (M2 g i (j + 1) 0 (h.setInS (j + 1) (distR g j))) := hidden (M3.out.din hlt)
              have HD1 : Hid (∀ W : World, Below w1.heap.size w1 W → W.cell? ⟨w.heap.size, 0, none⟩ = some (.slice (some ⟨b, o, none⟩) g.refs.length c1) ∧ W.cell? ⟨w.heap.size, 1, none⟩ = some (.slice a2 g.out.length c2) ∧ W.cell? ⟨w.heap.size, 2, none⟩ = some (.slice a3 g.inn.length c3)) := fun W hB => ⟨(HD0.out W hB).1, (HD0.out W hB).2.1, (HD0.out W hB).2.2.1⟩
              generalize h.setInS (j + 1) (distR g j) = h' at *
              generalize h.setInR (j + 1) (distR g j) = an at *
              generalize distR g j = ds at *
              have hjb : (j : Int) + 1 ≤ 61 := by omega
              have hj0 : (0 : Int) ≤ (j : Int) + 1 := by omega
              have hDs1 := hDs _ y.bel
              clear m2 y gi hkk hfe hkl hk hnk hgl hlt hj hE M3
              rcases hex with hx | ⟨hx1, hx2⟩
              all_goals
                go_wp2_with fail
                refine hDs1.mono ?_
                rintro e w4 ⟨rfl, b4⟩
                have y4 := Y.out.read b4
                clear hDs1 Y b4 d0 d1 d2
                go_wp2_with fail
                refine (hS1 _ y4).mono ?_
                rintro e w5 ⟨rfl, y5, k5⟩
                obtain ⟨d0, d1, d2⟩ := HD1.out _ y5.bel
                have hDs2 := hDs _ y5.bel
                have hgw5 : w.heap.size < w5.heap.size := Nat.lt_of_lt_of_le hgw2 y5.bel.size
                have Y5 : Hid _ := hidden y5
                clear y4 k5 hS1 y5
                go_wp2_with fail
                refine hDs2.mono ?_
                rintro e w6 ⟨rfl, b6⟩
                have y6 := Y5.out.read b6
                clear hDs2 b6 Y5 d0 d1 d2
                go_wp2_with fail
                refine (hS2 _ _ y6).mono ?_
                rintro e w7 ⟨rfl, y7, k7⟩
                have Y7 : Hid _ := hidden y7
                clear y6 y7 k7 hS2 hDs
                go_wp2
                go_roundw
                case rel => exact ⟨j + 1, h', HJ.out, by go_num, HM4.out, Y7.out⟩
                case measure => have := HJ.out; simp [intOf]; omega
        · have hE : j = i := by omega
          subst hE
          have HR : Hid _ := hidden (HLW.out _ _ y)
          have HM : Hid _ := hidden m2
          clear y m2 hlt
          go_wp2
          go_ret2
          exact ⟨hb, rb, h, rfl, HR.out, HM.out⟩

theorem heaps_any {w : World} {vr vo vi : Value} {g : Gr} (x : GI w vr vo vi g) (hT : TB w) :
    Calls Tryd.prog 6 #[.agg #[vr, vo, vi], .int .i64 30] w fun e w' => ∃ hb rb h, e = .returned (.tuple #[.pointer (some ⟨hb, 0, none⟩), .pointer (some ⟨rb, 0, none⟩)]) ∧ H2 w w.heap.size w' hb rb h h (fun _ => False) ∧ M2 g (min g.refs.length 30) (min g.refs.length 30) 0 h :=
  heaps_at x hT 30 (by omega)
end Go.Proofs.YtdafpfdmnccelaaDoor

namespace Go.Proofs.YtdafpfdmnccelaaDoor
open Go.ChangeShapes Go.WideShapes Go.ChangeAt Go.RowKit Go.Deep

/-- A heap and its paint, and beside them the plain heap's latest serial. -/
structure PL (w0 : World) (B : Nat) (w : World) (pb hb rb : Nat) (h : HSt) (p : PSt) (X : Nat → Prop) : Prop where
  ph : PH w0 B w pb hb h p (fun k => k = rb ∨ X k)
  c : w.cell? ⟨rb, 2, none⟩ = some (.int .u64 (h.last : Int))
theorem its_cell {w w' : World} {B : Nat} {X : Nat → Prop} {b i : Nat} {v : Value} (h : w.cell? ⟨b, i, none⟩ = some v) (hk : Kept w w' (Its B X)) (hX : X b) : w'.cell? ⟨b, i, none⟩ = some v := cell_kept h hk (fun e => e.2 hX)
section
variable {w0 w w' : World} {B pb hb rb : Nat} {h h' : HSt} {p p' : PSt} {X : Nat → Prop}
theorem H2.hh (x : H2 w0 B w hb rb h h (fun _ => False)) : HH w0 B w hb h (fun k => k = rb ∨ False) := by
  have hc := x.rlast
  obtain ⟨F, G, h1, h2, hF, hG⟩ := x.ex
  obtain ⟨ra, rc, rt, lv, M, hx, hGi⟩ := h2.ex
  have hrb : G rb := (hGi rb).2 (by simp [rBl])
  exact ⟨⟨F, h1, fun k hk => ⟨(hF k hk).1, fun e => by
    rcases e with e | e
    · subst e; exact (hF k hk).2.2 hrb
    · exact e⟩⟩, x.bel, x.le, fun k e => by
      rcases e with rfl | e
      · exact cell_lt hc
      · exact e.elim⟩
theorem PL.read (x : PL w0 B w pb hb rb h p X) (hB : Below w.heap.size w w') : PL w0 B w' pb hb rb h p X := ⟨x.ph.read hB, (hB.cell (p := ⟨rb, 2, none⟩) (cell_lt x.c)).trans x.c⟩
theorem PL.box (x : PL w0 B w pb hb rb h p X) (o : Obj) : PL w0 B (w.alloc o) pb hb rb h p (fun k => X k ∨ k = w.heap.size) :=
  ⟨(x.ph.box o).off _ (fun k e => by rcases e with e | e | e; exact Or.inl (Or.inl e); exact Or.inl (Or.inr e); exact Or.inr e), ((bel_alloc w o).cell (p := ⟨rb, 2, none⟩) (cell_lt x.c)).trans x.c⟩
theorem PL.other (x : PL w0 B w pb hb rb h p X) {S : Nat → Prop} (hk : Kept w w' S) (hS : ∀ k, S k → X k ∧ B ≤ k) (hr : ¬ S rb) : PL w0 B w' pb hb rb h p X := ⟨x.ph.other hk (fun k e => ⟨Or.inr (hS k e).1, (hS k e).2⟩), cell_kept x.c hk hr⟩
theorem PL.off (x : PL w0 B w pb hb rb h p X) (Y : Nat → Prop) (hY : ∀ k, Y k → X k) : PL w0 B w pb hb rb h p Y := ⟨x.ph.off _ (fun k e => by rcases e with e | e; exact Or.inl e; exact Or.inr (hY k e)), x.c⟩
theorem PL.to {S : Nat → Prop} (x : PH w0 B w' pb hb h p' (fun k => k = rb ∨ X k)) (hk : Kept w w' (Its B (fun k => k = rb ∨ X k))) (hc : w.cell? ⟨rb, 2, none⟩ = some (.int .u64 (h.last : Int))) (hS : ∀ k, B ≤ k → ¬ X k → S k) : PL w0 B w' pb hb rb h p' X ∧ Kept w w' S :=
  ⟨⟨x, its_cell hc hk (Or.inl rfl)⟩, hk.mono (fun k _ e => hS k e.1 (fun h => e.2 (Or.inr h)))⟩
theorem PL.shade (x : PL w0 B w pb hb rb h p X) (a : Int) (n : Nat) (r : Int) :
    Calls Tryd.prog 13 #[.pointer (some ⟨pb, 0, none⟩), .agg #[.int .i64 a, .int .u64 (n : Int)], .int .i64 r] w fun e w' => e = .returned (.tuple #[]) ∧ PL w0 B w' pb hb rb h (p.shade h (a, n) r) X ∧ Kept w w' (Its B X) :=
  (x.ph.shade a n r).mono (fun _ _ ⟨h1, h2, h3⟩ => ⟨h1, PL.to h2 h3 x.c (fun _ a b => ⟨a, b⟩)⟩)
theorem H2.pl (x : H2 w0 B w hb rb h h (fun _ => False)) (M : Nat) (h1 : 1 ≤ M) (h2 : M ≤ 64) :
    Calls Tryd.prog 8 #[.pointer (some ⟨hb, 0, none⟩), .int .i64 (M : Int)] w fun e w' => ∃ pb, e = .returned (.tuple #[.pointer (some ⟨pb, 0, none⟩), .int .i64 0]) ∧ PL w0 B w' pb hb rb h (PSt.new M) (fun _ => False) ∧ Below w.heap.size w w' :=
  (x.hh.paint x.pos M h1 h2).mono (fun _ _ ⟨pb, e, y, hb'⟩ => ⟨pb, e, ⟨y, (hb'.cell (p := ⟨rb, 2, none⟩) (cell_lt x.rlast)).trans x.rlast⟩, hb'⟩)
end

/-- A step. -/
structure StepP where
  what : Int
  rank : Int
  ser : Nat
  xn : Int
  xs : Nat
  near : Bool
def cStepP (s : StepP) : List Value := [.int .i64 s.what, .int .i64 s.rank, .int .u64 (s.ser : Int), .int .i64 s.xn, .int .u64 (s.xs : Int), .bool s.near]
def StepP.Ok (s : StepP) : Prop := s.ser < 18446744073709551616 ∧ s.xs < 18446744073709551616
theorem list6 {α : Type} {l : List α} (h : l.length = 6) : ∃ a b c d e f, l = [a, b, c, d, e, f] := by
  match l, h with
  | [a, b, c, d, e, f], _ => exact ⟨a, b, c, d, e, f, rfl⟩
theorem list3 {α : Type} {l : List α} (h : l.length = 3) : ∃ a b c, l = [a, b, c] := by
  match l, h with
  | [a, b, c], _ => exact ⟨a, b, c, rfl⟩
theorem WS.stepP {w : World} {ao : Option Addr} {n cap : Nat} {xs : List StepP} (h : WS w (.slice ao n cap) 6 cStepP xs) (i : Nat) (hi : i < xs.length) : ∃ b off, ao = some ⟨b, off, none⟩ ∧ b < w.heap.size ∧
    w.cell? ⟨b, off + i * 6, none⟩ = some (.int .i64 xs[i].what) ∧ w.cell? ⟨b, off + i * 6 + 1, none⟩ = some (.int .i64 xs[i].rank) ∧ w.cell? ⟨b, off + i * 6 + 2, none⟩ = some (.int .u64 (xs[i].ser : Int)) ∧ w.cell? ⟨b, off + i * 6 + 3, none⟩ = some (.int .i64 xs[i].xn) ∧
    w.cell? ⟨b, off + i * 6 + 4, none⟩ = some (.int .u64 (xs[i].xs : Int)) ∧ w.cell? ⟨b, off + i * 6 + 5, none⟩ = some (.bool xs[i].near) := by
  obtain ⟨b, off, h1, h2, h3⟩ := h.at i hi
  exact ⟨b, off, h1, h2, h3 0 _ rfl, h3 1 _ rfl, h3 2 _ rfl, h3 3 _ rfl, h3 4 _ rfl, h3 5 _ rfl⟩

/-- A slice within. -/
theorem open_in {α H : Type} {enc : TypeId × Value → H} {W : World} {t e : TypeId} (c : Nat) (hc0 : 0 < c) (f : α → List Value) (R : α → Prop) (ht : Tryd.prog.underlying t = some (.slice e)) (hc : Tryd.prog.cellsOf e = c)
    (each : ∀ n cs (y : DataW H × List MemPlace), DataW.trod enc Tryd.prog W 0 (fun _ => true) true n e cs = some y → ∃ x, cs = f x ∧ R x) {n : Nat} {cs : List Value} {y : DataW H × List MemPlace} (h : DataW.trod enc Tryd.prog W 0 (fun _ => true) true n t cs = some y) :
    ∃ v xs, cs = [v] ∧ WS W v c f xs ∧ (∀ x ∈ xs, R x) ∧ xs.length ≤ 9223372036854775807 := by
  rcases open_slice ht h with ⟨hcs, _⟩ | ⟨a, len, cap, m, k, D, Pl, hcs, _, hl, hm, _⟩
  · obtain ⟨xs, h1, h2, _⟩ := open_ws (v := .slice none 0 0) (d := y.1) (p := y.2) c hc0 f R ht hc each ⟨_, _, _, rfl⟩ ⟨n, by rw [hcs] at h; exact h⟩
    obtain ⟨ao, cap, e1, _⟩ := h1.slice
    simp only [Value.slice.injEq] at e1
    exact ⟨_, xs, hcs, h1, h2, by omega⟩
  · obtain ⟨xs, h1, h2, _⟩ := open_ws (v := .slice (some a) len cap) (d := y.1) (p := y.2) c hc0 f R ht hc each ⟨_, _, _, rfl⟩ ⟨n, by rw [hcs] at h; exact h⟩
    obtain ⟨ao, cap', e1, _⟩ := h1.slice
    simp only [Value.slice.injEq] at e1
    unfold maxLen at hm
    exact ⟨_, xs, hcs, h1, h2, by omega⟩
/-- A graph that came in. -/
theorem open_graph {H : Type} {enc : TypeId × Value → H} {W : World} {v : Value} {d : DataW H} {p : List MemPlace} (hv : ∃ cs, v = .agg cs) (h : DataW.Trod enc Tryd.prog W 0 (fun _ => true) true 29 v d p) :
    ∃ vr vo vi g, v = .agg #[vr, vo, vi] ∧ GI W vr vo vi g := by
  obtain ⟨cs, rfl⟩ := hv
  obtain ⟨n, hn⟩ := h
  have hcells : (Value.agg cs).cells.toList = cs.toList := rfl
  obtain ⟨hlen, k, hf⟩ := trod_fields 3 Tryd.underlying29 (by kernel_rfl) hn
  obtain ⟨v0, v1, v2, hl⟩ := list3 hlen
  rw [hl] at hf
  obtain ⟨y0, g0⟩ := hf 0 25 0 1 rfl (by kernel_rfl)
  obtain ⟨y1, g1⟩ := hf 1 26 1 1 rfl (by kernel_rfl)
  obtain ⟨y2, g2⟩ := hf 2 27 2 1 rfl (by kernel_rfl)
  have ei : ∀ n cs (y : DataW H × List MemPlace), DataW.trod enc Tryd.prog W 0 (fun _ => true) true n 3 cs = some y → ∃ x : Int, cs = cI x ∧ True := fun n cs y h => by
    obtain ⟨z, h1, _⟩ := DataW.trod_int Tryd.underlying3 h
    exact ⟨z, h1, trivial⟩
  have eb : ∀ n cs (y : DataW H × List MemPlace), DataW.trod enc Tryd.prog W 0 (fun _ => true) true n 4 cs = some y → ∃ x : Bool, cs = cB x ∧ True := fun n cs y h => by
    obtain ⟨z, h1, _⟩ := DataW.trod_bool Tryd.underlying4 h
    exact ⟨z, h1, trivial⟩
  have er : ∀ n cs (y : DataW H × List MemPlace), DataW.trod enc Tryd.prog W 0 (fun _ => true) true n 27 cs = some y → ∃ x : Value × List Int, cs = cR x ∧ WS W x.1 1 cI x.2 := fun n cs y h => by
    obtain ⟨v, xs, h1, h2, _, _⟩ := open_in 1 (by omega) cI (fun _ => True) Tryd.underlying27 (by kernel_rfl) ei h
    exact ⟨(v, xs), h1, h2⟩
  obtain ⟨vr, rs, q0, w0, r0, _⟩ := open_in 1 (by omega) cR (fun x => WS W x.1 1 cI x.2) Tryd.underlying25 (by kernel_rfl) er g0
  obtain ⟨vo, os, q1, w1, _, l1⟩ := open_in 1 (by omega) cB (fun _ => True) Tryd.underlying26 (by kernel_rfl) eb g1
  obtain ⟨vi, is, q2, w2, _, l2⟩ := open_in 1 (by omega) cI (fun _ => True) Tryd.underlying27 (by kernel_rfl) ei g2
  simp only [List.drop_succ_cons, List.drop_zero, List.take_succ_cons, List.take_zero, List.cons.injEq, and_true] at q0 q1 q2
  subst q0 q1 q2
  refine ⟨v0, v1, v2, ⟨rs, os, is⟩, ?_, ⟨w0, r0, w1, w2, l1, l2⟩⟩
  have : cs = #[v0, v1, v2] := by
    apply Array.ext'
    rw [← hcells]
    exact hl
  rw [this]

end Go.Proofs.YtdafpfdmnccelaaDoor
