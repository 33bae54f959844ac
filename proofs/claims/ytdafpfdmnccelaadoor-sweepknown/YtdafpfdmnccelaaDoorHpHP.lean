import Derived.Test.YtdafpfdmnccelaaDoorHpG
import Derived.Deep.QuietTactic
import Derived.BigQuiet
/- SetVal, SetIn, SetRef. -/
/- SetRef. -/
namespace Go.Proofs.YtdafpfdmnccelaaDoor
open Go.RowKit

theorem hBl_mb {hb ab mb : Nat} {L : List Pl} : mb ∈ hBl hb ab mb L := by simp [hBl]
theorem kept_vb {w w' : World} {hb ab mb : Nat} {L : List Pl} {k0 : Nat} (hk : Kept w w' (fun k => k = k0)) (h : k0 ∈ hBl hb ab mb L) : Kept w w' (fun k => k ∈ hBl hb ab mb L) :=
  hk.mono (fun k _ e => by have e' : k = k0 := e; rw [e']; exact h)

theorem pick_fn {α β : Type} {p : α → β → Prop} (h : ∀ a, ∃ b, p a b) : ∃ f : α → β, ∀ a, p a (f a) := ⟨fun a => Classical.choose (h a), fun a => Classical.choose_spec (h a)⟩

section
variable {w : World} {hb ab mb : Nat} {h : HSt} {L : List Pl}

set_option maxRecDepth 20000 in
set_option maxHeartbeats 1000000 in
theorem hsetin_any (x : HX w hb ab mb h L) (s : Nat) (hs : s < 18446744073709551616) (d : Int) :
    Calls Tryd.prog 32 #[.pointer (some ⟨hb, 0, none⟩), .int .u64 (s : Int), .int .i64 d] w fun e w' => e = .returned (.int .i64 (h.setInR s d : Int)) ∧ Goes w w' hb (fun k => k ∈ hBl hb ab mb L) (h.setInS s d) := by
  unfold HSt.setInR HSt.setInS
  by_cases hd : 0 ≤ d ∧ d ≤ 40
  · rw [if_pos hd]
    have hw := fun w => within_yes d 0 40 hd.1 hd.2 w
    have c4 := x.c4
    cases hg : getP L s with
    | none =>
      have hgc : getC h.cs s = none := by rw [x.get, hg]; rfl
      rw [hgc, if_neg (by simp), if_neg (by simp)]
      have hlk := x.look2N s hs hg
      unfold zO at hlk
      clear hd
      go_enter Tryd.func32, Tryd.ntmps32
      go_wp2_with (go_at_call 51; refine (hw _).mono ?_; rintro e _ ⟨rfl, rfl⟩)
      go_ret
      exact ⟨rfl, x.hp.stay ((Below.refl _ _).alloc (Nat.le_refl _) _)⟩
    | some p =>
      have hgc : getC h.cs s = some p.o := by rw [x.get, hg]; rfl
      rw [hgc, if_pos (by simp), if_pos (by simpa using hd)]
      obtain ⟨j, rfl⟩ : ∃ j : Nat, d = (j : Int) := ⟨d.toNat, by omega⟩
      simp only [Int.toNat_natCast]
      have hlk := x.look2S s hs hg
      have hA : ∀ o, Below w.heap.size w (w.alloc o) := fun o => (Below.refl _ _).alloc (Nat.le_refl _) o
      have hex : ∀ o : Obj, ∃ w', (Instr.mapUpdate 117 (.map (some mb)) (.int .u64 (s : Int)) (.agg #[.int .u64 (p.o.s : Int), .int .i64 (p.o.c : Int), .slice (some ⟨p.rb, 0, none⟩) p.o.rf.length p.o.rf.length, .slice (some ⟨p.vb, 0, none⟩) p.o.vl.length p.o.vl.length, .int .i64 (j : Int)])).run Tryd.prog (w.alloc o).drew = .ok () w' ∧ Goes w w' hb (fun k => k ∈ hBl hb ab mb L) { h with cs := updC h.cs s (fun o => o.setD j) } := fun o => by
        have hW : Below w.heap.size w (w.alloc o).drew := (hA o).drew
        have xw := x.below hW
        obtain ⟨w', h1, h2, h3⟩ := xw.mp.set Tryd.underlying117 s hs (u := p.v) (by rw [getP_look, hg]; rfl) (Pl.v { p with o := p.o.setD j })
        exact ⟨w', h1, (xw.setD hg j (by omega) h3 h2).goes ((kept_of_below hW _).trans (kept_vb h3 hBl_mb) (fun _ _ e => e)) (fun k hk => Or.inl (by rw [upL_hBl] at hk; exact hk))⟩
      obtain ⟨ff, hff⟩ := pick_fn hex
      have hU := fun o => (hff o).1
      have HG : Hid (∀ o, Goes w (ff o) hb (fun k => k ∈ hBl hb ab mb L) { h with cs := updC h.cs s (fun o => o.setD j) }) := fun o => (hff o).2
      clear hex hff
      unfold Pl.v at hlk
      have c4' := fun o => (x.below (hA o)).c4
      clear hd
      go_enter Tryd.func32, Tryd.ntmps32
      go_wp2_with (go_at_call 51; refine (hw _).mono ?_; rintro e _ ⟨rfl, rfl⟩)
      go_region
      go_wp2
      go_ret
      exact ⟨rfl, HG.out _⟩
  · rw [if_neg hd, if_neg (fun e => hd ⟨e.1, e.2.1⟩)]
    have hw := fun w => within_no d 0 40 (by omega) w
    clear hd
    go_enter Tryd.func32, Tryd.ntmps32
    go_wp2_with (go_at_call 51; refine (hw _).mono ?_; rintro e _ ⟨rfl, rfl⟩)
    go_ret
    exact ⟨rfl, x.goes (Kept.refl _ _) (fun k hk => Or.inl hk)⟩
end

end Go.Proofs.YtdafpfdmnccelaaDoor

namespace Go.Proofs.YtdafpfdmnccelaaDoor
open Go.RowKit

/-- Two blocks that were laid, and what came behind. -/
theorem two_blocks {w w3 : World} {T : TypeId} {a0 a1 b0 b1 : Value} (hB : Below ((w.alloc (.cells #[a0, a1] T)).alloc (.cells #[b0, b1] T)).heap.size ((w.alloc (.cells #[a0, a1] T)).alloc (.cells #[b0, b1] T)) w3) :
    w.heap.size + 1 < w3.heap.size ∧ w3.cell? ⟨w.heap.size, 0, none⟩ = some a0 ∧ w3.cell? ⟨w.heap.size, 1, none⟩ = some a1 ∧ w3.cell? ⟨w.heap.size + 1, 0, none⟩ = some b0 ∧ w3.cell? ⟨w.heap.size + 1, 1, none⟩ = some b1 ∧ (∀ i, w3.frozen? ⟨w.heap.size + 1, i, none⟩ = false) := by
  have hs := hB.size
  simp only [World.size_alloc] at hs
  have e1 : w3.heap[w.heap.size]? = some (.cells #[a0, a1] T (0, 0)) := (hB.block _ (by simp; omega)).trans ((Below.heap_alloc _ _ _ (by simp)).trans (heap_alloc_new w _))
  have e2 : w3.heap[w.heap.size + 1]? = some (.cells #[b0, b1] T (0, 0)) := (hB.block _ (by simp)).trans (by
    have := heap_alloc_new (w.alloc (.cells #[a0, a1] T)) (.cells #[b0, b1] T)
    simpa using this)
  exact ⟨by omega, cell_of_row _ _ _ _ _ _ e1, cell_of_row _ _ _ _ _ _ e1, cell_of_row _ _ _ _ _ _ e2, cell_of_row _ _ _ _ _ _ e2, fun i => frozen_of_row _ _ _ _ _ e2⟩

theorem kept_far (w : World) (g B : Nat) (h : B ≤ g) (u v : Value) (o : Obj) : Kept w (((w.setCell ⟨g, 0, none⟩ u).setCell ⟨g, 1, none⟩ v).alloc o).drew (fun k => B ≤ k) := by
  have k1 : Kept w (w.setCell ⟨g, 0, none⟩ u) (fun k => B ≤ k) := (Kept.setCell w ⟨g, 0, none⟩ u).mono (fun k _ e => by have e' : k = g := e; show B ≤ k; omega)
  have k2 : Kept (w.setCell ⟨g, 0, none⟩ u) ((w.setCell ⟨g, 0, none⟩ u).setCell ⟨g, 1, none⟩ v) (fun k => B ≤ k) := (Kept.setCell _ ⟨g, 1, none⟩ v).mono (fun k _ e => by have e' : k = g := e; show B ≤ k; omega)
  exact ((k1.trans k2 (fun _ _ e => e)).trans (Kept.alloc _ o _) (fun _ _ e => e)).trans (Kept.drew _) (fun _ _ e => e.elim)

section
variable {w : World} {hb ab mb : Nat} {h : HSt} {L : List Pl}
theorem refR_some (x : HX w hb ab mb h L) {s : Nat} {f : Int} (hE : (refR h.cs s f).2 = 0) : ∃ p i, getP L s = some p ∧ f = (i : Nat) ∧ i < p.o.rf.length := by
  unfold refR at hE
  rw [x.get] at hE
  cases hg : getP L s with
  | none => rw [hg] at hE; cases hE
  | some p =>
    rw [hg] at hE
    simp only [Option.map_some] at hE
    split at hE
    · next hf => exact ⟨p, f.toNat, rfl, by omega, by omega⟩
    · cases hE
theorem goes_ref (x : HX w hb ab mb h L) {s : Nat} {p : Pl} (hg : getP L s = some p) {W W' : World} (hW : Below w.heap.size w W) (i : Nat) (hi : i < p.o.rf.length) (a : Int) (n : Nat)
    (hk : Kept ((W.setCell ⟨p.rb, i * 2, none⟩ (.int .i64 a)).setCell ⟨p.rb, i * 2 + 1, none⟩ (.int .u64 (n : Int))) W' (fun k => w.heap.size ≤ k)) : Goes w W' hb (fun k => k ∈ hBl hb ab mb L) { h with cs := updC h.cs s (fun o => o.setR i (a, n)) } := by
  obtain ⟨hp, _⟩ := getP_mem hg
  have xw := x.below hW
  have k1 : Kept W ((W.setCell ⟨p.rb, i * 2, none⟩ (.int .i64 a)).setCell ⟨p.rb, i * 2 + 1, none⟩ (.int .u64 (n : Int))) (fun k => k = p.rb) := (Kept.setCell W ⟨p.rb, i * 2, none⟩ _).trans (Kept.setCell _ ⟨p.rb, i * 2 + 1, none⟩ _) (fun _ _ e => e)
  have x1 := xw.setR hg i (a, n) k1 (by rw [← idsV_set _ _ hi]; exact ((xw.rows p hp).1.set _ _).set _ _)
  have hlt := x.lt
  refine (x1.kept hk (by have := x.tb.size; show ¬ (w.heap.size ≤ 0); omega) (fun k hk => ?_)).goes (((kept_of_below hW _).trans (kept_vb k1 (mem_rb hp)) (fun _ _ e => e)).trans hk (fun k h1 h2 => by have h2' : w.heap.size ≤ k := h2; omega)) (fun k hk => Or.inl (by rw [upL_hBl] at hk; exact hk))
  rw [upL_hBl] at hk
  have := hlt k hk
  show ¬ (w.heap.size ≤ k)
  omega

set_option maxRecDepth 20000 in
set_option maxHeartbeats 1000000 in
theorem hsetref_any (x : HX w hb ab mb h L) (s : Nat) (hs : s < 18446744073709551616) (f : Int) (a : Int) (n : Nat) :
    Calls Tryd.prog 30 #[.pointer (some ⟨hb, 0, none⟩), .int .u64 (s : Int), .int .i64 f, .agg #[.int .i64 a, .int .u64 (n : Int)]] w fun e w' => e = .returned (.tuple #[.agg #[.int .i64 (h.setRefR s f (a, n)).1.1, .int .u64 ((h.setRefR s f (a, n)).1.2 : Int)], .int .i64 ((h.setRefR s f (a, n)).2 : Int)]) ∧ Goes w w' hb (fun k => k ∈ hBl hb ab mb L) (h.setRefS s f (a, n)) := by
  have hR := fun w => right_any a n w
  have hA : Below w.heap.size w ((w.alloc (.cells #[.int .i64 a, .int .u64 (n : Int)] 51)).alloc (.cells #[.int .i64 0, .int .u64 0] 51)) := ((Below.refl _ _).alloc (Nat.le_refl _) _).alloc (by simp) _
  unfold HSt.setRefR HSt.setRefS
  by_cases hr : rightI (a, n) = true
  · rw [if_pos hr]
    rw [hr] at hR
    have hRef := fun W (hW : Below w.heap.size w W) => href_any (x.below hW) s hs f
    by_cases hE : (refR h.cs s f).2 = 0
    · rw [if_pos ⟨hr, hE⟩]
      obtain ⟨p, i, hg, rfl, hi⟩ := refR_some x hE
      obtain ⟨hp, _⟩ := getP_mem hg
      rw [refR_ok (by rw [x.get, hg]; rfl) hi] at hRef ⊢
      clear hE hr
      have hlk := fun W (hW : Below w.heap.size w W) => (x.below hW).lookS s hs hg
      unfold Pl.v at hlk
      have hF := fieldR
      have hfl := (x.fl hp).1
      have hii : (i : Int) < (p.o.rf.length : Int) := by omega
      have hrc := fun W (hW : Below w.heap.size w W) => (x.below hW).rc hp i hi
      have hfz := fun W (hW : Below w.heap.size w W) => ((x.below hW).rows p hp).1.frozen
      have hc4 := fun W (hW : Below w.heap.size w W) => (x.below hW).c4
      have hrl := (x.rows p hp).1.lt
      have HGo : Hid (∀ W W', Below w.heap.size w W → Kept ((W.setCell ⟨p.rb, i * 2, none⟩ (.int .i64 a)).setCell ⟨p.rb, i * 2 + 1, none⟩ (.int .u64 (n : Int))) W' (fun k => w.heap.size ≤ k) → Goes w W' hb (fun k => k ∈ hBl hb ab mb L) { h with cs := updC h.cs s (fun o => o.setR i (a, n)) }) := fun W W' hW hk => goes_ref x hg hW i hi a n hk
      simp only [Int.toNat_natCast]
      generalize p.o.rf[i] = z at *
      generalize p.o.rf.length = m at *
      go_enter Tryd.func30, Tryd.ntmps30
      go_wp2_with (first
        | (go_at_call 63; refine (hR _).mono ?_; rintro e w2 ⟨rfl, hb2⟩; have hB2 := hA.trans (hb2.mono (by simp; omega)))
        | (go_at_call 64; refine (hRef _ hB2).mono ?_; rintro e w3 ⟨rfl, hb3⟩; have hB3 := hB2.trans (hb3.mono hB2.size); obtain ⟨z3, q0, q1, q2, q3, q4⟩ := two_blocks (hb2.trans (hb3.mono hb2.size)); have l4 := fun o => hlk _ (hB3.alloc hB3.size o).drew; have d4 := fun o => hc4 _ (hB3.alloc hB3.size o); have r4 := fun o => (hrc _ (hB3.alloc hB3.size o)).1; have r5 := fun o => (hrc _ (hB3.alloc hB3.size o)).2; have z4 := fun o => hfz _ (hB3.alloc hB3.size o); have z5 : w.heap.size < w3.heap.size := by { omega }; have z6 : p.rb < w3.heap.size := by { omega }))
      go_region
      go_wp2
      refine bodyPost_ret (v := .tuple #[.agg #[.int .i64 z.1, .int .u64 (z.2 : Int)], .int .i64 0]) (by simp [results, Tryd.results30, go_sem, *]) rfl ⟨rfl, HGo.out w3 _ hB3 (kept_far _ _ _ (Nat.le_succ _) _ _ _)⟩
    · rw [if_neg (fun e => hE e.2)]
      generalize refR h.cs s f = v at *
      have hEi : ((v.2 : Int) == 0) = false := by rw [beq_eq_false_iff_ne]; omega
      clear hE hr
      have hx := x.hp
      go_enter Tryd.func30, Tryd.ntmps30
      go_wp2_with (first
        | (go_at_call 63; refine (hR _).mono ?_; rintro e w2 ⟨rfl, hb2⟩; have hB2 := hA.trans (hb2.mono (by simp; omega)))
        | (go_at_call 64; refine (hRef _ hB2).mono ?_; rintro e w3 ⟨rfl, hb3⟩; have hB3 := hB2.trans (hb3.mono hB2.size); obtain ⟨z3, q0, q1, q2, q3, q4⟩ := two_blocks (hb2.trans (hb3.mono hb2.size))))
      refine bodyPost_ret (v := .tuple #[.agg #[.int .i64 v.1.1, .int .u64 (v.1.2 : Int)], .int .i64 (v.2 : Int)]) (by simp [results, Tryd.results30, go_sem, *]) rfl ⟨rfl, hx.stay (((hB3.setCell (Nat.le_succ _) _).setCell (Nat.le_succ _) _).alloc (by simpa using hB3.size) _)⟩
  · rw [if_neg hr, if_neg (fun e => hr e.1)]
    rw [show rightI (a, n) = false by simpa using hr] at hR
    clear hr
    go_enter Tryd.func30, Tryd.ntmps30
    go_wp2_with (go_at_call 63; refine (hR _).mono ?_; rintro e w2 ⟨rfl, hb2⟩; have hB2 := hA.trans (hb2.mono (by simp; omega)); obtain ⟨z3, q0, q1, q2, q3, q4⟩ := two_blocks hb2)
    refine bodyPost_ret (v := .tuple #[.agg #[.int .i64 0, .int .u64 0], .int .i64 1]) (by simp [results, Tryd.results30, go_sem, *]) rfl ⟨rfl, x.hp.stay ((hB2.setCell (Nat.le_succ _) _).setCell (Nat.le_succ _) _)⟩
end

end Go.Proofs.YtdafpfdmnccelaaDoor
