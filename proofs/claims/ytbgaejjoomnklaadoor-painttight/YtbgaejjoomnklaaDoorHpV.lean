/- The plain heap: SetVal, SetIn, SetRef. -/
import Derived.Test.YtbgaejjoomnklaaDoorHpU
import Derived.Deep.RegionWith
namespace Go.Proofs.YtbgaejjoomnklaaDoor
open Go.RowKit

section
variable {w : World} {rb ra rc rt : Nat} {lv : Value} {h : HSt} {M : List Pl}
set_option maxRecDepth 20000 in
set_option maxHeartbeats 1000000 in
theorem rsetin_any (x : RX w rb ra rc rt lv h M) (s : Nat) (d : Int) :
    Calls Tryd.prog 45 #[.pointer (some ⟨rb, 0, none⟩), .int .u64 (s : Int), .int .i64 d] w fun e w' => e = .returned (.int .i64 (h.setInR s d : Int)) ∧ RGoes w w' rb (fun k => k ∈ rBl rb ra rc rt lv M) (h.setInS s d) := by
  have hG := rget_any x s
  unfold ptrOf at hG
  unfold HSt.setInR HSt.setInS
  by_cases hd0 : d < 0
  · rw [if_neg (by omega), if_neg (by omega)]
    go_enter Tryd.func45, Tryd.ntmps45
    go_wp2
    go_ret
    exact ⟨rfl, x.goes (Kept.refl _ _) (fun k hk => Or.inl hk)⟩
  by_cases hd1 : 40 < d
  · rw [if_neg (by omega), if_neg (by omega)]
    go_enter Tryd.func45, Tryd.ntmps45
    go_wp2
    go_ret
    exact ⟨rfl, x.goes (Kept.refl _ _) (fun k hk => Or.inl hk)⟩
  rw [if_pos (by omega)]
  cases hg : getP M s with
  | none =>
    have hgc : getC h.cs s = none := by rw [x.get, hg]; rfl
    rw [hgc, if_neg (by simp), if_neg (by simp)]
    rw [hg] at hG
    simp only [Option.map_none] at hG
    go_enter Tryd.func45, Tryd.ntmps45
    go_wp2_with (go_at_call 63; refine hG.mono ?_; rintro e _ ⟨rfl, rfl⟩)
    go_ret
    exact ⟨rfl, x.goes (Kept.refl _ _) (fun k hk => Or.inl hk)⟩
  | some p =>
    have hp := (getP_mem hg).1
    have hgc : getC h.cs s = some p.o := by rw [x.get, hg]; rfl
    obtain ⟨j, rfl⟩ : ∃ j : Nat, d = (j : Int) := ⟨d.toNat, by omega⟩
    rw [hgc, if_pos (by simp), if_pos (by simp; omega)]
    simp only [Int.toNat_natCast]
    rw [hg] at hG
    simp only [Option.map_some] at hG
    have d4 := x.pc hp 4 _ rfl
    have f4 := (x.rows p hp).1.frozen 4
    have HX' : Hid _ := hidden (x.setD hg j (by omega))
    have HM : Hid (p.pb ∈ rBl rb ra rc rt lv M) := hidden (memR hp (by simp [Pl.bl3]))
    go_enter Tryd.func45, Tryd.ntmps45
    go_wp2_with (go_at_call 63; refine hG.mono ?_; rintro e _ ⟨rfl, rfl⟩)
    go_ret
    exact ⟨rfl, HX'.out.goes (kept_r (Kept.setCell _ _ _) HM.out) (fun k hk => Or.inl (by rw [upL_rBl] at hk; exact hk))⟩

theorem rgoes_ref (x : RX w rb ra rc rt lv h M) {s : Nat} {p : Pl} (hg : getP M s = some p) {W W' : World} (hW : Below w.heap.size w W) (i : Nat) (hi : i < p.o.rf.length) (a : Int) (n : Nat)
    (hk : Kept ((W.setCell ⟨p.rb, i * 2, none⟩ (.int .i64 a)).setCell ⟨p.rb, i * 2 + 1, none⟩ (.int .u64 (n : Int))) W' (fun k => w.heap.size ≤ k)) : RGoes w W' rb (fun k => k ∈ rBl rb ra rc rt lv M) { h with cs := updC h.cs s (fun o => o.setR i (a, n)) } := by
  obtain ⟨hp, _⟩ := getP_mem hg
  have xw := x.below hW
  have k1 : Kept W ((W.setCell ⟨p.rb, i * 2, none⟩ (.int .i64 a)).setCell ⟨p.rb, i * 2 + 1, none⟩ (.int .u64 (n : Int))) (fun k => k = p.rb) := (Kept.setCell W ⟨p.rb, i * 2, none⟩ _).trans (Kept.setCell _ ⟨p.rb, i * 2 + 1, none⟩ _) (fun _ _ e => e)
  have x1 := xw.setR hg i (a, n) k1 (by rw [← idsV_set _ _ hi]; exact ((xw.rows p hp).2.1.set _ _).set _ _)
  have hlt := x.lt
  refine (x1.kept hk (fun k hk => ?_)).goes (((kept_of_below hW _).trans (kept_r k1 (memR hp (by simp [Pl.bl3]))) (fun _ _ e => e)).trans hk (fun k h1 h2 => by have h2' : w.heap.size ≤ k := h2; omega)) (fun k hk => Or.inl (by rw [upL_rBl] at hk; exact hk))
  rw [upL_rBl] at hk
  have := hlt k hk
  show ¬ (w.heap.size ≤ k)
  omega

set_option maxRecDepth 20000 in
set_option maxHeartbeats 1000000 in
theorem rsetref_any (x : RX w rb ra rc rt lv h M) (s : Nat) (f : Int) (a : Int) (n : Nat) :
    Calls Tryd.prog 42 #[.pointer (some ⟨rb, 0, none⟩), .int .u64 (s : Int), .int .i64 f, .agg #[.int .i64 a, .int .u64 (n : Int)]] w fun e w' => e = .returned (.tuple #[.agg #[.int .i64 (h.setRefR s f (a, n)).1.1, .int .u64 ((h.setRefR s f (a, n)).1.2 : Int)], .int .i64 ((h.setRefR s f (a, n)).2 : Int)]) ∧ RGoes w w' rb (fun k => k ∈ rBl rb ra rc rt lv M) (h.setRefS s f (a, n)) := by
  have hR := fun w => rid_any a n w
  have hA : Below w.heap.size w ((w.alloc (.cells #[.int .i64 a, .int .u64 (n : Int)] 31)).alloc (.cells #[.int .i64 0, .int .u64 0] 31)) := ((Below.refl _ _).alloc (Nat.le_refl _) _).alloc (by simp) _
  unfold HSt.setRefR HSt.setRefS
  by_cases hr : rightI (a, n) = true
  · rw [if_pos hr]
    rw [hr] at hR
    have hRef := fun W (hW : Below w.heap.size w W) => rref_any (x.below hW) s f
    by_cases hE : (refR h.cs s f).2 = 0
    · rw [if_pos ⟨hr, hE⟩]
      obtain ⟨p, i, hg, rfl, hi⟩ := rrefR_some x hE
      have hp := (getP_mem hg).1
      rw [refR_ok (by rw [x.get, hg]; rfl) hi] at hRef ⊢
      clear hE hr
      have hGt : ∀ W, Below w.heap.size w W → Calls Tryd.prog 63 #[.pointer (some ⟨rb, 0, none⟩), .int .u64 (s : Int)] W fun e w' => e = .returned (.pointer (some ⟨p.pb, 0, none⟩)) ∧ W = w' := fun W hW => by
        have := rget_any (x.below hW) s
        unfold ptrOf at this
        rw [hg] at this
        exact this
      have hfl := (x.fl hp).1
      have hii : (i : Int) < (p.o.rf.length : Int) := by omega
      have hd2 := fun W (hW : Below w.heap.size w W) => (x.below hW).pc hp 2 _ rfl
      have hrc := fun W (hW : Below w.heap.size w W) => (x.below hW).rc' hp i hi
      have hfz := fun W (hW : Below w.heap.size w W) => ((x.below hW).rows p hp).2.1.frozen
      have hrl := (x.rows p hp).2.1.lt
      have HGo : Hid (∀ W W', Below w.heap.size w W → Kept ((W.setCell ⟨p.rb, i * 2, none⟩ (.int .i64 a)).setCell ⟨p.rb, i * 2 + 1, none⟩ (.int .u64 (n : Int))) W' (fun k => w.heap.size ≤ k) → RGoes w W' rb (fun k => k ∈ rBl rb ra rc rt lv M) { h with cs := updC h.cs s (fun o => o.setR i (a, n)) }) := fun W W' hW hk => rgoes_ref x hg hW i hi a n hk
      simp only [Int.toNat_natCast]
      generalize p.o.rf[i] = z at *
      generalize p.o.rf.length = m at *
      go_enter Tryd.func42, Tryd.ntmps42
      go_wp2_with (first
        | (go_at_call 61; refine (hR _).mono ?_; rintro e w2 ⟨rfl, hb2⟩; have hB2 := hA.trans (hb2.mono (by simp; omega)))
        | (go_at_call 62; refine (hRef _ hB2).mono ?_; rintro e w3 ⟨rfl, hb3⟩; have hB3 := hB2.trans (hb3.mono hB2.size); obtain ⟨z3, q0, q1, q2, q3, q4⟩ := two_blocks (hb2.trans (hb3.mono hb2.size)); have l4 := fun o => hGt _ (hB3.alloc hB3.size o).drew; have d4 := fun o => hd2 _ (hB3.alloc hB3.size o); have r4 := fun o => (hrc _ (hB3.alloc hB3.size o)).1; have r5 := fun o => (hrc _ (hB3.alloc hB3.size o)).2; have z4 := fun o => hfz _ (hB3.alloc hB3.size o); have z5 : w.heap.size < w3.heap.size := by { omega }; have z6 : p.rb < w3.heap.size := by { omega }))
      go_region_with (go_at_call 63; refine (l4 _).mono ?_; rintro e _ ⟨rfl, rfl⟩)
      all_goals
        go_wp2
        refine bodyPost_ret (v := .tuple #[.agg #[.int .i64 z.1, .int .u64 (z.2 : Int)], .int .i64 0]) (by simp [results, Tryd.results42, go_sem, *]) rfl ⟨rfl, HGo.out w3 _ hB3 (kept_far _ _ _ (Nat.le_succ _) _ _ _)⟩
    · rw [if_neg (fun e => hE e.2)]
      generalize refR h.cs s f = v at *
      have hEi : ((v.2 : Int) == 0) = false := by rw [beq_eq_false_iff_ne]; omega
      clear hE hr
      have hx := x.rp
      go_enter Tryd.func42, Tryd.ntmps42
      go_wp2_with (first
        | (go_at_call 61; refine (hR _).mono ?_; rintro e w2 ⟨rfl, hb2⟩; have hB2 := hA.trans (hb2.mono (by simp; omega)))
        | (go_at_call 62; refine (hRef _ hB2).mono ?_; rintro e w3 ⟨rfl, hb3⟩; have hB3 := hB2.trans (hb3.mono hB2.size); obtain ⟨z3, q0, q1, q2, q3, q4⟩ := two_blocks (hb2.trans (hb3.mono hb2.size))))
      refine bodyPost_ret (v := .tuple #[.agg #[.int .i64 v.1.1, .int .u64 (v.1.2 : Int)], .int .i64 (v.2 : Int)]) (by simp [results, Tryd.results42, go_sem, *]) rfl ⟨rfl, hx.stay (((hB3.setCell (Nat.le_succ _) _).setCell (Nat.le_succ _) _).alloc (by simpa using hB3.size) _)⟩
  · rw [if_neg hr, if_neg (fun e => hr e.1)]
    rw [show rightI (a, n) = false by simpa using hr] at hR
    clear hr
    go_enter Tryd.func42, Tryd.ntmps42
    go_wp2_with (go_at_call 61; refine (hR _).mono ?_; rintro e w2 ⟨rfl, hb2⟩; have hB2 := hA.trans (hb2.mono (by simp; omega)); obtain ⟨z3, q0, q1, q2, q3, q4⟩ := two_blocks hb2)
    refine bodyPost_ret (v := .tuple #[.agg #[.int .i64 0, .int .u64 0], .int .i64 1]) (by simp [results, Tryd.results42, go_sem, *]) rfl ⟨rfl, x.rp.stay ((hB2.setCell (Nat.le_succ _) _).setCell (Nat.le_succ _) _)⟩
end

end Go.Proofs.YtbgaejjoomnklaaDoor
