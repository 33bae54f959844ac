/- within, right; Len, Last, Node, Used; Ref, Val. -/
import Derived.Test.YtebcigjnjapcgaaDoorHpD
namespace Go.Proofs.YtebcigjnjapcgaaDoor
open Go.RowKit

set_option maxRecDepth 20000 in
theorem fieldR (a b c d e : Value) (W : World) : (Instr.field 104 (.agg #[a, b, c, d, e]) 2).run Tryd.prog W = .ok c W := by rfl
set_option maxRecDepth 20000 in
theorem fieldV (a b c d e : Value) (W : World) : (Instr.field 104 (.agg #[a, b, c, d, e]) 3).run Tryd.prog W = .ok d W := by rfl

set_option maxRecDepth 20000 in
set_option maxHeartbeats 400000 in
theorem within_yes (n a b : Int) (h1 : a ≤ n) (h2 : n ≤ b) (w : World) :
    Calls Tryd.prog 45 #[.int .i64 n, .int .i64 a, .int .i64 b] w fun e w' => e = .returned (.bool true) ∧ w = w' := by
  go_enter Tryd.func45, Tryd.ntmps45
  go_wp2
  go_ret
  exact ⟨rfl, rfl⟩
set_option maxRecDepth 20000 in
set_option maxHeartbeats 400000 in
theorem within_no (n a b : Int) (h : n < a ∨ b < n) (w : World) :
    Calls Tryd.prog 45 #[.int .i64 n, .int .i64 a, .int .i64 b] w fun e w' => e = .returned (.bool false) ∧ w = w' := by
  by_cases h1 : n < a
  · go_enter Tryd.func45, Tryd.ntmps45
    go_wp2
    go_ret
    exact ⟨rfl, rfl⟩
  · have h2 : b < n := by omega
    have h3 : a ≤ n := by omega
    have hd : decide (n ≤ b) = false := decide_eq_false (by omega)
    clear h h1
    go_enter Tryd.func45, Tryd.ntmps45
    go_wp2
    go_ret
    exact ⟨rfl, rfl⟩

section
variable {w : World} {hb ab mb : Nat} {h : HSt} {L : List Pl}
set_option maxRecDepth 20000 in
set_option maxHeartbeats 400000 in
theorem hnode_any (x : HX w hb ab mb h L) :
    Calls Tryd.prog 37 #[.pointer (some ⟨hb, 0, none⟩)] w fun e w' => e = .returned (.int .i64 (h.node : Int)) ∧ w = w' := by
  have c0 := x.c0
  go_enter Tryd.func37, Tryd.ntmps37
  go_wp2
  go_ret
  exact ⟨rfl, rfl⟩

theorem refR_no {cs : List Oc} {s : Nat} {f : Int} (hn : ∀ o, getC cs s = some o → f < 0 ∨ (o.rf.length : Int) ≤ f) : refR cs s f = ((0, 0), 5) := by
  unfold refR
  cases hg : getC cs s with
  | none => rfl
  | some o => exact if_neg (by have := hn o hg; omega)
theorem refR_ok {cs : List Oc} {s i : Nat} {o : Oc} (hg : getC cs s = some o) (hi : i < o.rf.length) : refR cs s (i : Int) = (o.rf[i], 0) := by
  unfold refR
  rw [hg]
  simp only
  rw [if_pos (by omega), Int.toNat_natCast, List.getD_eq_getElem?_getD, List.getElem?_eq_getElem hi]
  rfl
theorem valR_no {cs : List Oc} {s : Nat} {f : Int} (hn : ∀ o, getC cs s = some o → f < 0 ∨ (o.vl.length : Int) ≤ f) : valR cs s f = (0, 5) := by
  unfold valR
  cases hg : getC cs s with
  | none => rfl
  | some o => exact if_neg (by have := hn o hg; omega)
theorem valR_ok {cs : List Oc} {s i : Nat} {o : Oc} (hg : getC cs s = some o) (hi : i < o.vl.length) : valR cs s (i : Int) = (o.vl[i], 0) := by
  unfold valR
  rw [hg]
  simp only
  rw [if_pos (by omega), Int.toNat_natCast, List.getD_eq_getElem?_getD, List.getElem?_eq_getElem hi]
  rfl

set_option maxRecDepth 20000 in
set_option maxHeartbeats 1000000 in
theorem href_any (x : HX w hb ab mb h L) (s : Nat) (hs : s < 18446744073709551616) (f : Int) :
    Calls Tryd.prog 51 #[.pointer (some ⟨hb, 0, none⟩), .int .u64 (s : Int), .int .i64 f] w fun e w' => e = .returned (.tuple #[.agg #[.int .i64 (refR h.cs s f).1.1, .int .u64 ((refR h.cs s f).1.2 : Int)], .int .i64 ((refR h.cs s f).2 : Int)]) ∧ Below w.heap.size w w' := by
  have hA : Below w.heap.size w (w.alloc (.cells #[.int .i64 0, .int .u64 0] 47)) := (Below.refl _ _).alloc (Nat.le_refl _) _
  have x1 := x.below hA
  have c4 := x1.c4
  have hF := fieldR
  cases hg : getP L s with
  | none =>
    rw [refR_no (fun o ho => by rw [x.get, hg] at ho; cases ho)]
    have hlk := x1.lookN s hs hg
    unfold zO at hlk
    have hwn := fun w => within_no f 0 (-1) (by omega) w
    go_enter Tryd.func51, Tryd.ntmps51
    go_wp2_with (go_at_call 45; refine (hwn _).mono ?_; rintro e _ ⟨rfl, rfl⟩)
    refine bodyPost_ret (v := .tuple #[.agg #[.int .i64 0, .int .u64 0], .int .i64 5]) (by simp [results, Tryd.results51, go_sem, *]) rfl ⟨rfl, ?_⟩
    exact (Below.refl _ _).alloc (Nat.le_refl _) _
  | some p =>
    obtain ⟨hp, _⟩ := getP_mem hg
    have hgc : getC h.cs s = some p.o := by rw [x.get, hg]; rfl
    have hlk := x1.lookS s hs hg
    unfold Pl.v at hlk
    have hfl := (x.fl hp).1
    by_cases hf : f < 0 ∨ (p.o.rf.length : Int) ≤ f
    · rw [refR_no (fun o ho => by rw [hgc] at ho; cases ho; exact hf)]
      have hwn := fun w => within_no f 0 ((p.o.rf.length : Int) - 1) (by omega) w
      clear hf
      generalize p.o.rf.length = n at *
      go_enter Tryd.func51, Tryd.ntmps51
      go_wp2_with (go_at_call 45; refine (hwn _).mono ?_; rintro e _ ⟨rfl, rfl⟩)
      refine bodyPost_ret (v := .tuple #[.agg #[.int .i64 0, .int .u64 0], .int .i64 5]) (by simp [results, Tryd.results51, go_sem, *]) rfl ⟨rfl, ?_⟩
      exact (Below.refl _ _).alloc (Nat.le_refl _) _
    · obtain ⟨i, rfl⟩ : ∃ i : Nat, f = (i : Int) := ⟨f.toNat, by omega⟩
      have hi : i < p.o.rf.length := by omega
      rw [refR_ok hgc hi]
      have hwy := fun w => within_yes (i : Int) 0 ((p.o.rf.length : Int) - 1) (by omega) (by omega) w
      obtain ⟨r0, r1⟩ := x1.rc hp i hi
      have hrl := (x.rows p hp).1.lt
      have hii : (i : Int) < (p.o.rf.length : Int) := by omega
      generalize p.o.rf[i] = y at *
      generalize p.o.rf.length = n at *
      clear hf
      go_enter Tryd.func51, Tryd.ntmps51
      go_wp2_with (go_at_call 45; refine (hwy _).mono ?_; rintro e _ ⟨rfl, rfl⟩)
      refine bodyPost_ret (v := .tuple #[.agg #[.int .i64 y.1, .int .u64 (y.2 : Int)], .int .i64 0]) (by simp [results, Tryd.results51, go_sem, *]) rfl ⟨rfl, ?_⟩
      exact (Below.refl _ _).alloc (Nat.le_refl _) _

end

end Go.Proofs.YtebcigjnjapcgaaDoor
