/- Roots that are new; the law's own example. -/
import Derived.Test.YtfoodmlgknckgaaRoD
namespace Go.Proofs.Ytfoodmlgknckgaa
open Go.RowKit

/-- Roots whose blocks lie from B on; below B all is as it was in w0. -/
structure LR (w0 : World) (B : Nat) (w : World) (rb tb cap : Nat) (gs : List Nat) (K : Nat) (S : List Rw) : Prop where
  x : RX w rb tb cap gs K S
  bel : Below B w0 w
  le : B ≤ w.heap.size
  ge : ∀ k, rBl rb tb gs k → B ≤ k
section
variable {w0 w w' : World} {B rb tb cap K : Nat} {gs : List Nat} {S S' : List Rw}
theorem LR.read (x : LR w0 B w rb tb cap gs K S) (hb : Below w.heap.size w w') : LR w0 B w' rb tb cap gs K S :=
  ⟨x.x.below hb, x.bel.trans (hb.mono x.le), Nat.le_trans x.le hb.size, x.ge⟩
theorem LR.go (x : LR w0 B w rb tb cap gs K S) (h : RGo w w' rb tb cap gs K S') : LR w0 B w' rb tb cap gs K S' :=
  ⟨h.x, x.bel.trans (h.k.below x.le (fun i hi e => by have := x.ge i (Or.inr (Or.inr e)); omega)), Nat.le_trans x.le h.k.size, x.ge⟩
/-- Other blocks are written. -/
theorem LR.other (x : LR w0 B w rb tb cap gs K S) {P : Nat → Prop} (hk : Kept w w' P) (h1 : ∀ k, P k → B ≤ k) (h2 : ∀ k, rBl rb tb gs k → ¬ P k) : LR w0 B w' rb tb cap gs K S :=
  ⟨x.x.kept hk h2, x.bel.trans (hk.below x.le (fun i hi e => by have := h1 i e; omega)), Nat.le_trans x.le hk.size, x.ge⟩
theorem LR.new (M K : Nat) (h1 : 1 ≤ M ∧ M ≤ 4) (h2 : 1 ≤ K ∧ K ≤ 8) (w : World) :
    Calls Try.prog 7 #[.int .i64 (M : Int), .int .i64 (K : Int)] w fun e w' => ∃ rb tb gs, e = .returned (.tuple #[.pointer (some ⟨rb, 0, none⟩), .int .i64 0]) ∧ LR w w.heap.size w' rb tb M gs K (List.replicate M (List.replicate K (0, 0))) :=
  (new_ok M K h1 h2 w).mono (fun _ _ ⟨rb, tb, gs, e, hx, hg, hb⟩ => ⟨rb, tb, gs, e, hx, hb, hb.size, hg⟩)
theorem LR.set (x : LR w0 B w rb tb cap gs K S) (m s a : Int) (n : Nat) :
    Calls Try.prog 9 #[.pointer (some ⟨rb, 0, none⟩), .int .i64 m, .int .i64 s, .agg #[.int .i64 a, .int .u64 (n : Int)]] w fun e w' => e = .returned (.bool (setB S m s (a, n))) ∧ LR w0 B w' rb tb cap gs K (setS S m s (a, n)) ∧ Kept w w' (fun k => k ∈ gs) :=
  (set_any x.x m s a n).mono (fun _ _ ⟨h1, h2⟩ => ⟨h1, x.go h2, h2.k⟩)
theorem LR.of (x : LR w0 B w rb tb cap gs K S) (m : Int) :
    Calls Try.prog 10 #[.pointer (some ⟨rb, 0, none⟩), .int .i64 m] w fun e w' => ∃ v, e = .returned v ∧ OwI w' w.heap.size v (ofR S m) ∧ LR w0 B w' rb tb cap gs K S ∧ Below w.heap.size w w' :=
  (of_any x.x m).mono (fun _ _ ⟨v, h1, h2, h3⟩ => ⟨v, h1, h2, x.read h3, h3⟩)
theorem LR.all (x : LR w0 B w rb tb cap gs K S) :
    Calls Try.prog 11 #[.pointer (some ⟨rb, 0, none⟩)] w fun e w' => ∃ v, e = .returned v ∧ OwI w' w.heap.size v (allR S) ∧ LR w0 B w' rb tb cap gs K S ∧ Below w.heap.size w w' :=
  (all_any x.x).mono (fun _ _ ⟨v, h1, h2, h3⟩ => ⟨v, h1, h2, x.read h3, h3⟩)
theorem LR.count (x : LR w0 B w rb tb cap gs K S) (a : Int) (n : Nat) :
    Calls Try.prog 12 #[.pointer (some ⟨rb, 0, none⟩), .agg #[.int .i64 a, .int .u64 (n : Int)]] w fun e w' => e = .returned (.int .i64 (cntR S (a, n) : Int)) ∧ LR w0 B w' rb tb cap gs K S ∧ Below w.heap.size w w' :=
  (count_any x.x a n).mono (fun _ _ ⟨h1, h2⟩ => ⟨h1, x.read h2, h2⟩)
theorem LR.get (x : LR w0 B w rb tb cap gs K S) (m s : Int) :
    Calls Try.prog 17 #[.pointer (some ⟨rb, 0, none⟩), .int .i64 m, .int .i64 s] w fun e w' => e = .returned (.tuple #[.agg #[.int .i64 (getR S m s).1.1, .int .u64 ((getR S m s).1.2 : Int)], .bool (getR S m s).2]) ∧ LR w0 B w' rb tb cap gs K S ∧ Below w.heap.size w w' :=
  (get_any x.x m s).mono (fun _ _ ⟨h1, h2⟩ => ⟨h1, x.read h2, h2⟩)
end

/-- The example's roots. -/
def sEx : List Rw := List.replicate 2 (List.replicate 2 (0, 0))
theorem ex1 : setB sEx 1 1 (3, 4) = true := by decide
theorem ex2 : setB (setS sEx 1 1 (3, 4)) 2 0 (3, 4) = false := by decide
theorem ex3 : setS (setS sEx 1 1 (3, 4)) 2 0 (3, 4) = setS sEx 1 1 (3, 4) := by decide
theorem ex4 : getR (setS sEx 1 1 (3, 4)) 1 1 = ((3, 4), true) := by decide

set_option maxRecDepth 20000 in
set_option maxHeartbeats 1000000 in
theorem rknown_any (w : World) :
    Calls Try.prog 8 #[] w fun e w' => e = .returned (.bool true) ∧ Below w.heap.size w w' := by
  have hN : Calls Try.prog 7 #[.int .i64 2, .int .i64 2] w fun e w' => ∃ rb tb gs, e = .returned (.tuple #[.pointer (some ⟨rb, 0, none⟩), .int .i64 0]) ∧ LR w w.heap.size w' rb tb 2 gs 2 sEx := LR.new 2 2 (by omega) (by omega) w
  have h1 := fun W rb tb gs (y : LR w w.heap.size W rb tb 2 gs 2 sEx) => y.set 1 1 3 4
  have h2 := fun W rb tb gs (y : LR w w.heap.size W rb tb 2 gs 2 (setS sEx 1 1 (3, 4))) => y.set 2 0 3 4
  have h3 := fun W rb tb gs (y : LR w w.heap.size W rb tb 2 gs 2 (setS sEx 1 1 (3, 4))) => y.get 1 1
  rw [ex1] at h1
  rw [ex2, ex3] at h2
  rw [ex4] at h3
  simp only at h3
  generalize setS sEx 1 1 (3, 4) = S1 at *
  generalize sEx = S0 at *
  have hg := guardID
  have he := eqID
  go_enter Try.func8, Try.ntmps8
  go_wp2_with fail
  refine hN.mono ?_
  rintro e w1 ⟨rb, tb, gs, rfl, x1⟩
  go_wp2_with fail
  refine (h1 _ _ _ _ x1).mono ?_
  rintro e w2 ⟨rfl, x2, _⟩
  go_wp2_with fail
  refine (h2 _ _ _ _ x2).mono ?_
  rintro e w3 ⟨rfl, x3, _⟩
  go_wp2_with fail
  refine (h3 _ _ _ _ x3).mono ?_
  rintro e w4 ⟨rfl, x4, _⟩
  have HB : Hid _ := hidden x4
  clear x1 x2 x3 x4 h1 h2 h3 hN
  go_wp2
  go_ret
  exact ⟨rfl, (HB.out.read (bel_alloc _ _)).bel⟩

theorem ex5 : ofR (setS sEx 1 1 (3, 4)) 1 = [(3, 4)] := by decide
theorem ex6 : allR (setS sEx 1 1 (3, 4)) = [(3, 4)] := by decide
theorem ex7 : cntR (setS sEx 1 1 (3, 4)) (3, 4) = 1 := by decide
theorem ex8 : cntR (setS sEx 1 1 (3, 4)) (0, 0) = 3 := by decide
theorem ex9 : setB (setS sEx 1 1 (3, 4)) 0 0 (65, 1) = false := by decide
theorem ex10 : setS (setS sEx 1 1 (3, 4)) 0 0 (65, 1) = setS sEx 1 1 (3, 4) := by decide
theorem ex11 : setB (setS sEx 1 1 (3, 4)) 0 0 (1, 0) = false := by decide
theorem ex12 : setS (setS sEx 1 1 (3, 4)) 0 0 (1, 0) = setS sEx 1 1 (3, 4) := by decide
/-- A list of one ID. -/
theorem OwI.one {w : World} {B : Nat} {v : Value} {a : Int} {n : Nat} (h : OwI w B v [(a, n)]) : ∃ g c, v = .slice (some ⟨g, 0, none⟩) 1 c ∧ 1 ≤ c ∧ c ≤ maxLen ∧ w.cell? ⟨g, 0, none⟩ = some (.int .i64 a) ∧ w.cell? ⟨g, 1, none⟩ = some (.int .u64 (n : Int)) := by
  have hs := h.sr
  obtain ⟨ao, c, rfl, h1, h2, h3⟩ := h.slice
  rcases h.2 with ⟨_, h0⟩ | ⟨g, cap, cur, he, _, _, _⟩
  · cases h0
  · simp only [Value.slice.injEq] at he
    obtain ⟨rfl, _, rfl⟩ := he
    rcases hs.val with ⟨h0, _⟩ | ⟨ad, k, h0, hc⟩
    · cases h0
    · simp only [Value.slice.injEq, Option.some.injEq] at h0
      obtain ⟨rfl, _, rfl⟩ := h0
      have c0 := hc 0 _ rfl
      have c1 := hc 1 _ rfl
      rw [Addr.add_at] at c0 c1
      exact ⟨g, c, rfl, by simpa using h1, h2, by simpa using c0, by simpa using c1⟩

set_option maxRecDepth 20000 in
set_option maxHeartbeats 1000000 in
theorem rootsKnown_any (w : World) :
    Calls Try.prog 3 #[] w fun e w' => e = .returned (.bool true) ∧ Below w.heap.size w w' := by
  have hNo1 := fun W => new_no 1 9 (by omega) W
  have hNo2 := fun W => new_no 0 1 (by omega) W
  have hNo3 := fun W => new_no 5 1 (by omega) W
  have hN : ∀ w, Calls Try.prog 7 #[.int .i64 2, .int .i64 2] w fun e w' => ∃ rb tb gs, e = .returned (.tuple #[.pointer (some ⟨rb, 0, none⟩), .int .i64 0]) ∧ LR w w.heap.size w' rb tb 2 gs 2 sEx := fun w => LR.new 2 2 (by omega) (by omega) w
  have h1 := fun W rb tb gs (y : LR w w.heap.size W rb tb 2 gs 2 sEx) => y.set 1 1 3 4
  rw [ex1] at h1
  have h5 := fun W rb tb gs (y : LR w w.heap.size W rb tb 2 gs 2 (setS sEx 1 1 (3, 4))) => y.of 1
  have h6 := fun W rb tb gs (y : LR w w.heap.size W rb tb 2 gs 2 (setS sEx 1 1 (3, 4))) => y.all
  have h7 := fun W rb tb gs (y : LR w w.heap.size W rb tb 2 gs 2 (setS sEx 1 1 (3, 4))) => y.count 3 4
  have h8 := fun W rb tb gs (y : LR w w.heap.size W rb tb 2 gs 2 (setS sEx 1 1 (3, 4))) => y.count 0 0
  have h9 := fun W rb tb gs (y : LR w w.heap.size W rb tb 2 gs 2 (setS sEx 1 1 (3, 4))) => y.set 0 0 65 1
  have h10 := fun W rb tb gs (y : LR w w.heap.size W rb tb 2 gs 2 (setS sEx 1 1 (3, 4))) => y.set 0 0 1 0
  rw [ex5] at h5
  rw [ex6] at h6
  rw [ex7] at h7
  rw [ex8] at h8
  rw [ex9, ex10] at h9
  rw [ex11, ex12] at h10
  generalize setS sEx 1 1 (3, 4) = S1 at *
  generalize sEx = S0 at *
  have hg := guardID
  have he := eqID
  go_enter Try.func3, Try.ntmps3
  go_wp2_with fail
  refine (hNo1 _).mono ?_
  rintro e _ ⟨rfl, rfl⟩
  go_wp2_with fail
  refine (hNo2 _).mono ?_
  rintro e _ ⟨rfl, rfl⟩
  go_wp2_with fail
  refine (hNo3 _).mono ?_
  rintro e _ ⟨rfl, rfl⟩
  go_wp2_with fail
  refine (hN _).mono ?_
  rintro e w1 ⟨rb, tb, gs, rfl, x1⟩
  clear hNo1 hNo2 hNo3 hN
  go_wp2_with fail
  refine (rknown_any _).mono ?_
  rintro e w2 ⟨rfl, b2⟩
  have x2 := x1.read b2
  clear x1 b2
  go_wp2_with fail
  refine (h1 _ _ _ _ x2).mono ?_
  rintro e w3 ⟨rfl, x3, _⟩
  clear h1 x2
  go_wp2_with fail
  refine (h5 _ _ _ _ x3).mono ?_
  rintro e w4 ⟨v4, rfl, o4, x4, _⟩
  obtain ⟨g, c, rfl, hc1, hc2, c0, c1⟩ := o4.one
  clear h5 x3 o4
  go_wp2_with fail
  refine (h6 _ _ _ _ x4).mono ?_
  rintro e w5 ⟨v5, rfl, o5, x5, _⟩
  obtain ⟨g5, k5, rfl, _⟩ := o5.one
  clear h6 x4 o5 c0 c1
  go_wp2_with fail
  refine (h7 _ _ _ _ x5).mono ?_
  rintro e w6 ⟨rfl, x6, _⟩
  clear h7 x5
  go_wp2_with fail
  refine (h8 _ _ _ _ x6).mono ?_
  rintro e w7 ⟨rfl, x7, _⟩
  clear h8 x6
  go_wp2_with fail
  refine (h9 _ _ _ _ x7).mono ?_
  rintro e w8 ⟨rfl, x8, _⟩
  clear h9 x7
  go_wp2_with fail
  refine (h10 _ _ _ _ x8).mono ?_
  rintro e w9 ⟨rfl, x9, _⟩
  clear h10 x8
  have HB : Hid _ := hidden x9.bel
  clear x9
  go_wp2
  go_ret
  exact ⟨rfl, HB.out⟩

end Go.Proofs.Ytfoodmlgknckgaa
