/- A shake that is new since a world; the law's own example; ShakeKnown. -/
import Derived.Test.YtbbdcjllmjhiiaaShC
namespace Go.Proofs.Ytbbdcjllmjhiiaa
open Go.RowKit

/-- A shake whose blocks lie from B on; below B all is as it was in w0. -/
structure LX (w0 : World) (B : Nat) (w : World) (sb ga gs n : Nat) (s : St) : Prop where
  x : PX w sb ga gs (n + 1) s
  inv : Inv n s
  bel : Below B w0 w
  le : B ≤ w.heap.size
  ge : ∀ k, xBl sb ga gs k → B ≤ k
section
variable {w0 w w' : World} {B sb ga gs n : Nat} {s s' : St}
theorem LX.one (x : LX w0 B w sb ga gs n s) : 1 ≤ n ∧ n ≤ 4 := by have := x.x.few; omega
theorem LX.read (x : LX w0 B w sb ga gs n s) (hb : Below w.heap.size w w') : LX w0 B w' sb ga gs n s :=
  ⟨x.x.below hb, x.inv, x.bel.trans (hb.mono x.le), Nat.le_trans x.le hb.size, x.ge⟩
theorem LX.other (x : LX w0 B w sb ga gs n s) {P : Nat → Prop} (hk : Kept w w' P) (h1 : ∀ k, P k → B ≤ k) (h2 : ∀ k, xBl sb ga gs k → ¬ P k) : LX w0 B w' sb ga gs n s :=
  ⟨x.x.kept hk h2, x.inv, x.bel.trans (hk.below x.le (fun i hi e => by have := h1 i e; omega)), Nat.le_trans x.le hk.size, x.ge⟩
theorem LX.go (x : LX w0 B w sb ga gs n s) (hx : PX w' sb ga gs (n + 1) s') (hi : Inv n s') (hk : Kept w w' (xBl sb ga gs)) : LX w0 B w' sb ga gs n s' :=
  ⟨hx, hi, x.bel.trans (hk.below x.le (fun i hi e => by have := x.ge i e; omega)), Nat.le_trans x.le hk.size, x.ge⟩
theorem LX.new (n : Nat) (hn : 1 ≤ n ∧ n ≤ 4) (w : World) :
    Calls Try.prog 7 #[.int .i64 (n : Int)] w fun e w' => e = .returned (.tuple #[.pointer (some ⟨w.heap.size, 0, none⟩), .int .i64 0]) ∧ ∃ ga gs, LX w w.heap.size w' w.heap.size ga gs n (St.new n) :=
  (snew_ok n hn w).mono (fun _ _ ⟨e, ga, gs, hx, hb, h1, h2⟩ => ⟨e, ga, gs, hx, Inv.new n, hb, hb.size, fun k hk => by rcases hk with rfl | rfl | rfl <;> omega⟩)
theorem LX.begin (x : LX w0 B w sb ga gs n s) :
    Calls Try.prog 10 #[.pointer (some ⟨sb, 0, none⟩)] w fun e w' => e = .returned (.int .i64 (if s.ph = 0 then 0 else 10)) ∧ LX w0 B w' sb ga gs n (s.begin n) ∧ Kept w w' (xBl sb ga gs) :=
  (begin_any x.x n rfl).mono (fun _ _ ⟨e, hx, hk⟩ => ⟨e, x.go hx (x.inv.begin x.one.1) hk, hk⟩)
theorem LX.answer (x : LX w0 B w sb ga gs n s) (m : Int) :
    Calls Try.prog 12 #[.pointer (some ⟨sb, 0, none⟩), .int .i64 m] w fun e w' => e = .returned (.int .i64 (ansR s m : Int)) ∧ LX w0 B w' sb ga gs n (s.ans m) ∧ Kept w w' (xBl sb ga gs) :=
  (answer_any x.x m).mono (fun _ _ ⟨e, hx, hk⟩ => ⟨e, x.go hx (x.inv.ans m) hk, hk⟩)
theorem LX.fin (x : LX w0 B w sb ga gs n s) :
    Calls Try.prog 9 #[.pointer (some ⟨sb, 0, none⟩)] w fun e w' => e = .returned (.int .i64 (if s.ph = 3 then 0 else 10)) ∧ (∃ ga gs, LX w0 B w' sb ga gs n (s.fin n)) ∧ Kept w w' (xBl sb ga gs) := by
  refine (end_any x.x n rfl).mono (fun _ w' ⟨e, ga', gs', hx, hk, h1, h2⟩ => ⟨e, ⟨ga', gs', hx, x.inv.fin, x.bel.trans (hk.below x.le (fun i hi e => by have := x.ge i e; omega)), Nat.le_trans x.le hk.size, fun k hk' => ?_⟩, hk⟩)
  have g1 := x.ge sb (Or.inl rfl)
  have g2 := x.ge ga (Or.inr (Or.inl rfl))
  have g3 := x.ge gs (Or.inr (Or.inr rfl))
  have := x.le
  rcases hk' with rfl | rfl | rfl <;> omega
end
/-- The example's way. -/
def s1 : St := (St.new 1).begin 1
def s2 : St := s1.ans 0
def s3 : St := s2.ans 0
def s4 : St := s3.ans 1

set_option maxRecDepth 20000 in
set_option maxHeartbeats 1000000 in
theorem sknown_any (w : World) :
    Calls Try.prog 8 #[] w fun e w' => e = .returned (.bool true) ∧ Below w.heap.size w w' := by
  have hN := LX.new 1 (by omega) w
  have h0 := fun W sb ga gs (y : LX w w.heap.size W sb ga gs 1 (St.new 1)) => y.answer 0
  have h1 := fun W sb ga gs (y : LX w w.heap.size W sb ga gs 1 (St.new 1)) => y.begin
  have h2 := fun W sb ga gs (y : LX w w.heap.size W sb ga gs 1 s1) => y.answer 1
  have h3 := fun W sb ga gs (y : LX w w.heap.size W sb ga gs 1 s1) => y.answer 0
  have h4 := fun W sb ga gs (y : LX w w.heap.size W sb ga gs 1 s2) => y.answer 0
  have h5 := fun W sb ga gs (y : LX w w.heap.size W sb ga gs 1 s3) => y.answer 1
  have h6 := fun W sb ga gs (y : LX w w.heap.size W sb ga gs 1 s4) => phase_any y.x
  rw [show (St.new 1).ans 0 = St.new 1 from rfl, show ansR (St.new 1) 0 = 0 from rfl] at h0
  rw [show (St.new 1).begin 1 = s1 from rfl, show (if (St.new 1).ph = 0 then (0 : Int) else 10) = 0 from rfl] at h1
  rw [show s1.ans 1 = s1 from rfl, show ansR s1 1 = 0 from rfl] at h2
  rw [show s1.ans 0 = s2 from rfl, show ansR s1 0 = 1 from rfl] at h3
  rw [show s2.ans 0 = s3 from rfl, show ansR s2 0 = 2 from rfl] at h4
  rw [show s3.ans 1 = s4 from rfl, show ansR s3 1 = 2 from rfl] at h5
  rw [show s4.ph = 3 from rfl] at h6
  generalize s4 = t4 at *
  generalize s3 = t3 at *
  generalize s2 = t2 at *
  generalize s1 = t1 at *
  generalize St.new 1 = t0 at *
  go_enter Try.func8, Try.ntmps8
  go_wp2_with fail
  refine hN.mono ?_
  rintro e w1 ⟨rfl, ga, gs, x1⟩
  clear hN
  go_wp2_with fail
  refine (h0 _ _ _ _ x1).mono ?_
  rintro e w2 ⟨rfl, x2, _⟩
  clear h0 x1
  go_wp2_with fail
  refine (h1 _ _ _ _ x2).mono ?_
  rintro e w3 ⟨rfl, x3, _⟩
  clear h1 x2
  go_wp2_with fail
  refine (h2 _ _ _ _ x3).mono ?_
  rintro e w4 ⟨rfl, x4, _⟩
  clear h2 x3
  go_wp2_with fail
  refine (h3 _ _ _ _ x4).mono ?_
  rintro e w5 ⟨rfl, x5, _⟩
  clear h3 x4
  go_wp2_with fail
  refine (h4 _ _ _ _ x5).mono ?_
  rintro e w6 ⟨rfl, x6, _⟩
  clear h4 x5
  go_wp2_with fail
  refine (h5 _ _ _ _ x6).mono ?_
  rintro e w7 ⟨rfl, x7, _⟩
  clear h5 x6
  have h7 := h6 _ _ _ _ x7
  have HB : Hid _ := hidden x7.bel
  clear h6 x7
  go_wp2_with fail
  refine h7.mono ?_
  rintro e _ ⟨rfl, rfl⟩
  go_wp2
  go_ret
  exact ⟨rfl, HB.out⟩

set_option maxRecDepth 20000 in
set_option maxHeartbeats 1000000 in
theorem shakeKnown_any (w : World) :
    Calls Try.prog 3 #[] w fun e w' => e = .returned (.bool true) ∧ Below w.heap.size w w' := by
  have hN := LX.new 1 (by omega) w
  have hNo1 := fun W => snew_no 0 (by omega) W
  have hNo2 := fun W => snew_no 5 (by omega) W
  have g0 := fun W sb ga gs (y : LX w w.heap.size W sb ga gs 1 (St.new 1)) => y.fin
  have g1 := fun W sb ga gs (y : LX w w.heap.size W sb ga gs 1 (St.new 1)) => y.begin
  have g2 := fun W sb ga gs (y : LX w w.heap.size W sb ga gs 1 s1) => y.begin
  have g3 := fun W sb ga gs (y : LX w w.heap.size W sb ga gs 1 s1) => isArmed_any y.x 1
  have g4 := fun W sb ga gs (y : LX w w.heap.size W sb ga gs 1 s1) => y.answer 0
  have g5 := fun W sb ga gs (y : LX w w.heap.size W sb ga gs 1 s2) => y.answer 0
  have g6 := fun W sb ga gs (y : LX w w.heap.size W sb ga gs 1 s3) => y.answer 1
  have g7 := fun W sb ga gs (y : LX w w.heap.size W sb ga gs 1 s4) => y.fin
  have g8 := fun W sb ga gs (y : LX w w.heap.size W sb ga gs 1 (St.new 1)) => isArmed_any y.x 0
  have g9 := fun W sb ga gs (y : LX w w.heap.size W sb ga gs 1 (St.new 1)) => isArmed_any y.x 1
  rw [show (St.new 1).fin 1 = St.new 1 from rfl, show (if (St.new 1).ph = 3 then (0 : Int) else 10) = 10 from rfl] at g0
  rw [show (St.new 1).begin 1 = s1 from rfl, show (if (St.new 1).ph = 0 then (0 : Int) else 10) = 0 from rfl] at g1
  rw [show s1.begin 1 = s1 from rfl, show (if s1.ph = 0 then (0 : Int) else 10) = 10 from rfl] at g2
  rw [show isB s1.A 1 = true from rfl] at g3
  rw [show s1.ans 0 = s2 from rfl, show ansR s1 0 = 1 from rfl] at g4
  rw [show s2.ans 0 = s3 from rfl, show ansR s2 0 = 2 from rfl] at g5
  rw [show s3.ans 1 = s4 from rfl, show ansR s3 1 = 2 from rfl] at g6
  rw [show s4.fin 1 = St.new 1 from rfl, show (if s4.ph = 3 then (0 : Int) else 10) = 0 from rfl] at g7
  rw [show isB (St.new 1).A 0 = false from rfl] at g8
  rw [show isB (St.new 1).A 1 = false from rfl] at g9
  generalize s4 = t4 at *
  generalize s3 = t3 at *
  generalize s2 = t2 at *
  generalize s1 = t1 at *
  generalize St.new 1 = t0 at *
  go_enter Try.func3, Try.ntmps3
  go_wp2_with fail
  refine (hNo1 _).mono ?_
  rintro e _ ⟨rfl, rfl⟩
  go_wp2_with fail
  refine (hNo2 _).mono ?_
  rintro e _ ⟨rfl, rfl⟩
  clear hNo1 hNo2
  go_wp2_with fail
  refine hN.mono ?_
  rintro e w1 ⟨rfl, ga, gs, x1⟩
  clear hN
  go_wp2_with fail
  refine (sknown_any _).mono ?_
  rintro e w2 ⟨rfl, b2⟩
  have x2 := x1.read b2
  clear b2 x1
  go_wp2_with fail
  refine (g0 _ _ _ _ x2).mono ?_
  rintro e w3 ⟨rfl, ⟨ga3, gs3, x3⟩, _⟩
  clear x2
  go_wp2_with fail
  refine (g1 _ _ _ _ x3).mono ?_
  rintro e w4 ⟨rfl, x4, _⟩
  clear g1 x3
  go_wp2_with fail
  refine (g2 _ _ _ _ x4).mono ?_
  rintro e w5 ⟨rfl, x5, _⟩
  clear g2 x4
  go_wp2_with fail
  refine (g3 _ _ _ _ x5).mono ?_
  rintro e _ ⟨rfl, rfl⟩
  clear g3
  go_wp2_with fail
  refine (g4 _ _ _ _ x5).mono ?_
  rintro e w6 ⟨rfl, x6, _⟩
  clear g4 x5
  go_wp2_with fail
  refine (g5 _ _ _ _ x6).mono ?_
  rintro e w7 ⟨rfl, x7, _⟩
  clear g5 x6
  go_wp2_with fail
  refine (g6 _ _ _ _ x7).mono ?_
  rintro e w8 ⟨rfl, x8, _⟩
  clear g6 x7
  go_wp2_with fail
  refine (g7 _ _ _ _ x8).mono ?_
  rintro e w9 ⟨rfl, ⟨ga9, gs9, x9⟩, _⟩
  clear g7 x8
  go_wp2_with fail
  refine (g0 _ _ _ _ x9).mono ?_
  rintro e w10 ⟨rfl, ⟨ga10, gs10, x10⟩, _⟩
  clear g0 x9
  have e8 := g8 _ _ _ _ x10
  have e9 := g9 _ _ _ _ x10
  have HB : Hid _ := hidden x10.bel
  clear g8 g9 x10
  go_wp2_with fail
  refine e8.mono ?_
  rintro e _ ⟨rfl, rfl⟩
  go_wp2_with fail
  refine e9.mono ?_
  rintro e _ ⟨rfl, rfl⟩
  go_wp2
  go_ret
  exact ⟨rfl, HB.out⟩

end Go.Proofs.Ytbbdcjllmjhiiaa
