/- Roots and the plain ones, side by side. -/
import Derived.Test.YtfoodmlgknckgaaRoPc
import Derived.Test.YtfoodmlgknckgaaRoK
namespace Go.Proofs.Ytfoodmlgknckgaa
open Go.RowKit

/-- Where the two lie. -/
structure Ad where
  rb : Nat
  tb : Nat
  cap : Nat
  gs : List Nat
  pb : Nat
  pt : Nat
  pc : Nat
  ps : List Nat
  K : Nat
def Ad.has (A : Ad) (k : Nat) : Prop := rBl A.rb A.tb A.gs k ∨ rBl A.pb A.pt A.ps k

structure TW (w0 : World) (B : Nat) (w : World) (A : Ad) (S P : List Rw) : Prop where
  x : RX w A.rb A.tb A.cap A.gs A.K S
  y : RX w A.pb A.pt A.pc A.ps A.K P
  bel : Below B w0 w
  le : B ≤ w.heap.size
  ge : ∀ k, A.has k → B ≤ k
  lt : ∀ k, A.has k → k < w.heap.size
  dj : ∀ k, rBl A.rb A.tb A.gs k → ¬ rBl A.pb A.pt A.ps k
section
variable {w0 w w' : World} {B : Nat} {A : Ad} {S S' P P' : List Rw}
theorem TW.read (x : TW w0 B w A S P) (hb : Below w.heap.size w w') : TW w0 B w' A S P :=
  ⟨x.x.below hb, x.y.below hb, x.bel.trans (hb.mono x.le), Nat.le_trans x.le hb.size, x.ge, fun k h => Nat.lt_of_lt_of_le (x.lt k h) hb.size, x.dj⟩
theorem TW.other (x : TW w0 B w A S P) {F : Nat → Prop} (hk : Kept w w' F) (h1 : ∀ k, F k → B ≤ k) (h2 : ∀ k, F k → ¬ A.has k) : TW w0 B w' A S P :=
  ⟨x.x.kept hk (fun k h e => h2 k e (Or.inl h)), x.y.kept hk (fun k h e => h2 k e (Or.inr h)), x.bel.trans (hk.below x.le (fun i hi e => by have := h1 i e; omega)), Nat.le_trans x.le hk.size, x.ge, fun k h => Nat.lt_of_lt_of_le (x.lt k h) hk.size, x.dj⟩
theorem TW.set (x : TW w0 B w A S P) (m s a : Int) (n : Nat) :
    Calls Try.prog 9 #[.pointer (some ⟨A.rb, 0, none⟩), .int .i64 m, .int .i64 s, .agg #[.int .i64 a, .int .u64 (n : Int)]] w fun e w' => e = .returned (.bool (setB S m s (a, n))) ∧ TW w0 B w' A (setS S m s (a, n)) P ∧ Kept w w' A.has := by
  refine (set_any x.x m s a n).mono (fun e w' ⟨h1, h2⟩ => ⟨h1, ?_, h2.k.mono (fun k _ e => Or.inl (Or.inr (Or.inr e)))⟩)
  exact ⟨h2.x, x.y.kept h2.k (fun k h e => x.dj k (Or.inr (Or.inr e)) h), x.bel.trans (h2.k.below x.le (fun i hi e => by have := x.ge i (Or.inl (Or.inr (Or.inr e))); omega)), Nat.le_trans x.le h2.k.size, x.ge, fun k h => Nat.lt_of_lt_of_le (x.lt k h) h2.k.size, x.dj⟩
/-- The plain slot is written. -/
theorem TW.put (x : TW w0 B w A S P) {i j g : Nat} (hi : i < P.length) (hj : j < P[i].length) (hg : A.ps[i]? = some g) (a : Int × Nat) :
    TW w0 B ((w.setCell ⟨g, j * 2, none⟩ (.int .i64 a.1)).setCell ⟨g, j * 2 + 1, none⟩ (.int .u64 (a.2 : Int))) A S (P.set i (P[i].set j a)) ∧ Kept w ((w.setCell ⟨g, j * 2, none⟩ (.int .i64 a.1)).setCell ⟨g, j * 2 + 1, none⟩ (.int .u64 (a.2 : Int))) A.has := by
  obtain ⟨h1, h2⟩ := x.y.set hi hj hg a
  exact ⟨⟨x.x.kept h2 (fun k h e => x.dj k h (Or.inr (Or.inr e))), h1, x.bel.trans (h2.below x.le (fun i hi e => by have := x.ge i (Or.inr (Or.inr (Or.inr e))); omega)), Nat.le_trans x.le h2.size, x.ge, fun k h => Nat.lt_of_lt_of_le (x.lt k h) h2.size, x.dj⟩, h2.mono (fun k _ e => Or.inr (Or.inr (Or.inr e)))⟩
theorem TW.of (x : TW w0 B w A S P) (m : Int) :
    Calls Try.prog 10 #[.pointer (some ⟨A.rb, 0, none⟩), .int .i64 m] w fun e w' => ∃ v, e = .returned v ∧ OwI w' w.heap.size v (ofR S m) ∧ TW w0 B w' A S P ∧ Below w.heap.size w w' :=
  (of_any x.x m).mono (fun _ _ ⟨v, h1, h2, h3⟩ => ⟨v, h1, h2, x.read h3, h3⟩)
theorem TW.rof (x : TW w0 B w A S P) (m : Int) :
    Calls Try.prog 20 #[.pointer (some ⟨A.pb, 0, none⟩), .int .i64 m] w fun e w' => ∃ v, e = .returned v ∧ OwI w' w.heap.size v (ofR P m) ∧ TW w0 B w' A S P ∧ Below w.heap.size w w' :=
  (rof_any x.y m).mono (fun _ _ ⟨v, h1, h2, h3⟩ => ⟨v, h1, h2, x.read h3, h3⟩)
theorem TW.all (x : TW w0 B w A S P) :
    Calls Try.prog 11 #[.pointer (some ⟨A.rb, 0, none⟩)] w fun e w' => ∃ v, e = .returned v ∧ OwI w' w.heap.size v (allR S) ∧ TW w0 B w' A S P ∧ Below w.heap.size w w' :=
  (all_any x.x).mono (fun _ _ ⟨v, h1, h2, h3⟩ => ⟨v, h1, h2, x.read h3, h3⟩)
theorem TW.rall (x : TW w0 B w A S P) :
    Calls Try.prog 21 #[.pointer (some ⟨A.pb, 0, none⟩)] w fun e w' => ∃ v, e = .returned v ∧ OwI w' w.heap.size v (allR P) ∧ TW w0 B w' A S P ∧ Below w.heap.size w w' :=
  (rall_any x.y).mono (fun _ _ ⟨v, h1, h2, h3⟩ => ⟨v, h1, h2, x.read h3, h3⟩)
theorem TW.count (x : TW w0 B w A S P) (a : Int) (n : Nat) :
    Calls Try.prog 12 #[.pointer (some ⟨A.rb, 0, none⟩), .agg #[.int .i64 a, .int .u64 (n : Int)]] w fun e w' => e = .returned (.int .i64 (cntR S (a, n) : Int)) ∧ TW w0 B w' A S P ∧ Below w.heap.size w w' :=
  (count_any x.x a n).mono (fun _ _ ⟨h1, h2⟩ => ⟨h1, x.read h2, h2⟩)
theorem TW.rcount (x : TW w0 B w A S P) (a : Int) (n : Nat) :
    Calls Try.prog 18 #[.pointer (some ⟨A.pb, 0, none⟩), .agg #[.int .i64 a, .int .u64 (n : Int)]] w fun e w' => e = .returned (.int .i64 (cntR P (a, n) : Int)) ∧ TW w0 B w' A S P ∧ Below w.heap.size w w' :=
  (rcount_any x.y a n).mono (fun _ _ ⟨h1, h2⟩ => ⟨h1, x.read h2, h2⟩)
theorem TW.get (x : TW w0 B w A S P) (m s : Int) :
    Calls Try.prog 17 #[.pointer (some ⟨A.rb, 0, none⟩), .int .i64 m, .int .i64 s] w fun e w' => e = .returned (.tuple #[.agg #[.int .i64 (getR S m s).1.1, .int .u64 ((getR S m s).1.2 : Int)], .bool (getR S m s).2]) ∧ TW w0 B w' A S P ∧ Below w.heap.size w w' :=
  (get_any x.x m s).mono (fun _ _ ⟨h1, h2⟩ => ⟨h1, x.read h2, h2⟩)
theorem TW.rhas (x : TW w0 B w A S P) (m s : Int) :
    Calls Try.prog 15 #[.pointer (some ⟨A.pb, 0, none⟩), .int .i64 m, .int .i64 s] w fun e w' => e = .returned (.bool (hasB P m s)) ∧ w = w' := rhas_any x.y m s

/-- Both are made. -/
theorem TW.new {rb tb M : Nat} {gs : List Nat} {K : Nat} (x : LR w0 B w rb tb M gs K S) (h1 : 1 ≤ M ∧ M ≤ 4) (h2 : 1 ≤ K ∧ K ≤ 8) (hS : S = List.replicate M (List.replicate K (0, 0))) :
    Calls Try.prog 13 #[.int .i64 (M : Int), .int .i64 (K : Int)] w fun e w' => ∃ A : Ad, e = .returned (.pointer (some ⟨A.pb, 0, none⟩)) ∧ A.rb = rb ∧ A.K = K ∧ TW w0 B w' A S S := by
  refine (rnew_any M K h1 h2 w).mono (fun e w' ⟨pb, pt, pc, ps, h3, h4, h5, h6⟩ => ?_)
  have hl : 0 < S.length := by rw [hS, List.length_replicate]; omega
  have hlt := fun k h => x.x.lt k h hl
  refine ⟨⟨rb, tb, M, gs, pb, pt, pc, ps, K⟩, h3, rfl, rfl, ⟨x.x.below h6, by rw [hS]; exact h4, x.bel.trans (h6.mono x.le), Nat.le_trans x.le h6.size, fun k h => ?_, fun k h => ?_, fun k h e => ?_⟩⟩
  · rcases h with h | h
    · exact x.ge k h
    · exact Nat.le_trans x.le (h5 k h)
  · rcases h with h | h
    · exact Nat.lt_of_lt_of_le (hlt k h) h6.size
    · exact h4.lt k h (by rw [List.length_replicate]; omega)
  · have := hlt k h
    have := h5 k e
    omega
end

/-- The law's step in a box of its own. -/
structure BX5 (w : World) (A : Ad) (g : Nat) (m s a : Int) (n : Nat) (nr : Bool) : Prop where
  row : Row w g 39 [.int .i64 m, .int .i64 s, .int .i64 a, .int .u64 (n : Int), .bool nr]
  off : ¬ A.has g
section
variable {w w' : World} {A : Ad} {g : Nat} {m s a : Int} {n : Nat} {nr : Bool}
theorem BX5.kept (h : BX5 w A g m s a n nr) (hk : Kept w w' A.has) : BX5 w' A g m s a n nr := ⟨h.row.kept hk h.off, h.off⟩
theorem BX5.below (h : BX5 w A g m s a n nr) (hb : Below w.heap.size w w') : BX5 w' A g m s a n nr := ⟨h.row.below hb, h.off⟩
theorem BX5.c (h : BX5 w A g m s a n nr) : w.cell? ⟨g, 0, none⟩ = some (.int .i64 m) ∧ w.cell? ⟨g, 1, none⟩ = some (.int .i64 s) ∧ w.cell? ⟨g, 2, none⟩ = some (.int .i64 a) ∧ w.cell? ⟨g, 3, none⟩ = some (.int .u64 (n : Int)) ∧ w.cell? ⟨g, 4, none⟩ = some (.bool nr) := by
  refine ⟨?_, ?_, ?_, ?_, ?_⟩
  · exact h.row.cell 0 (by simp)
  · exact h.row.cell 1 (by simp)
  · exact h.row.cell 2 (by simp)
  · exact h.row.cell 3 (by simp)
  · exact h.row.cell 4 (by simp)
theorem BX5.f (h : BX5 w A g m s a n nr) (i : Nat) : w.frozen? ⟨g, i, none⟩ = false := h.row.frozen i
theorem BX5.set0 (h : BX5 w A g m s a n nr) (m' : Int) : BX5 (w.setCell ⟨g, 0, none⟩ (.int .i64 m')) A g m' s a n nr := ⟨h.row.set 0 _, h.off⟩
theorem BX5.set1 (h : BX5 w A g m s a n nr) (s' : Int) : BX5 (w.setCell ⟨g, 1, none⟩ (.int .i64 s')) A g m s' a n nr := ⟨h.row.set 1 _, h.off⟩
theorem BX5.set2 (h : BX5 w A g m s a n nr) (a' : Int) (n' : Nat) : BX5 ((w.setCell ⟨g, 2, none⟩ (.int .i64 a')).setCell ⟨g, 3, none⟩ (.int .u64 (n' : Int))) A g m s a' n' nr := ⟨(h.row.set 2 _).set 3 _, h.off⟩
end

end Go.Proofs.Ytfoodmlgknckgaa
