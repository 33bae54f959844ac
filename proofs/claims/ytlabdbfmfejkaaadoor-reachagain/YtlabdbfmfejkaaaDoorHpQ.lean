/- A heap that is all that is new; the law's own example. -/
import Derived.Test.YtlabdbfmfejkaaaDoorHpL
namespace Go.Proofs.YtlabdbfmfejkaaaDoor
open Go.RowKit

section
variable {w : World} {hb : Nat} {h : HSt} {F : Nat → Prop}
theorem HP.make (x : HP w hb F h) (r v : Int) :
    Calls Tryd.prog 33 #[.pointer (some ⟨hb, 0, none⟩), .int .i64 r, .int .i64 v] w fun e w' => e = .returned (.tuple #[.int .u64 ((h.makeR r v).1 : Int), .int .i64 ((h.makeR r v).2 : Int)]) ∧ Goes w w' hb F (h.makeS r v) := by
  obtain ⟨ab, mb, L, hx, hF⟩ := x.ex
  exact (hmake_any hx r v).mono (fun _ _ ⟨h1, h2⟩ => ⟨h1, HX.fit hF h2⟩)
theorem HP.ref (x : HP w hb F h) (s : Nat) (hs : s < 18446744073709551616) (f : Int) :
    Calls Tryd.prog 68 #[.pointer (some ⟨hb, 0, none⟩), .int .u64 (s : Int), .int .i64 f] w fun e w' => e = .returned (.tuple #[.agg #[.int .i64 (refR h.cs s f).1.1, .int .u64 ((refR h.cs s f).1.2 : Int)], .int .i64 ((refR h.cs s f).2 : Int)]) ∧ Goes w w' hb F h := by
  obtain ⟨ab, mb, L, hx, hF⟩ := x.ex
  exact (href_any hx s hs f).mono (fun _ _ ⟨h1, h2⟩ => ⟨h1, x.stay h2⟩)
theorem HP.setRef (x : HP w hb F h) (s : Nat) (hs : s < 18446744073709551616) (f : Int) (a : Int) (n : Nat) :
    Calls Tryd.prog 35 #[.pointer (some ⟨hb, 0, none⟩), .int .u64 (s : Int), .int .i64 f, .agg #[.int .i64 a, .int .u64 (n : Int)]] w fun e w' => e = .returned (.tuple #[.agg #[.int .i64 (h.setRefR s f (a, n)).1.1, .int .u64 ((h.setRefR s f (a, n)).1.2 : Int)], .int .i64 ((h.setRefR s f (a, n)).2 : Int)]) ∧ Goes w w' hb F (h.setRefS s f (a, n)) := by
  obtain ⟨ab, mb, L, hx, hF⟩ := x.ex
  exact (hsetref_any hx s hs f a n).mono (fun _ _ ⟨h1, h2⟩ => ⟨h1, HX.fit hF h2⟩)
theorem HP.node (x : HP w hb F h) :
    Calls Tryd.prog 43 #[.pointer (some ⟨hb, 0, none⟩)] w fun e w' => e = .returned (.int .i64 (h.node : Int)) ∧ w = w' := by
  obtain ⟨ab, mb, L, hx, hF⟩ := x.ex
  exact hnode_any hx
theorem HP.setIn (x : HP w hb F h) (s : Nat) (hs : s < 18446744073709551616) (d : Int) :
    Calls Tryd.prog 37 #[.pointer (some ⟨hb, 0, none⟩), .int .u64 (s : Int), .int .i64 d] w fun e w' => e = .returned (.int .i64 (h.setInR s d : Int)) ∧ Goes w w' hb F (h.setInS s d) := by
  obtain ⟨ab, mb, L, hx, hF⟩ := x.ex
  exact (hsetin_any hx s hs d).mono (fun _ _ ⟨h1, h2⟩ => ⟨h1, HX.fit hF h2⟩)
end

/-- A heap whose blocks lie from B on, and are none of X's; below B all is as it was in w0. -/
structure HH (w0 : World) (B : Nat) (w : World) (hb : Nat) (h : HSt) (X : Nat → Prop) : Prop where
  ex : ∃ F, HP w hb F h ∧ ∀ k, F k → B ≤ k ∧ ¬ X k
  bel : Below B w0 w
  le : B ≤ w.heap.size
  xs : ∀ k, X k → k < w.heap.size
/-- What a call on such a heap may write. -/
def Its (B : Nat) (X : Nat → Prop) (k : Nat) : Prop := B ≤ k ∧ ¬ X k
section
variable {w0 w w' : World} {B hb : Nat} {h h' : HSt} {F X : Nat → Prop}
theorem HH.tb (x : HH w0 B w hb h X) : TB w := by
  obtain ⟨F, hp, _⟩ := x.ex
  exact hp.tb
theorem HH.ok (x : HH w0 B w hb h X) : h.Ok := by
  obtain ⟨F, hp, _⟩ := x.ex
  exact hp.ok
theorem HH.goes (hF : ∀ k, F k → B ≤ k ∧ ¬ X k) (hb0 : Below B w0 w) (hle : B ≤ w.heap.size) (hX : ∀ k, X k → k < w.heap.size) (hg : Goes w w' hb F h') : HH w0 B w' hb h' X ∧ Kept w w' (Its B X) := by
  obtain ⟨F', hp', hF'⟩ := hg.ex
  have hk : Kept w w' (Its B X) := hg.kept.mono (fun k _ e => hF k e)
  refine ⟨⟨⟨F', hp', fun k hk => ?_⟩, hb0.trans (hg.kept.below hle (fun i hi e => ?_)), Nat.le_trans hle hg.kept.size, fun k e => Nat.lt_of_lt_of_le (hX k e) hg.kept.size⟩, hk⟩
  · rcases hF' k hk with h1 | h1
    · exact hF k h1
    · exact ⟨by omega, fun e => by have := hX k e; omega⟩
  · have := (hF i e).1
    omega
theorem HH.use (x : HH w0 B w hb h X) {P : Program} {n : Nat} {args : Array Value} {r : Ending} (f : ∀ F, HP w hb F h → Calls P n args w fun e w' => e = r ∧ Goes w w' hb F h') : Calls P n args w fun e w' => e = r ∧ HH w0 B w' hb h' X ∧ Kept w w' (Its B X) := by
  obtain ⟨F, hp, hF⟩ := x.ex
  exact (f F hp).mono (fun _ _ ⟨h1, h2⟩ => ⟨h1, HH.goes hF x.bel x.le x.xs h2⟩)
theorem HH.read (x : HH w0 B w hb h X) (hB : Below w.heap.size w w') : HH w0 B w' hb h X := by
  obtain ⟨F, hp, hF⟩ := x.ex
  exact ⟨⟨F, hp.below hB, hF⟩, x.bel.trans (hB.mono x.le), Nat.le_trans x.le hB.size, fun k e => Nat.lt_of_lt_of_le (x.xs k e) hB.size⟩
/-- A new block is one of X's. -/
theorem HH.box (x : HH w0 B w hb h X) (o : Obj) : HH w0 B (w.alloc o) hb h (fun k => X k ∨ k = w.heap.size) := by
  obtain ⟨F, hp, hF⟩ := x.ex
  have hlt := hp.lt
  have hB : Below w.heap.size w (w.alloc o) := (Below.refl _ _).alloc (Nat.le_refl _) o
  refine ⟨⟨F, hp.below hB, fun k hk => ⟨(hF k hk).1, fun e => ?_⟩⟩, x.bel.trans (hB.mono x.le), Nat.le_trans x.le hB.size, fun k e => ?_⟩
  · rcases e with e | e
    · exact (hF k hk).2 e
    · have := hlt k hk
      omega
  · rcases e with e | e
    · exact Nat.lt_of_lt_of_le (x.xs k e) hB.size
    · simp [e]
/-- Blocks of X are written. -/
theorem HH.other (x : HH w0 B w hb h X) {S : Nat → Prop} (hk : Kept w w' S) (hS : ∀ k, S k → X k ∧ B ≤ k) (hB0 : 0 < B) : HH w0 B w' hb h X := by
  obtain ⟨F, hp, hF⟩ := x.ex
  exact ⟨⟨F, hp.kept hk (fun e => by have := (hS 0 e).2; omega) (fun k h1 h2 => (hF k h1).2 (hS k h2).1), hF⟩, x.bel.trans (hk.below x.le (fun i hi e => by have := (hS i e).2; omega)), Nat.le_trans x.le hk.size, fun k e => Nat.lt_of_lt_of_le (x.xs k e) hk.size⟩
theorem HH.off (x : HH w0 B w hb h X) (Y : Nat → Prop) (hY : ∀ k, Y k → X k) : HH w0 B w hb h Y := by
  obtain ⟨F, hp, hF⟩ := x.ex
  exact ⟨⟨F, hp, fun k hk => ⟨(hF k hk).1, fun e => (hF k hk).2 (hY k e)⟩⟩, x.bel, x.le, fun k e => x.xs k (hY k e)⟩
theorem its_row {g : Nat} {T : TypeId} {l : List Value} (hk : Kept w w' (Its B X)) (hX : X g) (hr : Row w g T l) : Row w' g T l := hr.kept hk (fun e => e.2 hX)
theorem HH.make (x : HH w0 B w hb h X) (r v : Int) :
    Calls Tryd.prog 33 #[.pointer (some ⟨hb, 0, none⟩), .int .i64 r, .int .i64 v] w fun e w' => e = .returned (.tuple #[.int .u64 ((h.makeR r v).1 : Int), .int .i64 ((h.makeR r v).2 : Int)]) ∧ HH w0 B w' hb (h.makeS r v) X ∧ Kept w w' (Its B X) := x.use (fun _ hp => hp.make r v)
theorem HH.ref (x : HH w0 B w hb h X) (s : Nat) (hs : s < 18446744073709551616) (f : Int) :
    Calls Tryd.prog 68 #[.pointer (some ⟨hb, 0, none⟩), .int .u64 (s : Int), .int .i64 f] w fun e w' => e = .returned (.tuple #[.agg #[.int .i64 (refR h.cs s f).1.1, .int .u64 ((refR h.cs s f).1.2 : Int)], .int .i64 ((refR h.cs s f).2 : Int)]) ∧ HH w0 B w' hb h X ∧ Kept w w' (Its B X) := x.use (fun _ hp => hp.ref s hs f)
theorem HH.setRef (x : HH w0 B w hb h X) (s : Nat) (hs : s < 18446744073709551616) (f : Int) (a : Int) (n : Nat) :
    Calls Tryd.prog 35 #[.pointer (some ⟨hb, 0, none⟩), .int .u64 (s : Int), .int .i64 f, .agg #[.int .i64 a, .int .u64 (n : Int)]] w fun e w' => e = .returned (.tuple #[.agg #[.int .i64 (h.setRefR s f (a, n)).1.1, .int .u64 ((h.setRefR s f (a, n)).1.2 : Int)], .int .i64 ((h.setRefR s f (a, n)).2 : Int)]) ∧ HH w0 B w' hb (h.setRefS s f (a, n)) X ∧ Kept w w' (Its B X) := x.use (fun _ hp => hp.setRef s hs f a n)
theorem HH.new (node n objects last : Nat) (h1 : 1 ≤ node ∧ node ≤ 64) (h2 : 1 ≤ objects ∧ objects ≤ 64) (h3 : last ≤ 72057594037927935) (h4 : 1 ≤ n ∧ n ≤ 256) (w : World) (hT : TB w) :
    Calls Tryd.prog 31 #[.int .i64 (node : Int), .int .i64 ((16 * n : Nat) : Int), .int .i64 (objects : Int), .int .u64 (last : Int)] w fun e w' => ∃ hb, e = .returned (.tuple #[.pointer (some ⟨hb, 0, none⟩), .int .i64 0]) ∧ HH w w.heap.size w' hb ⟨node, objects, last, List.replicate n bk0, []⟩ (fun _ => False) :=
  (hnew_ok node n objects last h1 h2 h3 h4 w hT).mono (fun _ _ ⟨hb, F, e, hp, hF, hB⟩ => ⟨hb, e, ⟨F, hp, fun k hk => ⟨hF k hk, id⟩⟩, hB, hB.size, fun _ e => e.elim⟩)
end

/-- The example's heap. -/
def st0 : HSt := ⟨1, 2, 5, List.replicate 1 bk0, []⟩
theorem st_k1 : st0.makeR 1 1 = (6, 0) := by kernel_rfl
theorem st_k2 : refR (st0.makeS 1 1).cs 6 0 = ((0, 0), 0) := by kernel_rfl
theorem st_k3 : (st0.makeS 1 1).setRefR 6 0 (2, 9) = ((0, 0), 0) := by kernel_rfl
theorem st_k4 : refR ((st0.makeS 1 1).setRefS 6 0 (2, 9)).cs 6 0 = ((2, 9), 0) := by kernel_rfl

end Go.Proofs.YtlabdbfmfejkaaaDoor
