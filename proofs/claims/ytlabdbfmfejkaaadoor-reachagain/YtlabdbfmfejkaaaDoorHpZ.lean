/- Both heaps side by side. -/
import Derived.Test.YtlabdbfmfejkaaaDoorHpR
import Derived.Test.YtlabdbfmfejkaaaDoorHpX
import Derived.Test.YtlabdbfmfejkaaaDoorHpY
namespace Go.Proofs.YtlabdbfmfejkaaaDoor
open Go.RowKit

section
variable {w : World} {rb : Nat} {h : HSt} {F : Nat → Prop}
theorem RP.make (x : RP w rb F h) (r v : Int) :
    Calls Tryd.prog 34 #[.pointer (some ⟨rb, 0, none⟩), .int .i64 r, .int .i64 v] w fun e w' => e = .returned (.tuple #[.int .u64 ((h.makeR r v).1 : Int), .int .i64 ((h.makeR r v).2 : Int)]) ∧ RGoes w w' rb F (h.makeS r v) := by
  obtain ⟨ra, rc, rt, lv, M, hx, hF⟩ := x.ex
  exact (rmake_any hx r v).mono (fun _ _ ⟨h1, h2⟩ => ⟨h1, RX.fit hF h2⟩)
theorem RP.setRef (x : RP w rb F h) (s : Nat) (f : Int) (a : Int) (n : Nat) :
    Calls Tryd.prog 36 #[.pointer (some ⟨rb, 0, none⟩), .int .u64 (s : Int), .int .i64 f, .agg #[.int .i64 a, .int .u64 (n : Int)]] w fun e w' => e = .returned (.tuple #[.agg #[.int .i64 (h.setRefR s f (a, n)).1.1, .int .u64 ((h.setRefR s f (a, n)).1.2 : Int)], .int .i64 ((h.setRefR s f (a, n)).2 : Int)]) ∧ RGoes w w' rb F (h.setRefS s f (a, n)) := by
  obtain ⟨ra, rc, rt, lv, M, hx, hF⟩ := x.ex
  exact (rsetref_any hx s f a n).mono (fun _ _ ⟨h1, h2⟩ => ⟨h1, RX.fit hF h2⟩)
theorem RP.setIn (x : RP w rb F h) (s : Nat) (d : Int) :
    Calls Tryd.prog 38 #[.pointer (some ⟨rb, 0, none⟩), .int .u64 (s : Int), .int .i64 d] w fun e w' => e = .returned (.int .i64 (h.setInR s d : Int)) ∧ RGoes w w' rb F (h.setInS s d) := by
  obtain ⟨ra, rc, rt, lv, M, hx, hF⟩ := x.ex
  exact (rsetin_any hx s d).mono (fun _ _ ⟨h1, h2⟩ => ⟨h1, RX.fit hF h2⟩)
theorem RP.ref (x : RP w rb F h) (s : Nat) (f : Int) :
    Calls Tryd.prog 70 #[.pointer (some ⟨rb, 0, none⟩), .int .u64 (s : Int), .int .i64 f] w fun e w' => e = .returned (.tuple #[.agg #[.int .i64 (refR h.cs s f).1.1, .int .u64 ((refR h.cs s f).1.2 : Int)], .int .i64 ((refR h.cs s f).2 : Int)]) ∧ RGoes w w' rb F (h) := by
  obtain ⟨ra, rc, rt, lv, M, hx, hF⟩ := x.ex
  exact (rref_any hx s f).mono (fun _ _ ⟨h1, h2⟩ => ⟨h1, x.stay h2⟩)
end

/-- Both heaps, whose blocks lie from B on, apart, and are none of X's. -/
structure H2 (w0 : World) (B : Nat) (w : World) (hb rb : Nat) (h1 h2 : HSt) (X : Nat → Prop) : Prop where
  ex : ∃ F G, HP w hb F h1 ∧ RP w rb G h2 ∧ (∀ k, F k → B ≤ k ∧ ¬ X k ∧ ¬ G k) ∧ (∀ k, G k → B ≤ k ∧ ¬ X k)
  bel : Below B w0 w
  le : B ≤ w.heap.size
  xs : ∀ k, X k → k < w.heap.size
  pos : 0 < B
section
variable {w0 w w' : World} {B hb rb : Nat} {h1 h2 h' : HSt} {X : Nat → Prop}
theorem H2.hgo (x : H2 w0 B w hb rb h1 h2 X) {P : Program} {n : Nat} {args : Array Value} {r : Ending} (f : ∀ F, HP w hb F h1 → Calls P n args w fun e w' => e = r ∧ Goes w w' hb F h') : Calls P n args w fun e w' => e = r ∧ H2 w0 B w' hb rb h' h2 X ∧ Kept w w' (Its B X) := by
  obtain ⟨F, G, hp, rp, hF, hG⟩ := x.ex
  refine (f F hp).mono ?_
  rintro e w' ⟨he, hg⟩
  obtain ⟨F', hp', hF'⟩ := hg.ex
  have hlt := rp.lt
  have hle := x.le
  have hX := x.xs
  refine ⟨he, ⟨⟨F', G, hp', rp.kept hg.kept (fun k a b => (hF k b).2.2 a), fun k hk => ?_, hG⟩, x.bel.trans (hg.kept.below x.le (fun i hi e => ?_)), Nat.le_trans x.le hg.kept.size, fun k e => Nat.lt_of_lt_of_le (x.xs k e) hg.kept.size, x.pos⟩, hg.kept.mono (fun k _ e => ⟨(hF k e).1, (hF k e).2.1⟩)⟩
  · rcases hF' k hk with a | a
    · exact hF k a
    · exact ⟨by omega, fun e => by have := hX k e; omega, fun e => by have := hlt k e; omega⟩
  · have := (hF i e).1
    omega
theorem H2.rgo (x : H2 w0 B w hb rb h1 h2 X) {P : Program} {n : Nat} {args : Array Value} {r : Ending} (f : ∀ F, RP w rb F h2 → Calls P n args w fun e w' => e = r ∧ RGoes w w' rb F h') : Calls P n args w fun e w' => e = r ∧ H2 w0 B w' hb rb h1 h' X ∧ Kept w w' (Its B X) := by
  obtain ⟨F, G, hp, rp, hF, hG⟩ := x.ex
  refine (f G rp).mono ?_
  rintro e w' ⟨he, hg⟩
  obtain ⟨G', rp', hG'⟩ := hg.ex
  have hlt := hp.lt
  have hle := x.le
  have hX := x.xs
  have hpos := x.pos
  refine ⟨he, ⟨⟨F, G', hp.kept hg.kept (fun e => by have := (hG 0 e).1; omega) (fun k a b => (hF k a).2.2 b), rp', fun k hk => ⟨(hF k hk).1, (hF k hk).2.1, fun e => ?_⟩, fun k hk => ?_⟩, x.bel.trans (hg.kept.below x.le (fun i hi e => ?_)), Nat.le_trans x.le hg.kept.size, fun k e => Nat.lt_of_lt_of_le (x.xs k e) hg.kept.size, x.pos⟩, hg.kept.mono (fun k _ e => hG k e)⟩
  · rcases hG' k e with a | a
    · exact (hF k hk).2.2 a
    · have := hlt k hk
      omega
  · rcases hG' k hk with a | a
    · exact hG k a
    · exact ⟨by omega, fun e => by have := hX k e; omega⟩
  · have := (hG i e).1
    omega
theorem H2.read (x : H2 w0 B w hb rb h1 h2 X) (hB : Below w.heap.size w w') : H2 w0 B w' hb rb h1 h2 X := by
  obtain ⟨F, G, hp, rp, hF, hG⟩ := x.ex
  exact ⟨⟨F, G, hp.below hB, rp.below hB, hF, hG⟩, x.bel.trans (hB.mono x.le), Nat.le_trans x.le hB.size, fun k e => Nat.lt_of_lt_of_le (x.xs k e) hB.size, x.pos⟩
theorem H2.box (x : H2 w0 B w hb rb h1 h2 X) (o : Obj) : H2 w0 B (w.alloc o) hb rb h1 h2 (fun k => X k ∨ k = w.heap.size) := by
  obtain ⟨F, G, hp, rp, hF, hG⟩ := x.ex
  have hlt := hp.lt
  have hlr := rp.lt
  have hB : Below w.heap.size w (w.alloc o) := (Below.refl _ _).alloc (Nat.le_refl _) o
  refine ⟨⟨F, G, hp.below hB, rp.below hB, fun k hk => ⟨(hF k hk).1, fun e => ?_, (hF k hk).2.2⟩, fun k hk => ⟨(hG k hk).1, fun e => ?_⟩⟩, x.bel.trans (hB.mono x.le), Nat.le_trans x.le hB.size, fun k e => ?_, x.pos⟩
  · rcases e with e | e
    · exact (hF k hk).2.1 e
    · have := hlt k hk
      omega
  · rcases e with e | e
    · exact (hG k hk).2 e
    · have := hlr k hk
      omega
  · rcases e with e | e
    · exact Nat.lt_of_lt_of_le (x.xs k e) hB.size
    · simp [e]
theorem H2.other (x : H2 w0 B w hb rb h1 h2 X) {S : Nat → Prop} (hk : Kept w w' S) (hS : ∀ k, S k → X k ∧ B ≤ k) : H2 w0 B w' hb rb h1 h2 X := by
  obtain ⟨F, G, hp, rp, hF, hG⟩ := x.ex
  have hpos := x.pos
  exact ⟨⟨F, G, hp.kept hk (fun e => by have := (hS 0 e).2; omega) (fun k a b => (hF k a).2.1 (hS k b).1), rp.kept hk (fun k a b => (hG k a).2 (hS k b).1), hF, hG⟩, x.bel.trans (hk.below x.le (fun i hi e => by have := (hS i e).2; omega)), Nat.le_trans x.le hk.size, fun k e => Nat.lt_of_lt_of_le (x.xs k e) hk.size, x.pos⟩
theorem H2.off (x : H2 w0 B w hb rb h1 h2 X) (Y : Nat → Prop) (hY : ∀ k, Y k → X k) : H2 w0 B w hb rb h1 h2 Y := by
  obtain ⟨F, G, hp, rp, hF, hG⟩ := x.ex
  exact ⟨⟨F, G, hp, rp, fun k hk => ⟨(hF k hk).1, fun e => (hF k hk).2.1 (hY k e), (hF k hk).2.2⟩, fun k hk => ⟨(hG k hk).1, fun e => (hG k hk).2 (hY k e)⟩⟩, x.bel, x.le, fun k e => x.xs k (hY k e), x.pos⟩
theorem H2.ok (x : H2 w0 B w hb rb h1 h2 X) : h1.Ok := by
  obtain ⟨F, G, hp, _⟩ := x.ex
  exact hp.ok
theorem H2.rlast (x : H2 w0 B w hb rb h1 h2 X) : w.cell? ⟨rb, 2, none⟩ = some (.int .u64 (h2.last : Int)) := by
  obtain ⟨F, G, hp, rp, _⟩ := x.ex
  obtain ⟨ra, rc, rt, lv, M, hx, _⟩ := rp.ex
  exact hx.c2
theorem H2.hmake (x : H2 w0 B w hb rb h1 h2 X) (r v : Int) :
    Calls Tryd.prog 33 #[.pointer (some ⟨hb, 0, none⟩), .int .i64 r, .int .i64 v] w fun e w' => e = .returned (.tuple #[.int .u64 ((h1.makeR r v).1 : Int), .int .i64 ((h1.makeR r v).2 : Int)]) ∧ H2 w0 B w' hb rb (h1.makeS r v) h2 X ∧ Kept w w' (Its B X) := x.hgo (fun _ hp => hp.make r v)
theorem H2.rmake (x : H2 w0 B w hb rb h1 h2 X) (r v : Int) :
    Calls Tryd.prog 34 #[.pointer (some ⟨rb, 0, none⟩), .int .i64 r, .int .i64 v] w fun e w' => e = .returned (.tuple #[.int .u64 ((h2.makeR r v).1 : Int), .int .i64 ((h2.makeR r v).2 : Int)]) ∧ H2 w0 B w' hb rb h1 (h2.makeS r v) X ∧ Kept w w' (Its B X) := x.rgo (fun _ rp => rp.make r v)
theorem H2.hsetRef (x : H2 w0 B w hb rb h1 h2 X) (s : Nat) (f : Int) (a : Int) (n : Nat) (hs : s < 18446744073709551616) :
    Calls Tryd.prog 35 #[.pointer (some ⟨hb, 0, none⟩), .int .u64 (s : Int), .int .i64 f, .agg #[.int .i64 a, .int .u64 (n : Int)]] w fun e w' => e = .returned (.tuple #[.agg #[.int .i64 (h1.setRefR s f (a, n)).1.1, .int .u64 ((h1.setRefR s f (a, n)).1.2 : Int)], .int .i64 ((h1.setRefR s f (a, n)).2 : Int)]) ∧ H2 w0 B w' hb rb (h1.setRefS s f (a, n)) h2 X ∧ Kept w w' (Its B X) := x.hgo (fun _ hp => hp.setRef s hs f a n)
theorem H2.rsetRef (x : H2 w0 B w hb rb h1 h2 X) (s : Nat) (f : Int) (a : Int) (n : Nat) :
    Calls Tryd.prog 36 #[.pointer (some ⟨rb, 0, none⟩), .int .u64 (s : Int), .int .i64 f, .agg #[.int .i64 a, .int .u64 (n : Int)]] w fun e w' => e = .returned (.tuple #[.agg #[.int .i64 (h2.setRefR s f (a, n)).1.1, .int .u64 ((h2.setRefR s f (a, n)).1.2 : Int)], .int .i64 ((h2.setRefR s f (a, n)).2 : Int)]) ∧ H2 w0 B w' hb rb h1 (h2.setRefS s f (a, n)) X ∧ Kept w w' (Its B X) := x.rgo (fun _ rp => rp.setRef s f a n)
theorem H2.hsetIn (x : H2 w0 B w hb rb h1 h2 X) (s : Nat) (d : Int) (hs : s < 18446744073709551616) :
    Calls Tryd.prog 37 #[.pointer (some ⟨hb, 0, none⟩), .int .u64 (s : Int), .int .i64 d] w fun e w' => e = .returned (.int .i64 (h1.setInR s d : Int)) ∧ H2 w0 B w' hb rb (h1.setInS s d) h2 X ∧ Kept w w' (Its B X) := x.hgo (fun _ hp => hp.setIn s hs d)
theorem H2.rsetIn (x : H2 w0 B w hb rb h1 h2 X) (s : Nat) (d : Int) :
    Calls Tryd.prog 38 #[.pointer (some ⟨rb, 0, none⟩), .int .u64 (s : Int), .int .i64 d] w fun e w' => e = .returned (.int .i64 (h2.setInR s d : Int)) ∧ H2 w0 B w' hb rb h1 (h2.setInS s d) X ∧ Kept w w' (Its B X) := x.rgo (fun _ rp => rp.setIn s d)
theorem H2.href (x : H2 w0 B w hb rb h1 h2 X) (s : Nat) (f : Int) (hs : s < 18446744073709551616) :
    Calls Tryd.prog 68 #[.pointer (some ⟨hb, 0, none⟩), .int .u64 (s : Int), .int .i64 f] w fun e w' => e = .returned (.tuple #[.agg #[.int .i64 (refR h1.cs s f).1.1, .int .u64 ((refR h1.cs s f).1.2 : Int)], .int .i64 ((refR h1.cs s f).2 : Int)]) ∧ H2 w0 B w' hb rb (h1) h2 X ∧ Kept w w' (Its B X) := x.hgo (fun _ hp => hp.ref s hs f)
theorem H2.rref (x : H2 w0 B w hb rb h1 h2 X) (s : Nat) (f : Int) :
    Calls Tryd.prog 70 #[.pointer (some ⟨rb, 0, none⟩), .int .u64 (s : Int), .int .i64 f] w fun e w' => e = .returned (.tuple #[.agg #[.int .i64 (refR h2.cs s f).1.1, .int .u64 ((refR h2.cs s f).1.2 : Int)], .int .i64 ((refR h2.cs s f).2 : Int)]) ∧ H2 w0 B w' hb rb h1 (h2) X ∧ Kept w w' (Its B X) := x.rgo (fun _ rp => rp.ref s f)
theorem H2.hnext (x : H2 w0 B w hb rb h1 h2 X) (s : Nat) :
    Calls Tryd.prog 84 #[.pointer (some ⟨hb, 0, none⟩), .int .u64 (s : Int)] w fun e w' => e = .returned (.tuple #[.int .u64 ((nextR h1.cs s).1 : Int), .bool (nextR h1.cs s).2]) ∧ H2 w0 B w' hb rb (h1) h2 X ∧ Kept w w' (Its B X) := x.hgo (fun _ hp => (hp.next s).mono (fun _ _ ⟨a, b⟩ => ⟨a, hp.stay b⟩))
end

end Go.Proofs.YtlabdbfmfejkaaaDoor
