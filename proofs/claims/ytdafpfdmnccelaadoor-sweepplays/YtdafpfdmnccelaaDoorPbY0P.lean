import Derived.Test.YtdafpfdmnccelaaDoorPbUP
import Derived.Deep.RegionHeld
import Derived.Test.YtdafpfdmnccelaaDoorPbKP
import Derived.Deep.CutRange
import Derived.Deep.CutBlock
import Derived.BigQuiet
/- The last test of the law's same, row by row (made by tools/mksame.py). -/
/- The law's same. -/
/- Both heaps and both paints, side by side. -/
namespace Go.Proofs.YtdafpfdmnccelaaDoor
open Go.RowKit

theorem below_via {a b c : World} (h1 : Below a.heap.size a b) (h2 : Below b.heap.size b c) : Below a.heap.size a c := h1.trans (h2.mono h1.size)
end Go.Proofs.YtdafpfdmnccelaaDoor

namespace Go.Proofs.YtdafpfdmnccelaaDoor
open Go.RowKit

theorem OL.zero {w : World} {b : Nat} {v : Value} {L : List ((Int × Nat) × Nat)} (h : OL w b v L) : OL w 0 v L := by
  obtain ⟨ao, cap, e, hx⟩ := h
  exact ⟨ao, cap, e, fun h0 => by
    obtain ⟨g, h1, _, h3⟩ := hx h0
    exact ⟨g, h1, Nat.zero_le _, h3⟩⟩
section
variable {w w' : World} {pb hb base sb mb tb qb rb base' ra rc rt : Nat} {v sv mv kv vv lv : Value} {p : PSt} {F : Nat → Prop} {h : HSt} {L : List ((Int × Nat) × Nat)} {M : List Pl} {k : Nat}
end
end Go.Proofs.YtdafpfdmnccelaaDoor

namespace Go.Proofs.YtdafpfdmnccelaaDoor
open Go.RowKit

/-- Four sets of blocks, from B on and below n, apart from one another and from X. -/
structure Ap (B n : Nat) (F G P Q X : Nat → Prop) : Prop where
  aF : ∀ k, F k → B ≤ k ∧ k < n ∧ ¬ X k
  aG : ∀ k, G k → B ≤ k ∧ k < n ∧ ¬ X k
  aP : ∀ k, P k → B ≤ k ∧ k < n ∧ ¬ X k
  aQ : ∀ k, Q k → B ≤ k ∧ k < n ∧ ¬ X k
  fg : ∀ k, F k → ¬ G k
  fp : ∀ k, F k → ¬ P k
  fq : ∀ k, F k → ¬ Q k
  gp : ∀ k, G k → ¬ P k
  gq : ∀ k, G k → ¬ Q k
  pq : ∀ k, P k → ¬ Q k
theorem Ap.goF {B n n' : Nat} {F G P Q X F' : Nat → Prop} (h : Ap B n F G P Q X) (hn : n ≤ n') (hB : B ≤ n) (hX : ∀ k, X k → k < n) (hc : ∀ k, F' k → F k ∨ n ≤ k) (hl : ∀ k, F' k → k < n') : Ap B n' F' G P Q X := by
  refine ⟨?_, ?_, ?_, ?_, ?_, ?_, ?_, ?_, ?_, ?_⟩
  · intro k hk
    rcases hc k hk with a | a
    · exact ⟨(h.aF k a).1, hl k hk, (h.aF k a).2.2⟩
    · exact ⟨by omega, hl k hk, fun e => by have := hX k e; omega⟩
  · intro k hk
    exact ⟨(h.aG k hk).1, by have := (h.aG k hk).2.1; omega, (h.aG k hk).2.2⟩
  · intro k hk
    exact ⟨(h.aP k hk).1, by have := (h.aP k hk).2.1; omega, (h.aP k hk).2.2⟩
  · intro k hk
    exact ⟨(h.aQ k hk).1, by have := (h.aQ k hk).2.1; omega, (h.aQ k hk).2.2⟩
  · intro k hk e
    rcases hc k hk with a | a
    · exact h.fg k a e
    · have := (h.aG k e).2.1; omega
  · intro k hk e
    rcases hc k hk with a | a
    · exact h.fp k a e
    · have := (h.aP k e).2.1; omega
  · intro k hk e
    rcases hc k hk with a | a
    · exact h.fq k a e
    · have := (h.aQ k e).2.1; omega
  · exact h.gp
  · exact h.gq
  · exact h.pq
theorem Ap.goG {B n n' : Nat} {F G P Q X G' : Nat → Prop} (h : Ap B n F G P Q X) (hn : n ≤ n') (hB : B ≤ n) (hX : ∀ k, X k → k < n) (hc : ∀ k, G' k → G k ∨ n ≤ k) (hl : ∀ k, G' k → k < n') : Ap B n' F G' P Q X := by
  refine ⟨?_, ?_, ?_, ?_, ?_, ?_, ?_, ?_, ?_, ?_⟩
  · intro k hk
    exact ⟨(h.aF k hk).1, by have := (h.aF k hk).2.1; omega, (h.aF k hk).2.2⟩
  · intro k hk
    rcases hc k hk with a | a
    · exact ⟨(h.aG k a).1, hl k hk, (h.aG k a).2.2⟩
    · exact ⟨by omega, hl k hk, fun e => by have := hX k e; omega⟩
  · intro k hk
    exact ⟨(h.aP k hk).1, by have := (h.aP k hk).2.1; omega, (h.aP k hk).2.2⟩
  · intro k hk
    exact ⟨(h.aQ k hk).1, by have := (h.aQ k hk).2.1; omega, (h.aQ k hk).2.2⟩
  · intro k hk e
    rcases hc k e with a | a
    · exact h.fg k hk a
    · have := (h.aF k hk).2.1; omega
  · exact h.fp
  · exact h.fq
  · intro k hk e
    rcases hc k hk with a | a
    · exact h.gp k a e
    · have := (h.aP k e).2.1; omega
  · intro k hk e
    rcases hc k hk with a | a
    · exact h.gq k a e
    · have := (h.aQ k e).2.1; omega
  · exact h.pq
theorem Ap.goP {B n n' : Nat} {F G P Q X P' : Nat → Prop} (h : Ap B n F G P Q X) (hn : n ≤ n') (hB : B ≤ n) (hX : ∀ k, X k → k < n) (hc : ∀ k, P' k → P k ∨ n ≤ k) (hl : ∀ k, P' k → k < n') : Ap B n' F G P' Q X := by
  refine ⟨?_, ?_, ?_, ?_, ?_, ?_, ?_, ?_, ?_, ?_⟩
  · intro k hk
    exact ⟨(h.aF k hk).1, by have := (h.aF k hk).2.1; omega, (h.aF k hk).2.2⟩
  · intro k hk
    exact ⟨(h.aG k hk).1, by have := (h.aG k hk).2.1; omega, (h.aG k hk).2.2⟩
  · intro k hk
    rcases hc k hk with a | a
    · exact ⟨(h.aP k a).1, hl k hk, (h.aP k a).2.2⟩
    · exact ⟨by omega, hl k hk, fun e => by have := hX k e; omega⟩
  · intro k hk
    exact ⟨(h.aQ k hk).1, by have := (h.aQ k hk).2.1; omega, (h.aQ k hk).2.2⟩
  · exact h.fg
  · intro k hk e
    rcases hc k e with a | a
    · exact h.fp k hk a
    · have := (h.aF k hk).2.1; omega
  · exact h.fq
  · intro k hk e
    rcases hc k e with a | a
    · exact h.gp k hk a
    · have := (h.aG k hk).2.1; omega
  · exact h.gq
  · intro k hk e
    rcases hc k hk with a | a
    · exact h.pq k a e
    · have := (h.aQ k e).2.1; omega
theorem Ap.goQ {B n n' : Nat} {F G P Q X Q' : Nat → Prop} (h : Ap B n F G P Q X) (hn : n ≤ n') (hB : B ≤ n) (hX : ∀ k, X k → k < n) (hc : ∀ k, Q' k → Q k ∨ n ≤ k) (hl : ∀ k, Q' k → k < n') : Ap B n' F G P Q' X := by
  refine ⟨?_, ?_, ?_, ?_, ?_, ?_, ?_, ?_, ?_, ?_⟩
  · intro k hk
    exact ⟨(h.aF k hk).1, by have := (h.aF k hk).2.1; omega, (h.aF k hk).2.2⟩
  · intro k hk
    exact ⟨(h.aG k hk).1, by have := (h.aG k hk).2.1; omega, (h.aG k hk).2.2⟩
  · intro k hk
    exact ⟨(h.aP k hk).1, by have := (h.aP k hk).2.1; omega, (h.aP k hk).2.2⟩
  · intro k hk
    rcases hc k hk with a | a
    · exact ⟨(h.aQ k a).1, hl k hk, (h.aQ k a).2.2⟩
    · exact ⟨by omega, hl k hk, fun e => by have := hX k e; omega⟩
  · exact h.fg
  · exact h.fp
  · intro k hk e
    rcases hc k e with a | a
    · exact h.fq k hk a
    · have := (h.aF k hk).2.1; omega
  · exact h.gp
  · intro k hk e
    rcases hc k e with a | a
    · exact h.gq k hk a
    · have := (h.aG k hk).2.1; omega
  · intro k hk e
    rcases hc k e with a | a
    · exact h.pq k hk a
    · have := (h.aP k hk).2.1; omega
theorem Ap.grow {B n n' : Nat} {F G P Q X : Nat → Prop} (h : Ap B n F G P Q X) (hn : n ≤ n') : Ap B n' F G P Q X :=
  ⟨fun k a => ⟨(h.aF k a).1, Nat.lt_of_lt_of_le (h.aF k a).2.1 hn, (h.aF k a).2.2⟩, fun k a => ⟨(h.aG k a).1, Nat.lt_of_lt_of_le (h.aG k a).2.1 hn, (h.aG k a).2.2⟩, fun k a => ⟨(h.aP k a).1, Nat.lt_of_lt_of_le (h.aP k a).2.1 hn, (h.aP k a).2.2⟩, fun k a => ⟨(h.aQ k a).1, Nat.lt_of_lt_of_le (h.aQ k a).2.1 hn, (h.aQ k a).2.2⟩, h.fg, h.fp, h.fq, h.gp, h.gq, h.pq⟩
theorem Ap.turn {B n : Nat} {F G P Q X Y : Nat → Prop} (h : Ap B n F G P Q X) (hY : ∀ k, B ≤ k → k < n → Y k → X k) : Ap B n F G P Q Y :=
  ⟨fun k a => ⟨(h.aF k a).1, (h.aF k a).2.1, fun e => (h.aF k a).2.2 (hY k (h.aF k a).1 (h.aF k a).2.1 e)⟩, fun k a => ⟨(h.aG k a).1, (h.aG k a).2.1, fun e => (h.aG k a).2.2 (hY k (h.aG k a).1 (h.aG k a).2.1 e)⟩, fun k a => ⟨(h.aP k a).1, (h.aP k a).2.1, fun e => (h.aP k a).2.2 (hY k (h.aP k a).1 (h.aP k a).2.1 e)⟩, fun k a => ⟨(h.aQ k a).1, (h.aQ k a).2.1, fun e => (h.aQ k a).2.2 (hY k (h.aQ k a).1 (h.aQ k a).2.1 e)⟩, h.fg, h.fp, h.fq, h.gp, h.gq, h.pq⟩

/-- Both heaps, both paints; X: blocks that stay. -/
structure P4 (w0 : World) (B : Nat) (w : World) (hb rb pb qb : Nat) (h1 h2 : HSt) (p1 p2 : PSt) (X : Nat → Prop) : Prop where
  ex : ∃ F G P Q, HP w hb F h1 ∧ RP w rb G h2 ∧ PN w pb hb B P p1 ∧ QN w qb rb B Q p2 ∧ Ap B w.heap.size F G P Q X
  bel : Below B w0 w
  le : B ≤ w.heap.size
  xs : ∀ k, X k → k < w.heap.size
  pos : 0 < B
section
variable {w0 w w' : World} {B hb rb pb qb : Nat} {h1 h2 h' : HSt} {p1 p2 p' : PSt} {X : Nat → Prop} {n : Nat} {args : Array Value} {r : Ending}
theorem P4.hgo (x : P4 w0 B w hb rb pb qb h1 h2 p1 p2 X) (f : ∀ F, HP w hb F h1 → Calls Tryd.prog n args w fun e w' => e = r ∧ Goes w w' hb F h') : Calls Tryd.prog n args w fun e w' => e = r ∧ P4 w0 B w' hb rb pb qb h' h2 p1 p2 X ∧ Kept w w' (Its B X) := by
  obtain ⟨F, G, P, Q, hp, rp, pn, qn, ap⟩ := x.ex
  refine (f F hp).mono ?_
  rintro e w' ⟨he, hg⟩
  obtain ⟨F', hp', hF'⟩ := hg.ex
  exact ⟨he, ⟨⟨F', G, P, Q, hp', rp.kept hg.kept (fun k a b => ap.fg k b a), pn.kept hg.kept (fun k a b => ap.fp k b a), qn.kept hg.kept (fun k a b => ap.fq k b a), ap.goF hg.kept.size x.le x.xs hF' hp'.lt⟩, x.bel.trans (hg.kept.below x.le (fun i hi e => by have := (ap.aF i e).1; omega)), Nat.le_trans x.le hg.kept.size, fun k e => Nat.lt_of_lt_of_le (x.xs k e) hg.kept.size, x.pos⟩, hg.kept.mono (fun k _ e => ⟨(ap.aF k e).1, (ap.aF k e).2.2⟩)⟩
theorem P4.rgo (x : P4 w0 B w hb rb pb qb h1 h2 p1 p2 X) (f : ∀ G, RP w rb G h2 → Calls Tryd.prog n args w fun e w' => e = r ∧ RGoes w w' rb G h') : Calls Tryd.prog n args w fun e w' => e = r ∧ P4 w0 B w' hb rb pb qb h1 h' p1 p2 X ∧ Kept w w' (Its B X) := by
  obtain ⟨F, G, P, Q, hp, rp, pn, qn, ap⟩ := x.ex
  have hpos := x.pos
  refine (f G rp).mono ?_
  rintro e w' ⟨he, hg⟩
  obtain ⟨G', rp', hG'⟩ := hg.ex
  exact ⟨he, ⟨⟨F, G', P, Q, hp.kept hg.kept (fun e => by have := (ap.aG 0 e).1; omega) (fun k a b => ap.fg k a b), rp', pn.kept hg.kept (fun k a b => ap.gp k b a), qn.kept hg.kept (fun k a b => ap.gq k b a), ap.goG hg.kept.size x.le x.xs hG' rp'.lt⟩, x.bel.trans (hg.kept.below x.le (fun i hi e => by have := (ap.aG i e).1; omega)), Nat.le_trans x.le hg.kept.size, fun k e => Nat.lt_of_lt_of_le (x.xs k e) hg.kept.size, x.pos⟩, hg.kept.mono (fun k _ e => ⟨(ap.aG k e).1, (ap.aG k e).2.2⟩)⟩
theorem P4.pgo (x : P4 w0 B w hb rb pb qb h1 h2 p1 p2 X) (f : ∀ sb mb tb v F, PX w pb hb B sb mb tb v p1 → HP w hb F h1 → (∀ k, F k → ¬ pBl pb sb mb tb v k) → Calls Tryd.prog n args w fun e w' => e = r ∧ PGo w w' pb hb B (pBl pb sb mb tb v) p') : Calls Tryd.prog n args w fun e w' => e = r ∧ P4 w0 B w' hb rb pb qb h1 h2 p' p2 X ∧ Kept w w' (Its B X) := by
  obtain ⟨F, G, P, Q, hp, rp, ⟨sb, mb, tb, v, hx, hPi⟩, qn, ap⟩ := x.ex
  have hpos := x.pos
  refine (f sb mb tb v F hx hp (fun k a b => ap.fp k a ((hPi k).2 b))).mono ?_
  rintro e w' ⟨he, hg⟩
  have hg := PX.fit hPi hg
  obtain ⟨P', pn', hP'⟩ := hg.ex
  exact ⟨he, ⟨⟨F, G, P', Q, hp.kept hg.kept (fun e => by have := (ap.aP 0 e).1; omega) (fun k a b => ap.fp k a b), rp.kept hg.kept (fun k a b => ap.gp k a b), pn', qn.kept hg.kept (fun k a b => ap.pq k b a), ap.goP hg.kept.size x.le x.xs hP' pn'.lt⟩, x.bel.trans (hg.kept.below x.le (fun i hi e => by have := (ap.aP i e).1; omega)), Nat.le_trans x.le hg.kept.size, fun k e => Nat.lt_of_lt_of_le (x.xs k e) hg.kept.size, x.pos⟩, hg.kept.mono (fun k _ e => ⟨(ap.aP k e).1, (ap.aP k e).2.2⟩)⟩
theorem P4.qgo (x : P4 w0 B w hb rb pb qb h1 h2 p1 p2 X) (f : ∀ sv mv kv vv L ra rc rt lv M, RQ w qb rb B sv mv kv vv p2 L → RX w rb ra rc rt lv h2 M → (∀ j ∈ rBl rb ra rc rt lv M, ¬ qBl qb sv mv kv vv j) → Calls Tryd.prog n args w fun e w' => e = r ∧ QGo w w' qb rb B (qBl qb sv mv kv vv) p') : Calls Tryd.prog n args w fun e w' => e = r ∧ P4 w0 B w' hb rb pb qb h1 h2 p1 p' X ∧ Kept w w' (Its B X) := by
  obtain ⟨F, G, P, Q, hp, ⟨ra, rc, rt, lv, M, hr, hGi⟩, pn, ⟨sv, mv, kv, vv, L, hq, hQi⟩, ap⟩ := x.ex
  have hpos := x.pos
  refine (f sv mv kv vv L ra rc rt lv M hq hr (fun j hj e => ap.gq j ((hGi j).2 hj) ((hQi j).2 e))).mono ?_
  rintro e w' ⟨he, hg⟩
  have eQ : Q = qBl qb sv mv kv vv := funext fun k => propext (hQi k)
  rw [← eQ] at hg
  obtain ⟨Q', qn', hQ'⟩ := hg.ex
  have rp : RP w rb G h2 := ⟨ra, rc, rt, lv, M, hr, hGi⟩
  exact ⟨he, ⟨⟨F, G, P, Q', hp.kept hg.kept (fun e => by have := (ap.aQ 0 e).1; omega) (fun k a b => ap.fq k a b), rp.kept hg.kept (fun k a b => ap.gq k a b), pn.kept hg.kept (fun k a b => ap.pq k a b), qn', ap.goQ hg.kept.size x.le x.xs hQ' qn'.lt⟩, x.bel.trans (hg.kept.below x.le (fun i hi e => by have := (ap.aQ i e).1; omega)), Nat.le_trans x.le hg.kept.size, fun k e => Nat.lt_of_lt_of_le (x.xs k e) hg.kept.size, x.pos⟩, hg.kept.mono (fun k _ e => ⟨(ap.aQ k e).1, (ap.aQ k e).2.2⟩)⟩
theorem P4.read (x : P4 w0 B w hb rb pb qb h1 h2 p1 p2 X) (hB : Below w.heap.size w w') : P4 w0 B w' hb rb pb qb h1 h2 p1 p2 X := by
  obtain ⟨F, G, P, Q, hp, rp, pn, qn, ap⟩ := x.ex
  exact ⟨⟨F, G, P, Q, hp.below hB, rp.below hB, pn.below hB, qn.below hB, ap.grow hB.size⟩, x.bel.trans (hB.mono x.le), Nat.le_trans x.le hB.size, fun k e => Nat.lt_of_lt_of_le (x.xs k e) hB.size, x.pos⟩
theorem P4.box (x : P4 w0 B w hb rb pb qb h1 h2 p1 p2 X) (o : Obj) : P4 w0 B (w.alloc o) hb rb pb qb h1 h2 p1 p2 (fun k => X k ∨ k = w.heap.size) := by
  obtain ⟨F, G, P, Q, hp, rp, pn, qn, ap⟩ := x.ex
  have hB : Below w.heap.size w (w.alloc o) := bel_alloc w o
  refine ⟨⟨F, G, P, Q, hp.below hB, rp.below hB, pn.below hB, qn.below hB, ((ap.turn (Y := fun k => X k ∨ k = w.heap.size) (fun k _ hk e => by
    rcases e with e | e
    · exact e
    · omega))).grow hB.size⟩, x.bel.trans (hB.mono x.le), Nat.le_trans x.le hB.size, fun k e => ?_, x.pos⟩
  rcases e with e | e
  · exact Nat.lt_of_lt_of_le (x.xs k e) hB.size
  · simp [e]
theorem P4.other (x : P4 w0 B w hb rb pb qb h1 h2 p1 p2 X) {S : Nat → Prop} (hk : Kept w w' S) (hS : ∀ k, S k → X k ∧ B ≤ k) : P4 w0 B w' hb rb pb qb h1 h2 p1 p2 X := by
  obtain ⟨F, G, P, Q, hp, rp, pn, qn, ap⟩ := x.ex
  have hpos := x.pos
  exact ⟨⟨F, G, P, Q, hp.kept hk (fun e => by have := (hS 0 e).2; omega) (fun k a b => (ap.aF k a).2.2 (hS k b).1), rp.kept hk (fun k a b => (ap.aG k a).2.2 (hS k b).1), pn.kept hk (fun k a b => (ap.aP k a).2.2 (hS k b).1), qn.kept hk (fun k a b => (ap.aQ k a).2.2 (hS k b).1), ap.grow hk.size⟩, x.bel.trans (hk.below x.le (fun i hi e => by have := (hS i e).2; omega)), Nat.le_trans x.le hk.size, fun k e => Nat.lt_of_lt_of_le (x.xs k e) hk.size, x.pos⟩
theorem P4.off (x : P4 w0 B w hb rb pb qb h1 h2 p1 p2 X) (Y : Nat → Prop) (hY : ∀ k, Y k → X k) : P4 w0 B w hb rb pb qb h1 h2 p1 p2 Y := by
  obtain ⟨F, G, P, Q, hp, rp, pn, qn, ap⟩ := x.ex
  exact ⟨⟨F, G, P, Q, hp, rp, pn, qn, ap.turn (fun k _ _ e => hY k e)⟩, x.bel, x.le, fun k e => x.xs k (hY k e), x.pos⟩
theorem P4.last (x : P4 w0 B w hb rb pb qb h1 h2 p1 p2 X) : w.cell? ⟨rb, 2, none⟩ = some (.int .u64 (h2.last : Int)) := by
  obtain ⟨F, G, P, Q, hp, ⟨ra, rc, rt, lv, M, hr, hGi⟩, pn, qn, ap⟩ := x.ex
  exact hr.c2
end
end Go.Proofs.YtdafpfdmnccelaaDoor
