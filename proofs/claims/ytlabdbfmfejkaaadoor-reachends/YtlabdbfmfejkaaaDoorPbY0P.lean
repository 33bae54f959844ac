import Derived.Test.YtlabdbfmfejkaaaDoorPbTP
import Derived.Deep.RegionHeld
import Derived.Test.YtlabdbfmfejkaaaDoorPbKP
import Derived.Deep.CutRange
import Derived.Deep.CutBlock
import Derived.BigQuiet
import Derived.Test.YtlabdbfmfejkaaaDoorPbDP
/- The last test of the law's same, row by row (made by tools/mksame.py). -/
/- The law's same. -/
/- Both heaps and both paints, side by side. -/
/- What stands on the stack is a serial. No program's text is in it. -/
/- Each call of PaintPlays' round, over both heaps and both paints; what a round keeps. -/
/- Both heaps and both paints at their beginning; the step that lies in a box. -/
namespace Go.Proofs.YtlabdbfmfejkaaaDoor
open Go.RowKit

theorem below_via {a b c : World} (h1 : Below a.heap.size a b) (h2 : Below b.heap.size b c) : Below a.heap.size a c := h1.trans (h2.mono h1.size)
end Go.Proofs.YtlabdbfmfejkaaaDoor

namespace Go.Proofs.YtlabdbfmfejkaaaDoor
open Go.RowKit

theorem OL.zero {w : World} {b : Nat} {v : Value} {L : List ((Int × Nat) × Nat)} (h : OL w b v L) : OL w 0 v L := by
  obtain ⟨ao, cap, e, hx⟩ := h
  exact ⟨ao, cap, e, fun h0 => by
    obtain ⟨g, h1, _, h3⟩ := hx h0
    exact ⟨g, h1, Nat.zero_le _, h3⟩⟩
section
variable {w w' : World} {pb hb base sb mb tb qb rb base' ra rc rt : Nat} {v sv mv kv vv lv : Value} {p : PSt} {F : Nat → Prop} {h : HSt} {L : List ((Int × Nat) × Nat)} {M : List Pl} {k : Nat}
end
end Go.Proofs.YtlabdbfmfejkaaaDoor

namespace Go.Proofs.YtlabdbfmfejkaaaDoor
open Go.RowKit

/-- Four sets of blocks, from B on and below n, apart from one another and from X. -/
structure Ap (B n : Nat) (F G P Q X : Nat → Prop) : Prop where
  aF : ∀ k, F k → B ≤ k ∧ k < n ∧ ¬ X k
  aG : ∀ k, G k → B ≤ k ∧ k < n ∧ ¬ X k
  aP : ∀ k, P k → B ≤ k ∧ k < n ∧ ¬ X k
  aQ : ∀ k, Q k → B ≤ k ∧ k < n ∧ ¬ X k
  fg : ∀ k, F k → ¬ G k
  fp : ∀ k, F k → ¬ P k
  fq : ∀ k, F k → ¬ Q k
  gp : ∀ k, G k → ¬ P k
  gq : ∀ k, G k → ¬ Q k
  pq : ∀ k, P k → ¬ Q k
theorem Ap.goF {B n n' : Nat} {F G P Q X F' : Nat → Prop} (h : Ap B n F G P Q X) (hn : n ≤ n') (hB : B ≤ n) (hX : ∀ k, X k → k < n) (hc : ∀ k, F' k → F k ∨ n ≤ k) (hl : ∀ k, F' k → k < n') : Ap B n' F' G P Q X := by
  refine ⟨?_, ?_, ?_, ?_, ?_, ?_, ?_, ?_, ?_, ?_⟩
  · intro k hk
    rcases hc k hk with a | a
    · exact ⟨(h.aF k a).1, hl k hk, (h.aF k a).2.2⟩
    · exact ⟨by omega, hl k hk, fun e => by have := hX k e; omega⟩
  · intro k hk
    exact ⟨(h.aG k hk).1, by have := (h.aG k hk).2.1; omega, (h.aG k hk).2.2⟩
  · intro k hk
    exact ⟨(h.aP k hk).1, by have := (h.aP k hk).2.1; omega, (h.aP k hk).2.2⟩
  · intro k hk
    exact ⟨(h.aQ k hk).1, by have := (h.aQ k hk).2.1; omega, (h.aQ k hk).2.2⟩
  · intro k hk e
    rcases hc k hk with a | a
    · exact h.fg k a e
    · have := (h.aG k e).2.1; omega
  · intro k hk e
    rcases hc k hk with a | a
    · exact h.fp k a e
    · have := (h.aP k e).2.1; omega
  · intro k hk e
    rcases hc k hk with a | a
    · exact h.fq k a e
    · have := (h.aQ k e).2.1; omega
  · exact h.gp
  · exact h.gq
  · exact h.pq
theorem Ap.goG {B n n' : Nat} {F G P Q X G' : Nat → Prop} (h : Ap B n F G P Q X) (hn : n ≤ n') (hB : B ≤ n) (hX : ∀ k, X k → k < n) (hc : ∀ k, G' k → G k ∨ n ≤ k) (hl : ∀ k, G' k → k < n') : Ap B n' F G' P Q X := by
  refine ⟨?_, ?_, ?_, ?_, ?_, ?_, ?_, ?_, ?_, ?_⟩
  · intro k hk
    exact ⟨(h.aF k hk).1, by have := (h.aF k hk).2.1; omega, (h.aF k hk).2.2⟩
  · intro k hk
    rcases hc k hk with a | a
    · exact ⟨(h.aG k a).1, hl k hk, (h.aG k a).2.2⟩
    · exact ⟨by omega, hl k hk, fun e => by have := hX k e; omega⟩
  · intro k hk
    exact ⟨(h.aP k hk).1, by have := (h.aP k hk).2.1; omega, (h.aP k hk).2.2⟩
  · intro k hk
    exact ⟨(h.aQ k hk).1, by have := (h.aQ k hk).2.1; omega, (h.aQ k hk).2.2⟩
  · intro k hk e
    rcases hc k e with a | a
    · exact h.fg k hk a
    · have := (h.aF k hk).2.1; omega
  · exact h.fp
  · exact h.fq
  · intro k hk e
    rcases hc k hk with a | a
    · exact h.gp k a e
    · have := (h.aP k e).2.1; omega
  · intro k hk e
    rcases hc k hk with a | a
    · exact h.gq k a e
    · have := (h.aQ k e).2.1; omega
  · exact h.pq
theorem Ap.goP {B n n' : Nat} {F G P Q X P' : Nat → Prop} (h : Ap B n F G P Q X) (hn : n ≤ n') (hB : B ≤ n) (hX : ∀ k, X k → k < n) (hc : ∀ k, P' k → P k ∨ n ≤ k) (hl : ∀ k, P' k → k < n') : Ap B n' F G P' Q X := by
  refine ⟨?_, ?_, ?_, ?_, ?_, ?_, ?_, ?_, ?_, ?_⟩
  · intro k hk
    exact ⟨(h.aF k hk).1, by have := (h.aF k hk).2.1; omega, (h.aF k hk).2.2⟩
  · intro k hk
    exact ⟨(h.aG k hk).1, by have := (h.aG k hk).2.1; omega, (h.aG k hk).2.2⟩
  · intro k hk
    rcases hc k hk with a | a
    · exact ⟨(h.aP k a).1, hl k hk, (h.aP k a).2.2⟩
    · exact ⟨by omega, hl k hk, fun e => by have := hX k e; omega⟩
  · intro k hk
    exact ⟨(h.aQ k hk).1, by have := (h.aQ k hk).2.1; omega, (h.aQ k hk).2.2⟩
  · exact h.fg
  · intro k hk e
    rcases hc k e with a | a
    · exact h.fp k hk a
    · have := (h.aF k hk).2.1; omega
  · exact h.fq
  · intro k hk e
    rcases hc k e with a | a
    · exact h.gp k hk a
    · have := (h.aG k hk).2.1; omega
  · exact h.gq
  · intro k hk e
    rcases hc k hk with a | a
    · exact h.pq k a e
    · have := (h.aQ k e).2.1; omega
theorem Ap.goQ {B n n' : Nat} {F G P Q X Q' : Nat → Prop} (h : Ap B n F G P Q X) (hn : n ≤ n') (hB : B ≤ n) (hX : ∀ k, X k → k < n) (hc : ∀ k, Q' k → Q k ∨ n ≤ k) (hl : ∀ k, Q' k → k < n') : Ap B n' F G P Q' X := by
  refine ⟨?_, ?_, ?_, ?_, ?_, ?_, ?_, ?_, ?_, ?_⟩
  · intro k hk
    exact ⟨(h.aF k hk).1, by have := (h.aF k hk).2.1; omega, (h.aF k hk).2.2⟩
  · intro k hk
    exact ⟨(h.aG k hk).1, by have := (h.aG k hk).2.1; omega, (h.aG k hk).2.2⟩
  · intro k hk
    exact ⟨(h.aP k hk).1, by have := (h.aP k hk).2.1; omega, (h.aP k hk).2.2⟩
  · intro k hk
    rcases hc k hk with a | a
    · exact ⟨(h.aQ k a).1, hl k hk, (h.aQ k a).2.2⟩
    · exact ⟨by omega, hl k hk, fun e => by have := hX k e; omega⟩
  · exact h.fg
  · exact h.fp
  · intro k hk e
    rcases hc k e with a | a
    · exact h.fq k hk a
    · have := (h.aF k hk).2.1; omega
  · exact h.gp
  · intro k hk e
    rcases hc k e with a | a
    · exact h.gq k hk a
    · have := (h.aG k hk).2.1; omega
  · intro k hk e
    rcases hc k e with a | a
    · exact h.pq k hk a
    · have := (h.aP k hk).2.1; omega
theorem Ap.grow {B n n' : Nat} {F G P Q X : Nat → Prop} (h : Ap B n F G P Q X) (hn : n ≤ n') : Ap B n' F G P Q X :=
  ⟨fun k a => ⟨(h.aF k a).1, Nat.lt_of_lt_of_le (h.aF k a).2.1 hn, (h.aF k a).2.2⟩, fun k a => ⟨(h.aG k a).1, Nat.lt_of_lt_of_le (h.aG k a).2.1 hn, (h.aG k a).2.2⟩, fun k a => ⟨(h.aP k a).1, Nat.lt_of_lt_of_le (h.aP k a).2.1 hn, (h.aP k a).2.2⟩, fun k a => ⟨(h.aQ k a).1, Nat.lt_of_lt_of_le (h.aQ k a).2.1 hn, (h.aQ k a).2.2⟩, h.fg, h.fp, h.fq, h.gp, h.gq, h.pq⟩
theorem Ap.turn {B n : Nat} {F G P Q X Y : Nat → Prop} (h : Ap B n F G P Q X) (hY : ∀ k, B ≤ k → k < n → Y k → X k) : Ap B n F G P Q Y :=
  ⟨fun k a => ⟨(h.aF k a).1, (h.aF k a).2.1, fun e => (h.aF k a).2.2 (hY k (h.aF k a).1 (h.aF k a).2.1 e)⟩, fun k a => ⟨(h.aG k a).1, (h.aG k a).2.1, fun e => (h.aG k a).2.2 (hY k (h.aG k a).1 (h.aG k a).2.1 e)⟩, fun k a => ⟨(h.aP k a).1, (h.aP k a).2.1, fun e => (h.aP k a).2.2 (hY k (h.aP k a).1 (h.aP k a).2.1 e)⟩, fun k a => ⟨(h.aQ k a).1, (h.aQ k a).2.1, fun e => (h.aQ k a).2.2 (hY k (h.aQ k a).1 (h.aQ k a).2.1 e)⟩, h.fg, h.fp, h.fq, h.gp, h.gq, h.pq⟩

/-- Both heaps, both paints; X: blocks that stay. -/
structure P4 (w0 : World) (B : Nat) (w : World) (hb rb pb qb : Nat) (h1 h2 : HSt) (p1 p2 : PSt) (X : Nat → Prop) : Prop where
  ex : ∃ F G P Q, HP w hb F h1 ∧ RP w rb G h2 ∧ PN w pb hb B P p1 ∧ QN w qb rb B Q p2 ∧ Ap B w.heap.size F G P Q X
  bel : Below B w0 w
  le : B ≤ w.heap.size
  xs : ∀ k, X k → k < w.heap.size
  pos : 0 < B
section
variable {w0 w w' : World} {B hb rb pb qb : Nat} {h1 h2 h' : HSt} {p1 p2 p' : PSt} {X : Nat → Prop} {n : Nat} {args : Array Value} {r : Ending}
theorem P4.hgo (x : P4 w0 B w hb rb pb qb h1 h2 p1 p2 X) (f : ∀ F, HP w hb F h1 → Calls Tryd.prog n args w fun e w' => e = r ∧ Goes w w' hb F h') : Calls Tryd.prog n args w fun e w' => e = r ∧ P4 w0 B w' hb rb pb qb h' h2 p1 p2 X ∧ Kept w w' (Its B X) := by
  obtain ⟨F, G, P, Q, hp, rp, pn, qn, ap⟩ := x.ex
  refine (f F hp).mono ?_
  rintro e w' ⟨he, hg⟩
  obtain ⟨F', hp', hF'⟩ := hg.ex
  exact ⟨he, ⟨⟨F', G, P, Q, hp', rp.kept hg.kept (fun k a b => ap.fg k b a), pn.kept hg.kept (fun k a b => ap.fp k b a), qn.kept hg.kept (fun k a b => ap.fq k b a), ap.goF hg.kept.size x.le x.xs hF' hp'.lt⟩, x.bel.trans (hg.kept.below x.le (fun i hi e => by have := (ap.aF i e).1; omega)), Nat.le_trans x.le hg.kept.size, fun k e => Nat.lt_of_lt_of_le (x.xs k e) hg.kept.size, x.pos⟩, hg.kept.mono (fun k _ e => ⟨(ap.aF k e).1, (ap.aF k e).2.2⟩)⟩
theorem P4.rgo (x : P4 w0 B w hb rb pb qb h1 h2 p1 p2 X) (f : ∀ G, RP w rb G h2 → Calls Tryd.prog n args w fun e w' => e = r ∧ RGoes w w' rb G h') : Calls Tryd.prog n args w fun e w' => e = r ∧ P4 w0 B w' hb rb pb qb h1 h' p1 p2 X ∧ Kept w w' (Its B X) := by
  obtain ⟨F, G, P, Q, hp, rp, pn, qn, ap⟩ := x.ex
  have hpos := x.pos
  refine (f G rp).mono ?_
  rintro e w' ⟨he, hg⟩
  obtain ⟨G', rp', hG'⟩ := hg.ex
  exact ⟨he, ⟨⟨F, G', P, Q, hp.kept hg.kept (fun e => by have := (ap.aG 0 e).1; omega) (fun k a b => ap.fg k a b), rp', pn.kept hg.kept (fun k a b => ap.gp k b a), qn.kept hg.kept (fun k a b => ap.gq k b a), ap.goG hg.kept.size x.le x.xs hG' rp'.lt⟩, x.bel.trans (hg.kept.below x.le (fun i hi e => by have := (ap.aG i e).1; omega)), Nat.le_trans x.le hg.kept.size, fun k e => Nat.lt_of_lt_of_le (x.xs k e) hg.kept.size, x.pos⟩, hg.kept.mono (fun k _ e => ⟨(ap.aG k e).1, (ap.aG k e).2.2⟩)⟩
theorem P4.pgo (x : P4 w0 B w hb rb pb qb h1 h2 p1 p2 X) (f : ∀ sb mb tb v F, PX w pb hb B sb mb tb v p1 → HP w hb F h1 → (∀ k, F k → ¬ pBl pb sb mb tb v k) → Calls Tryd.prog n args w fun e w' => e = r ∧ PGo w w' pb hb B (pBl pb sb mb tb v) p') : Calls Tryd.prog n args w fun e w' => e = r ∧ P4 w0 B w' hb rb pb qb h1 h2 p' p2 X ∧ Kept w w' (Its B X) := by
  obtain ⟨F, G, P, Q, hp, rp, ⟨sb, mb, tb, v, hx, hPi⟩, qn, ap⟩ := x.ex
  have hpos := x.pos
  refine (f sb mb tb v F hx hp (fun k a b => ap.fp k a ((hPi k).2 b))).mono ?_
  rintro e w' ⟨he, hg⟩
  have hg := PX.fit hPi hg
  obtain ⟨P', pn', hP'⟩ := hg.ex
  exact ⟨he, ⟨⟨F, G, P', Q, hp.kept hg.kept (fun e => by have := (ap.aP 0 e).1; omega) (fun k a b => ap.fp k a b), rp.kept hg.kept (fun k a b => ap.gp k a b), pn', qn.kept hg.kept (fun k a b => ap.pq k b a), ap.goP hg.kept.size x.le x.xs hP' pn'.lt⟩, x.bel.trans (hg.kept.below x.le (fun i hi e => by have := (ap.aP i e).1; omega)), Nat.le_trans x.le hg.kept.size, fun k e => Nat.lt_of_lt_of_le (x.xs k e) hg.kept.size, x.pos⟩, hg.kept.mono (fun k _ e => ⟨(ap.aP k e).1, (ap.aP k e).2.2⟩)⟩
theorem P4.qgo (x : P4 w0 B w hb rb pb qb h1 h2 p1 p2 X) (f : ∀ sv mv kv vv L ra rc rt lv M, RQ w qb rb B sv mv kv vv p2 L → RX w rb ra rc rt lv h2 M → (∀ j ∈ rBl rb ra rc rt lv M, ¬ qBl qb sv mv kv vv j) → Calls Tryd.prog n args w fun e w' => e = r ∧ QGo w w' qb rb B (qBl qb sv mv kv vv) p') : Calls Tryd.prog n args w fun e w' => e = r ∧ P4 w0 B w' hb rb pb qb h1 h2 p1 p' X ∧ Kept w w' (Its B X) := by
  obtain ⟨F, G, P, Q, hp, ⟨ra, rc, rt, lv, M, hr, hGi⟩, pn, ⟨sv, mv, kv, vv, L, hq, hQi⟩, ap⟩ := x.ex
  have hpos := x.pos
  refine (f sv mv kv vv L ra rc rt lv M hq hr (fun j hj e => ap.gq j ((hGi j).2 hj) ((hQi j).2 e))).mono ?_
  rintro e w' ⟨he, hg⟩
  have eQ : Q = qBl qb sv mv kv vv := funext fun k => propext (hQi k)
  rw [← eQ] at hg
  obtain ⟨Q', qn', hQ'⟩ := hg.ex
  have rp : RP w rb G h2 := ⟨ra, rc, rt, lv, M, hr, hGi⟩
  exact ⟨he, ⟨⟨F, G, P, Q', hp.kept hg.kept (fun e => by have := (ap.aQ 0 e).1; omega) (fun k a b => ap.fq k a b), rp.kept hg.kept (fun k a b => ap.gq k a b), pn.kept hg.kept (fun k a b => ap.pq k a b), qn', ap.goQ hg.kept.size x.le x.xs hQ' qn'.lt⟩, x.bel.trans (hg.kept.below x.le (fun i hi e => by have := (ap.aQ i e).1; omega)), Nat.le_trans x.le hg.kept.size, fun k e => Nat.lt_of_lt_of_le (x.xs k e) hg.kept.size, x.pos⟩, hg.kept.mono (fun k _ e => ⟨(ap.aQ k e).1, (ap.aQ k e).2.2⟩)⟩
theorem P4.read (x : P4 w0 B w hb rb pb qb h1 h2 p1 p2 X) (hB : Below w.heap.size w w') : P4 w0 B w' hb rb pb qb h1 h2 p1 p2 X := by
  obtain ⟨F, G, P, Q, hp, rp, pn, qn, ap⟩ := x.ex
  exact ⟨⟨F, G, P, Q, hp.below hB, rp.below hB, pn.below hB, qn.below hB, ap.grow hB.size⟩, x.bel.trans (hB.mono x.le), Nat.le_trans x.le hB.size, fun k e => Nat.lt_of_lt_of_le (x.xs k e) hB.size, x.pos⟩
theorem P4.box (x : P4 w0 B w hb rb pb qb h1 h2 p1 p2 X) (o : Obj) : P4 w0 B (w.alloc o) hb rb pb qb h1 h2 p1 p2 (fun k => X k ∨ k = w.heap.size) := by
  obtain ⟨F, G, P, Q, hp, rp, pn, qn, ap⟩ := x.ex
  have hB : Below w.heap.size w (w.alloc o) := bel_alloc w o
  refine ⟨⟨F, G, P, Q, hp.below hB, rp.below hB, pn.below hB, qn.below hB, ((ap.turn (Y := fun k => X k ∨ k = w.heap.size) (fun k _ hk e => by
    rcases e with e | e
    · exact e
    · omega))).grow hB.size⟩, x.bel.trans (hB.mono x.le), Nat.le_trans x.le hB.size, fun k e => ?_, x.pos⟩
  rcases e with e | e
  · exact Nat.lt_of_lt_of_le (x.xs k e) hB.size
  · simp [e]
theorem P4.other (x : P4 w0 B w hb rb pb qb h1 h2 p1 p2 X) {S : Nat → Prop} (hk : Kept w w' S) (hS : ∀ k, S k → X k ∧ B ≤ k) : P4 w0 B w' hb rb pb qb h1 h2 p1 p2 X := by
  obtain ⟨F, G, P, Q, hp, rp, pn, qn, ap⟩ := x.ex
  have hpos := x.pos
  exact ⟨⟨F, G, P, Q, hp.kept hk (fun e => by have := (hS 0 e).2; omega) (fun k a b => (ap.aF k a).2.2 (hS k b).1), rp.kept hk (fun k a b => (ap.aG k a).2.2 (hS k b).1), pn.kept hk (fun k a b => (ap.aP k a).2.2 (hS k b).1), qn.kept hk (fun k a b => (ap.aQ k a).2.2 (hS k b).1), ap.grow hk.size⟩, x.bel.trans (hk.below x.le (fun i hi e => by have := (hS i e).2; omega)), Nat.le_trans x.le hk.size, fun k e => Nat.lt_of_lt_of_le (x.xs k e) hk.size, x.pos⟩
theorem P4.off (x : P4 w0 B w hb rb pb qb h1 h2 p1 p2 X) (Y : Nat → Prop) (hY : ∀ k, Y k → X k) : P4 w0 B w hb rb pb qb h1 h2 p1 p2 Y := by
  obtain ⟨F, G, P, Q, hp, rp, pn, qn, ap⟩ := x.ex
  exact ⟨⟨F, G, P, Q, hp, rp, pn, qn, ap.turn (fun k _ _ e => hY k e)⟩, x.bel, x.le, fun k e => x.xs k (hY k e), x.pos⟩
theorem P4.last (x : P4 w0 B w hb rb pb qb h1 h2 p1 p2 X) : w.cell? ⟨rb, 2, none⟩ = some (.int .u64 (h2.last : Int)) := by
  obtain ⟨F, G, P, Q, hp, ⟨ra, rc, rt, lv, M, hr, hGi⟩, pn, qn, ap⟩ := x.ex
  exact hr.c2
end
end Go.Proofs.YtlabdbfmfejkaaaDoor

namespace Go.Proofs.YtlabdbfmfejkaaaDoor
open Go.RowKit

/-- What stands on the stack. -/
def SB (p : PSt) : Prop := ∀ s ∈ p.stk, s ≤ 72057594037927935
theorem SB.push {p : PSt} (H : SB p) {s : Nat} (hs : s ≤ 72057594037927935) : SB (p.push s) := by
  unfold PSt.push
  split
  · intro t ht
    rcases List.mem_append.1 ht with h | h
    · exact H t h
    · rw [List.mem_singleton.1 h]; exact hs
  · exact H
theorem SB.own {h : HSt} {p : PSt} (H : SB p) (ok : h.Ok) (s r : Nat) : SB (p.own h s r) := by
  unfold PSt.own
  split
  · next hg =>
    obtain ⟨o, ho⟩ := Option.isSome_iff_exists.1 hg
    obtain ⟨h1, h2⟩ := getC_mem ho
    have hs : s ≤ 72057594037927935 := by
      have := (ok.le o h1).2
      have := ok.last
      omega
    have H' : ∀ m, SB { p with ma := m } := fun m => H
    split
    · exact (H' _).push hs
    · split
      · exact H
      · split
        · exact H' _
        · exact (H' _).push hs
  · exact H
theorem SB.shade {h : HSt} {p : PSt} (H : SB p) (ok : h.Ok) (x : Int × Nat) (r : Int) : SB (p.shade h x r) := by
  unfold PSt.shade
  split
  · split
    · exact H.own ok _ _
    · unfold PSt.meet
      split
      · exact H
      · split <;> exact H
  · exact H
theorem SB.all {h : HSt} (ok : h.Ok) (l : List (Int × Nat)) (r : Nat) : ∀ p, SB p → SB (PSt.all h p l r) := by
  unfold PSt.all
  induction l with
  | nil => exact fun p H => H
  | cons x l ih => exact fun p H => ih _ (H.shade ok x r)
theorem SB.scan {h : HSt} {p : PSt} (H : SB p) (ok : h.Ok) (s : Nat) : SB (p.scan h s) := by
  unfold PSt.scan
  split
  · exact SB.all ok _ _ _ H
  · exact H
theorem SB.pop {p : PSt} (H : SB p) : SB p.pop := fun s hs => H s ((List.dropLast_sublist p.stk).subset hs)
theorem SB.popR {p : PSt} (H : SB p) : (popR p).1 < 18446744073709551616 := by
  unfold Go.Proofs.YtlabdbfmfejkaaaDoor.popR
  split
  · next s hs =>
    have := H s (List.mem_of_getLast? hs)
    show s < _
    omega
  · show 0 < _
    omega
end Go.Proofs.YtlabdbfmfejkaaaDoor

namespace Go.Proofs.YtlabdbfmfejkaaaDoor
open Go.RowKit

/-- What a round keeps: so many marks, turns, serials. -/
structure PK (h : HSt) (p : PSt) (i : Nat) : Prop where
  pi : PI p (i * 20)
  tu : p.turns ≤ i
  la : h.last ≤ 100 + i
  st : ∀ s ∈ p.stk, s ≤ 72057594037927935
theorem push_turns (p : PSt) (s : Nat) : (p.push s).turns = p.turns := by
  unfold PSt.push
  split <;> rfl
theorem shade_turns (h : HSt) (p : PSt) (x : Int × Nat) (r : Int) : (p.shade h x r).turns = p.turns := by
  unfold PSt.shade
  split
  · split
    · unfold PSt.own
      split
      · split
        · exact push_turns _ _
        · split
          · rfl
          · split
            · rfl
            · exact push_turns _ _
      · rfl
    · unfold PSt.meet
      split
      · rfl
      · split <;> rfl
  · rfl
theorem all_turns (h : HSt) (p : PSt) (l : List (Int × Nat)) (r : Nat) : (PSt.all h p l r).turns = p.turns := by
  unfold PSt.all
  induction l generalizing p with
  | nil => rfl
  | cons x l ih =>
    rw [List.foldl_cons, ih]
    exact shade_turns h p x _
theorem scan_turns (h : HSt) (p : PSt) (s : Nat) : (p.scan h s).turns = p.turns := by
  unfold PSt.scan
  split
  · exact all_turns h _ _ _
  · rfl
theorem PI.scan {h : HSt} {p : PSt} {k : Nat} (H : PI p k) (ok : h.Ok) (s : Nat) : PI (p.scan h s) (k + 8) := by
  unfold PSt.scan
  split
  · next o r hg hm =>
    have h1 := (H.putM s (r, false)).all h o.rf r
    have h2 := (ok.fl o (by unfold getC at hg; exact List.mem_of_find?_eq_some hg)).1
    exact h1.mono (by omega)
  · exact H.mono (by omega)
theorem PI.blacken {h : HSt} {p : PSt} {k : Nat} (H : PI p k) (s : Nat) : PI (p.blacken h s) (k + 1) := by
  unfold PSt.blacken
  split
  · exact H.putM s _
  · exact H.mono (by omega)
theorem PI.forget {p : PSt} {k : Nat} (H : PI p k) (s : Nat) : PI (p.forget s) k :=
  ⟨H.nd.sublist (List.filter_sublist.map _), H.nm, Nat.le_trans (List.length_filter_le _ _) H.ml, H.el⟩
theorem PI.turn {p : PSt} {k : Nat} : PI p.turn k := ⟨List.nodup_nil, (fun e he => (by cases he)), Nat.zero_le _, Nat.zero_le _⟩
theorem blacken_turns (h : HSt) (p : PSt) (s : Nat) : (p.blacken h s).turns = p.turns := by
  unfold PSt.blacken
  split <;> rfl
theorem make_last (h : HSt) (r v : Int) : (h.makeS r v).last ≤ h.last + 1 := by
  unfold HSt.makeS
  split
  · exact Nat.le_refl _
  · exact Nat.le_succ _
theorem free_last (h : HSt) (s : Nat) : (h.freeS s).last = h.last := by
  unfold HSt.freeS
  split <;> rfl
section
variable {h : HSt} {p : PSt} {i : Nat}
theorem PK.shade (H : PK h p i) (ok : h.Ok) (x : Int × Nat) (r : Int) : PK h (p.shade h x r) (i + 1) := ⟨(H.pi.shade h x r).mono (by omega), by rw [shade_turns]; have := H.tu; omega, by have := H.la; omega, SB.shade H.st ok x r⟩
theorem PK.scan (H : PK h p i) (ok : h.Ok) (s : Nat) : PK h (p.scan h s) (i + 1) := ⟨(H.pi.scan ok s).mono (by omega), by rw [scan_turns]; have := H.tu; omega, by have := H.la; omega, SB.scan H.st ok s⟩
theorem PK.pops (H : PK h p i) (ok : h.Ok) (s : Nat) : PK h (p.pop.scan h s) (i + 1) := by
  have H' : PI p.pop (i * 20) := ⟨H.pi.nd, H.pi.nm, H.pi.ml, H.pi.el⟩
  refine ⟨(H'.scan ok s).mono (by omega), ?_, by have := H.la; omega, SB.scan (SB.pop H.st) ok s⟩
  rw [scan_turns]
  have := H.tu
  show p.turns ≤ i + 1
  omega
theorem PK.blacken (H : PK h p i) (s : Nat) : PK h (p.blacken h s) (i + 1) := ⟨H.pi.blacken s |>.mono (by omega), by rw [blacken_turns]; have := H.tu; omega, by have := H.la; omega, by have h := H.st; unfold PSt.blacken; split <;> exact h⟩
theorem PK.forget (H : PK h p i) (s : Nat) : PK h (p.forget s) (i + 1) := ⟨(H.pi.forget s).mono (by omega), by have := H.tu; show p.turns ≤ i + 1; omega, by have := H.la; omega, H.st⟩
theorem PK.rest (H : PK h p i) : PK h p.rest (i + 1) := ⟨⟨H.pi.nd, H.pi.nm, by have := H.pi.ml; show p.ma.length ≤ _; omega, by have := H.pi.el; show p.me.length ≤ _; omega⟩, by have := H.tu; show p.turns ≤ i + 1; omega, by have := H.la; omega, H.st⟩
theorem PK.turn (H : PK h p i) : PK h p.turn (i + 1) := ⟨PI.turn, by have := H.tu; show p.turns + 1 ≤ i + 1; omega, by have := H.la; omega, fun s hs => by cases hs⟩
theorem PK.stay (H : PK h p i) : PK h p (i + 1) := ⟨H.pi.mono (by omega), by have := H.tu; omega, by have := H.la; omega, H.st⟩
theorem PK.make (H : PK h p i) (r v : Int) : PK (h.makeS r v) p (i + 1) := ⟨H.pi.mono (by omega), by have := H.tu; omega, by have := make_last h r v; have := H.la; omega, H.st⟩
theorem PK.free (H : PK h p i) (s : Nat) : PK (h.freeS s) p (i + 1) := ⟨H.pi.mono (by omega), by have := H.tu; omega, by rw [free_last]; have := H.la; omega, H.st⟩
end

section
variable {w0 w w' : World} {B hb rb pb qb : Nat} {h1 h2 h' : HSt} {p1 p2 p' : PSt} {X : Nat → Prop} {k : Nat}
theorem P4.okh (x : P4 w0 B w hb rb pb qb h1 h2 p1 p2 X) : h1.Ok := by
  obtain ⟨F, G, P, Q, hp, _⟩ := x.ex
  exact hp.ok
theorem P4.shade (x : P4 w0 B w hb rb pb qb h1 h2 p1 p2 X) (a : Int) (n : Nat) (r : Int) :
    Calls Tryd.prog 13 #[.pointer (some ⟨pb, 0, none⟩), .agg #[.int .i64 a, .int .u64 (n : Int)], .int .i64 r] w fun e w' => e = .returned (.tuple #[]) ∧ P4 w0 B w' hb rb pb qb h1 h2 (p1.shade h1 (a, n) r) p2 X ∧ Kept w w' (Its B X) := x.pgo (fun _ _ _ _ _ hx hp _ => shade_any hx hp a n r)
theorem P4.rshade (x : P4 w0 B w hb rb pb qb h1 h2 p1 p2 X) (H : PI p2 k) (hk : k < 1000000) (a : Int) (n : Nat) (r : Int) :
    Calls Tryd.prog 57 #[.pointer (some ⟨qb, 0, none⟩), .agg #[.int .i64 a, .int .u64 (n : Int)], .int .i64 r] w fun e w' => e = .returned (.tuple #[]) ∧ P4 w0 B w' hb rb pb qb h1 h2 p1 (p2.shade h2 (a, n) r) X ∧ Kept w w' (Its B X) := x.qgo (fun _ _ _ _ _ _ _ _ _ _ hq hr _ => rshade_any hq hr H hk a n r)
theorem P4.scan (x : P4 w0 B w hb rb pb qb h1 h2 p1 p2 X) (s : Nat) (hs : s < 18446744073709551616) :
    Calls Tryd.prog 51 #[.pointer (some ⟨pb, 0, none⟩), .int .u64 (s : Int)] w fun e w' => e = .returned (.bool (scanR h1 p1 s)) ∧ P4 w0 B w' hb rb pb qb h1 h2 (p1.scan h1 s) p2 X ∧ Kept w w' (Its B X) := x.pgo (fun _ _ _ _ _ hx hp hF => scan_any hx hp hF x.pos s hs)
theorem P4.rscan (x : P4 w0 B w hb rb pb qb h1 h2 p1 p2 X) (H : PI p2 k) (hk : k + 8 < 1000000) (s : Nat) :
    Calls Tryd.prog 58 #[.pointer (some ⟨qb, 0, none⟩), .int .u64 (s : Int)] w fun e w' => e = .returned (.bool (scanR h2 p2 s)) ∧ P4 w0 B w' hb rb pb qb h1 h2 p1 (p2.scan h2 s) X ∧ Kept w w' (Its B X) := x.qgo (fun _ _ _ _ _ _ _ _ _ _ hq hr hG => rscan_any hq hr hG H hk s)
theorem P4.pop (x : P4 w0 B w hb rb pb qb h1 h2 p1 p2 X) :
    Calls Tryd.prog 94 #[.pointer (some ⟨pb, 0, none⟩)] w fun e w' => e = .returned (.tuple #[.int .u64 ((popR p1).1 : Int), .bool (popR p1).2]) ∧ P4 w0 B w' hb rb pb qb h1 h2 p1.pop p2 X ∧ Kept w w' (Its B X) := x.pgo (fun _ _ _ _ _ hx _ _ => ppop_any hx)
theorem P4.rest (x : P4 w0 B w hb rb pb qb h1 h2 p1 p2 X) :
    Calls Tryd.prog 96 #[.pointer (some ⟨pb, 0, none⟩)] w fun e w' => e = .returned (.tuple #[]) ∧ P4 w0 B w' hb rb pb qb h1 h2 p1.rest p2 X ∧ Kept w w' (Its B X) := x.pgo (fun _ _ _ _ _ hx _ _ => prest_any hx)
theorem P4.hmake (x : P4 w0 B w hb rb pb qb h1 h2 p1 p2 X) (r v : Int) :
    Calls Tryd.prog 33 #[.pointer (some ⟨hb, 0, none⟩), .int .i64 r, .int .i64 v] w fun e w' => e = .returned (.tuple #[.int .u64 ((h1.makeR r v).1 : Int), .int .i64 ((h1.makeR r v).2 : Int)]) ∧ P4 w0 B w' hb rb pb qb (h1.makeS r v) h2 p1 p2 X ∧ Kept w w' (Its B X) := x.hgo (fun _ hp => hp.make r v)
theorem P4.rmake (x : P4 w0 B w hb rb pb qb h1 h2 p1 p2 X) (r v : Int) :
    Calls Tryd.prog 34 #[.pointer (some ⟨rb, 0, none⟩), .int .i64 r, .int .i64 v] w fun e w' => e = .returned (.tuple #[.int .u64 ((h2.makeR r v).1 : Int), .int .i64 ((h2.makeR r v).2 : Int)]) ∧ P4 w0 B w' hb rb pb qb h1 (h2.makeS r v) p1 p2 X ∧ Kept w w' (Its B X) := x.rgo (fun _ rp => rp.make r v)
/-- The plain stack is not over any more: a store. -/
theorem P4.rrest (x : P4 w0 B w hb rb pb qb h1 h2 p1 p2 X) :
    P4 w0 B (w.setCell ⟨qb, 3, none⟩ (.bool false)) hb rb pb qb h1 h2 p1 p2.rest X ∧ Kept w (w.setCell ⟨qb, 3, none⟩ (.bool false)) (Its B X) ∧ w.cell? ⟨qb, 3, none⟩ = some (.bool p2.ov) ∧ w.frozen? ⟨qb, 3, none⟩ = false ∧ qb < w.heap.size := by
  obtain ⟨F, G, P, Q, hp, rp, pn, ⟨sv, mv, kv, vv, L, hq, hQi⟩, ap⟩ := x.ex
  have hpos := x.pos
  have eQ : Q = qBl qb sv mv kv vv := funext fun k => propext (hQi k)
  obtain ⟨q1, q2⟩ := hq.over false (Below.refl _ _)
  rw [← eQ] at q2
  have qn' : QN (w.setCell ⟨qb, 3, none⟩ (.bool false)) qb rb B Q p2.rest := ⟨sv, mv, kv, vv, L, q1, hQi⟩
  exact ⟨⟨⟨F, G, P, Q, hp.kept q2 (fun e => by have := (ap.aQ 0 e).1; omega) (fun k a b => ap.fq k a b), rp.kept q2 (fun k a b => ap.gq k a b), pn.kept q2 (fun k a b => ap.pq k a b), qn', ap.grow q2.size⟩, x.bel.trans (q2.below x.le (fun i hi e => by have := (ap.aQ i e).1; omega)), Nat.le_trans x.le q2.size, fun k e => Nat.lt_of_lt_of_le (x.xs k e) q2.size, x.pos⟩, q2.mono (fun k _ e => ⟨(ap.aQ k e).1, (ap.aQ k e).2.2⟩), hq.box.cell 3 (by simp), hq.box.frozen 3, hq.box.lt⟩
end
end Go.Proofs.YtlabdbfmfejkaaaDoor

namespace Go.Proofs.YtlabdbfmfejkaaaDoor
open Go.RowKit

theorem H2.p4 {w0 w w1 w2 : World} {B hb rb pb : Nat} {h : HSt} {G : Nat → Prop} {M : Nat} (x : H2 w0 B w hb rb h h (fun _ => False)) (pn : PN w1 pb hb B G (PSt.new M)) (hG : ∀ k, G k → w.heap.size ≤ k) (b1 : Below w.heap.size w w1)
    (q : RQ w2 w1.heap.size rb B (.slice none 0 0) (.slice none 0 0) (.slice none 0 0) (.slice none 0 0) (PSt.new M) []) (b2 : Below w1.heap.size w1 w2) : P4 w0 B w2 hb rb pb w1.heap.size h h (PSt.new M) (PSt.new M) (fun _ => False) := by
  obtain ⟨F, R, hp, rp, hF, hR⟩ := x.ex
  have hB1 := b1.size
  have hB2 := b2.size
  have hle := x.le
  have fl := hp.lt
  have rl := rp.lt
  have pl := pn.lt
  have ql := q.qn.lt
  have hq : ∀ k, qBl w1.heap.size (.slice none 0 0) (.slice none 0 0) (.slice none 0 0) (.slice none 0 0) k → k = w1.heap.size := by
    rintro k (e | e | e | e | e)
    · exact e
    all_goals cases e
  refine ⟨⟨F, R, G, _, (hp.below b1).below b2, (rp.below b1).below b2, pn.below b2, q.qn, ?_⟩, (x.bel.trans (b1.mono hle)).trans (b2.mono (by omega)), by omega, fun _ e => e.elim, x.pos⟩
  refine ⟨fun k hk => ⟨(hF k hk).1, ?_, id⟩, fun k hk => ⟨(hR k hk).1, ?_, id⟩, fun k hk => ⟨?_, ?_, id⟩, fun k hk => ⟨?_, ql k hk, id⟩, fun k hk => (hF k hk).2.2, fun k hk e => ?_, fun k hk e => ?_, fun k hk e => ?_, fun k hk e => ?_, fun k hk e => ?_⟩
  · have := fl k hk; omega
  · have := rl k hk; omega
  · have := hG k hk; omega
  · have := pl k hk; omega
  · have := hq k hk; omega
  · have := fl k hk; have := hG k e; omega
  · have := fl k hk; have := hq k e; omega
  · have := rl k hk; have := hG k e; omega
  · have := rl k hk; have := hq k e; omega
  · have := pl k hk; have := hq k e; omega
theorem P4.set {w0 w : World} {B hb rb pb qb g : Nat} {h1 h2 : HSt} {p1 p2 : PSt} (x : P4 w0 B w hb rb pb qb h1 h2 p1 p2 (fun k => k = g)) (hg : B ≤ g) (i : Nat) (v : Value) : P4 w0 B (w.setCell ⟨g, i, none⟩ v) hb rb pb qb h1 h2 p1 p2 (fun k => k = g) :=
  x.other (Kept.setCell w ⟨g, i, none⟩ v) (fun k e => by have e' : k = g := e; exact ⟨e', by omega⟩)
theorem boxed6 {W : World} {g : Nat} {T : TypeId} {a b c d e f : Value} (r : Row W g T [a, b, c, d, e, f]) : W.cell? ⟨g, 0, none⟩ = some a ∧ W.cell? ⟨g, 1, none⟩ = some b ∧ W.cell? ⟨g, 2, none⟩ = some c ∧ W.cell? ⟨g, 3, none⟩ = some d ∧ W.cell? ⟨g, 4, none⟩ = some e ∧ W.cell? ⟨g, 5, none⟩ = some f :=
  ⟨r.cell 0 (by simp), r.cell 1 (by simp), r.cell 2 (by simp), r.cell 3 (by simp), r.cell 4 (by simp), r.cell 5 (by simp)⟩
theorem PK.new {h : HSt} (M : Nat) (hl : h.last ≤ 30) : PK h (PSt.new M) 0 := ⟨⟨List.nodup_nil, (fun e he => (by cases he)), Nat.zero_le _, Nat.zero_le _⟩, Nat.zero_le _, by omega, fun s hs => by cases hs⟩
end Go.Proofs.YtlabdbfmfejkaaaDoor

