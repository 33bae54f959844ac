import Derived.Test.YtdafpfdmnccelaaDoorPbDP
import Derived.Test.YtdafpfdmnccelaaDoorPbY0P
/- What stands on the stack is a serial. No program's text is in it. -/
/- Each call of PaintPlays' round, over both heaps and both paints; what a round keeps. -/
/- Both heaps and both paints at their beginning; the step that lies in a box. -/
namespace Go.Proofs.YtdafpfdmnccelaaDoor
open Go.RowKit

/-- What stands on the stack. -/
def SB (p : PSt) : Prop := ∀ s ∈ p.stk, s ≤ 72057594037927935
theorem SB.push {p : PSt} (H : SB p) {s : Nat} (hs : s ≤ 72057594037927935) : SB (p.push s) := by
  unfold PSt.push
  split
  · intro t ht
    rcases List.mem_append.1 ht with h | h
    · exact H t h
    · rw [List.mem_singleton.1 h]; exact hs
  · exact H
theorem SB.own {h : HSt} {p : PSt} (H : SB p) (ok : h.Ok) (s r : Nat) : SB (p.own h s r) := by
  unfold PSt.own
  split
  · next hg =>
    obtain ⟨o, ho⟩ := Option.isSome_iff_exists.1 hg
    obtain ⟨h1, h2⟩ := getC_mem ho
    have hs : s ≤ 72057594037927935 := by
      have := (ok.le o h1).2
      have := ok.last
      omega
    have H' : ∀ m, SB { p with ma := m } := fun m => H
    split
    · exact (H' _).push hs
    · split
      · exact H
      · split
        · exact H' _
        · exact (H' _).push hs
  · exact H
theorem SB.shade {h : HSt} {p : PSt} (H : SB p) (ok : h.Ok) (x : Int × Nat) (r : Int) : SB (p.shade h x r) := by
  unfold PSt.shade
  split
  · split
    · exact H.own ok _ _
    · unfold PSt.meet
      split
      · exact H
      · split <;> exact H
  · exact H
theorem SB.all {h : HSt} (ok : h.Ok) (l : List (Int × Nat)) (r : Nat) : ∀ p, SB p → SB (PSt.all h p l r) := by
  unfold PSt.all
  induction l with
  | nil => exact fun p H => H
  | cons x l ih => exact fun p H => ih _ (H.shade ok x r)
theorem SB.scan {h : HSt} {p : PSt} (H : SB p) (ok : h.Ok) (s : Nat) : SB (p.scan h s) := by
  unfold PSt.scan
  split
  · exact SB.all ok _ _ _ H
  · exact H
theorem SB.pop {p : PSt} (H : SB p) : SB p.pop := fun s hs => H s ((List.dropLast_sublist p.stk).subset hs)
theorem SB.popR {p : PSt} (H : SB p) : (popR p).1 < 18446744073709551616 := by
  unfold Go.Proofs.YtdafpfdmnccelaaDoor.popR
  split
  · next s hs =>
    have := H s (List.mem_of_getLast? hs)
    show s < _
    omega
  · show 0 < _
    omega
end Go.Proofs.YtdafpfdmnccelaaDoor

namespace Go.Proofs.YtdafpfdmnccelaaDoor
open Go.RowKit

/-- What a round keeps: so many marks, turns, serials. -/
structure PK (h : HSt) (p : PSt) (i : Nat) : Prop where
  pi : PI p (i * 20)
  tu : p.turns ≤ i
  la : h.last ≤ 100 + i
  st : ∀ s ∈ p.stk, s ≤ 72057594037927935
theorem push_turns (p : PSt) (s : Nat) : (p.push s).turns = p.turns := by
  unfold PSt.push
  split <;> rfl
theorem shade_turns (h : HSt) (p : PSt) (x : Int × Nat) (r : Int) : (p.shade h x r).turns = p.turns := by
  unfold PSt.shade
  split
  · split
    · unfold PSt.own
      split
      · split
        · exact push_turns _ _
        · split
          · rfl
          · split
            · rfl
            · exact push_turns _ _
      · rfl
    · unfold PSt.meet
      split
      · rfl
      · split <;> rfl
  · rfl
theorem all_turns (h : HSt) (p : PSt) (l : List (Int × Nat)) (r : Nat) : (PSt.all h p l r).turns = p.turns := by
  unfold PSt.all
  induction l generalizing p with
  | nil => rfl
  | cons x l ih =>
    rw [List.foldl_cons, ih]
    exact shade_turns h p x _
theorem scan_turns (h : HSt) (p : PSt) (s : Nat) : (p.scan h s).turns = p.turns := by
  unfold PSt.scan
  split
  · exact all_turns h _ _ _
  · rfl
theorem PI.scan {h : HSt} {p : PSt} {k : Nat} (H : PI p k) (ok : h.Ok) (s : Nat) : PI (p.scan h s) (k + 8) := by
  unfold PSt.scan
  split
  · next o r hg hm =>
    have h1 := (H.putM s (r, false)).all h o.rf r
    have h2 := (ok.fl o (by unfold getC at hg; exact List.mem_of_find?_eq_some hg)).1
    exact h1.mono (by omega)
  · exact H.mono (by omega)
theorem PI.blacken {h : HSt} {p : PSt} {k : Nat} (H : PI p k) (s : Nat) : PI (p.blacken h s) (k + 1) := by
  unfold PSt.blacken
  split
  · exact H.putM s _
  · exact H.mono (by omega)
theorem PI.forget {p : PSt} {k : Nat} (H : PI p k) (s : Nat) : PI (p.forget s) k :=
  ⟨H.nd.sublist (List.filter_sublist.map _), H.nm, Nat.le_trans (List.length_filter_le _ _) H.ml, H.el⟩
theorem PI.turn {p : PSt} {k : Nat} : PI p.turn k := ⟨List.nodup_nil, (fun e he => (by cases he)), Nat.zero_le _, Nat.zero_le _⟩
theorem blacken_turns (h : HSt) (p : PSt) (s : Nat) : (p.blacken h s).turns = p.turns := by
  unfold PSt.blacken
  split <;> rfl
theorem make_last (h : HSt) (r v : Int) : (h.makeS r v).last ≤ h.last + 1 := by
  unfold HSt.makeS
  split
  · exact Nat.le_refl _
  · exact Nat.le_succ _
theorem free_last (h : HSt) (s : Nat) : (h.freeS s).last = h.last := by
  unfold HSt.freeS
  split <;> rfl
section
variable {h : HSt} {p : PSt} {i : Nat}
theorem PK.shade (H : PK h p i) (ok : h.Ok) (x : Int × Nat) (r : Int) : PK h (p.shade h x r) (i + 1) := ⟨(H.pi.shade h x r).mono (by omega), by rw [shade_turns]; have := H.tu; omega, by have := H.la; omega, SB.shade H.st ok x r⟩
theorem PK.scan (H : PK h p i) (ok : h.Ok) (s : Nat) : PK h (p.scan h s) (i + 1) := ⟨(H.pi.scan ok s).mono (by omega), by rw [scan_turns]; have := H.tu; omega, by have := H.la; omega, SB.scan H.st ok s⟩
theorem PK.pops (H : PK h p i) (ok : h.Ok) (s : Nat) : PK h (p.pop.scan h s) (i + 1) := by
  have H' : PI p.pop (i * 20) := ⟨H.pi.nd, H.pi.nm, H.pi.ml, H.pi.el⟩
  refine ⟨(H'.scan ok s).mono (by omega), ?_, by have := H.la; omega, SB.scan (SB.pop H.st) ok s⟩
  rw [scan_turns]
  have := H.tu
  show p.turns ≤ i + 1
  omega
theorem PK.blacken (H : PK h p i) (s : Nat) : PK h (p.blacken h s) (i + 1) := ⟨H.pi.blacken s |>.mono (by omega), by rw [blacken_turns]; have := H.tu; omega, by have := H.la; omega, by have h := H.st; unfold PSt.blacken; split <;> exact h⟩
theorem PK.forget (H : PK h p i) (s : Nat) : PK h (p.forget s) (i + 1) := ⟨(H.pi.forget s).mono (by omega), by have := H.tu; show p.turns ≤ i + 1; omega, by have := H.la; omega, H.st⟩
theorem PK.rest (H : PK h p i) : PK h p.rest (i + 1) := ⟨⟨H.pi.nd, H.pi.nm, by have := H.pi.ml; show p.ma.length ≤ _; omega, by have := H.pi.el; show p.me.length ≤ _; omega⟩, by have := H.tu; show p.turns ≤ i + 1; omega, by have := H.la; omega, H.st⟩
theorem PK.turn (H : PK h p i) : PK h p.turn (i + 1) := ⟨PI.turn, by have := H.tu; show p.turns + 1 ≤ i + 1; omega, by have := H.la; omega, fun s hs => by cases hs⟩
theorem PK.stay (H : PK h p i) : PK h p (i + 1) := ⟨H.pi.mono (by omega), by have := H.tu; omega, by have := H.la; omega, H.st⟩
theorem PK.make (H : PK h p i) (r v : Int) : PK (h.makeS r v) p (i + 1) := ⟨H.pi.mono (by omega), by have := H.tu; omega, by have := make_last h r v; have := H.la; omega, H.st⟩
theorem PK.free (H : PK h p i) (s : Nat) : PK (h.freeS s) p (i + 1) := ⟨H.pi.mono (by omega), by have := H.tu; omega, by rw [free_last]; have := H.la; omega, H.st⟩
end

section
variable {w0 w w' : World} {B hb rb pb qb : Nat} {h1 h2 h' : HSt} {p1 p2 p' : PSt} {X : Nat → Prop} {k : Nat}
theorem P4.okh (x : P4 w0 B w hb rb pb qb h1 h2 p1 p2 X) : h1.Ok := by
  obtain ⟨F, G, P, Q, hp, _⟩ := x.ex
  exact hp.ok
theorem P4.shade (x : P4 w0 B w hb rb pb qb h1 h2 p1 p2 X) (a : Int) (n : Nat) (r : Int) :
    Calls Tryd.prog 13 #[.pointer (some ⟨pb, 0, none⟩), .agg #[.int .i64 a, .int .u64 (n : Int)], .int .i64 r] w fun e w' => e = .returned (.tuple #[]) ∧ P4 w0 B w' hb rb pb qb h1 h2 (p1.shade h1 (a, n) r) p2 X ∧ Kept w w' (Its B X) := x.pgo (fun _ _ _ _ _ hx hp _ => shade_any hx hp a n r)
theorem P4.rshade (x : P4 w0 B w hb rb pb qb h1 h2 p1 p2 X) (H : PI p2 k) (hk : k < 1000000) (a : Int) (n : Nat) (r : Int) :
    Calls Tryd.prog 14 #[.pointer (some ⟨qb, 0, none⟩), .agg #[.int .i64 a, .int .u64 (n : Int)], .int .i64 r] w fun e w' => e = .returned (.tuple #[]) ∧ P4 w0 B w' hb rb pb qb h1 h2 p1 (p2.shade h2 (a, n) r) X ∧ Kept w w' (Its B X) := x.qgo (fun _ _ _ _ _ _ _ _ _ _ hq hr _ => rshade_any hq hr H hk a n r)
theorem P4.forget (x : P4 w0 B w hb rb pb qb h1 h2 p1 p2 X) (s : Nat) :
    Calls Tryd.prog 66 #[.pointer (some ⟨pb, 0, none⟩), .int .u64 (s : Int)] w fun e w' => e = .returned (.tuple #[]) ∧ P4 w0 B w' hb rb pb qb h1 h2 (p1.forget s) p2 X ∧ Kept w w' (Its B X) := x.pgo (fun _ _ _ _ _ hx _ _ => pforget_any hx s)
theorem P4.rforget (x : P4 w0 B w hb rb pb qb h1 h2 p1 p2 X) (s : Nat) :
    Calls Tryd.prog 58 #[.pointer (some ⟨qb, 0, none⟩), .int .u64 (s : Int)] w fun e w' => e = .returned (.tuple #[]) ∧ P4 w0 B w' hb rb pb qb h1 h2 p1 (p2.forget s) X ∧ Kept w w' (Its B X) := x.qgo (fun _ _ _ _ _ _ _ _ _ _ hq _ _ => rforget_any hq s)
theorem P4.hmake (x : P4 w0 B w hb rb pb qb h1 h2 p1 p2 X) (r v : Int) :
    Calls Tryd.prog 17 #[.pointer (some ⟨hb, 0, none⟩), .int .i64 r, .int .i64 v] w fun e w' => e = .returned (.tuple #[.int .u64 ((h1.makeR r v).1 : Int), .int .i64 ((h1.makeR r v).2 : Int)]) ∧ P4 w0 B w' hb rb pb qb (h1.makeS r v) h2 p1 p2 X ∧ Kept w w' (Its B X) := x.hgo (fun _ hp => hp.make r v)
theorem P4.rmake (x : P4 w0 B w hb rb pb qb h1 h2 p1 p2 X) (r v : Int) :
    Calls Tryd.prog 18 #[.pointer (some ⟨rb, 0, none⟩), .int .i64 r, .int .i64 v] w fun e w' => e = .returned (.tuple #[.int .u64 ((h2.makeR r v).1 : Int), .int .i64 ((h2.makeR r v).2 : Int)]) ∧ P4 w0 B w' hb rb pb qb h1 (h2.makeS r v) p1 p2 X ∧ Kept w w' (Its B X) := x.rgo (fun _ rp => rp.make r v)
theorem P4.hfree (x : P4 w0 B w hb rb pb qb h1 h2 p1 p2 X) (s : Nat) (hs : s < 18446744073709551616) :
    Calls Tryd.prog 19 #[.pointer (some ⟨hb, 0, none⟩), .int .u64 (s : Int)] w fun e w' => e = .returned (.int .i64 (h1.freeR s : Int)) ∧ P4 w0 B w' hb rb pb qb (h1.freeS s) h2 p1 p2 X ∧ Kept w w' (Its B X) := x.hgo (fun _ hp => hp.free s hs)
theorem P4.rfree (x : P4 w0 B w hb rb pb qb h1 h2 p1 p2 X) (s : Nat) :
    Calls Tryd.prog 20 #[.pointer (some ⟨rb, 0, none⟩), .int .u64 (s : Int)] w fun e w' => e = .returned (.int .i64 (h2.freeR s : Int)) ∧ P4 w0 B w' hb rb pb qb h1 (h2.freeS s) p1 p2 X ∧ Kept w w' (Its B X) := x.rgo (fun _ rp => rp.free s)
/-- The plain stack is not over any more: a store. -/
theorem P4.rrest (x : P4 w0 B w hb rb pb qb h1 h2 p1 p2 X) :
    P4 w0 B (w.setCell ⟨qb, 3, none⟩ (.bool false)) hb rb pb qb h1 h2 p1 p2.rest X ∧ Kept w (w.setCell ⟨qb, 3, none⟩ (.bool false)) (Its B X) ∧ w.cell? ⟨qb, 3, none⟩ = some (.bool p2.ov) ∧ w.frozen? ⟨qb, 3, none⟩ = false ∧ qb < w.heap.size := by
  obtain ⟨F, G, P, Q, hp, rp, pn, ⟨sv, mv, kv, vv, L, hq, hQi⟩, ap⟩ := x.ex
  have hpos := x.pos
  have eQ : Q = qBl qb sv mv kv vv := funext fun k => propext (hQi k)
  obtain ⟨q1, q2⟩ := hq.over false (Below.refl _ _)
  rw [← eQ] at q2
  have qn' : QN (w.setCell ⟨qb, 3, none⟩ (.bool false)) qb rb B Q p2.rest := ⟨sv, mv, kv, vv, L, q1, hQi⟩
  exact ⟨⟨⟨F, G, P, Q, hp.kept q2 (fun e => by have := (ap.aQ 0 e).1; omega) (fun k a b => ap.fq k a b), rp.kept q2 (fun k a b => ap.gq k a b), pn.kept q2 (fun k a b => ap.pq k a b), qn', ap.grow q2.size⟩, x.bel.trans (q2.below x.le (fun i hi e => by have := (ap.aQ i e).1; omega)), Nat.le_trans x.le q2.size, fun k e => Nat.lt_of_lt_of_le (x.xs k e) q2.size, x.pos⟩, q2.mono (fun k _ e => ⟨(ap.aQ k e).1, (ap.aQ k e).2.2⟩), hq.box.cell 3 (by simp), hq.box.frozen 3, hq.box.lt⟩
end
end Go.Proofs.YtdafpfdmnccelaaDoor

namespace Go.Proofs.YtdafpfdmnccelaaDoor
open Go.RowKit

theorem H2.p4 {w0 w w1 w2 : World} {B hb rb pb : Nat} {h : HSt} {G : Nat → Prop} {M : Nat} (x : H2 w0 B w hb rb h h (fun _ => False)) (pn : PN w1 pb hb B G (PSt.new M)) (hG : ∀ k, G k → w.heap.size ≤ k) (b1 : Below w.heap.size w w1)
    (q : RQ w2 w1.heap.size rb B (.slice none 0 0) (.slice none 0 0) (.slice none 0 0) (.slice none 0 0) (PSt.new M) []) (b2 : Below w1.heap.size w1 w2) : P4 w0 B w2 hb rb pb w1.heap.size h h (PSt.new M) (PSt.new M) (fun _ => False) := by
  obtain ⟨F, R, hp, rp, hF, hR⟩ := x.ex
  have hB1 := b1.size
  have hB2 := b2.size
  have hle := x.le
  have fl := hp.lt
  have rl := rp.lt
  have pl := pn.lt
  have ql := q.qn.lt
  have hq : ∀ k, qBl w1.heap.size (.slice none 0 0) (.slice none 0 0) (.slice none 0 0) (.slice none 0 0) k → k = w1.heap.size := by
    rintro k (e | e | e | e | e)
    · exact e
    all_goals cases e
  refine ⟨⟨F, R, G, _, (hp.below b1).below b2, (rp.below b1).below b2, pn.below b2, q.qn, ?_⟩, (x.bel.trans (b1.mono hle)).trans (b2.mono (by omega)), by omega, fun _ e => e.elim, x.pos⟩
  refine ⟨fun k hk => ⟨(hF k hk).1, ?_, id⟩, fun k hk => ⟨(hR k hk).1, ?_, id⟩, fun k hk => ⟨?_, ?_, id⟩, fun k hk => ⟨?_, ql k hk, id⟩, fun k hk => (hF k hk).2.2, fun k hk e => ?_, fun k hk e => ?_, fun k hk e => ?_, fun k hk e => ?_, fun k hk e => ?_⟩
  · have := fl k hk; omega
  · have := rl k hk; omega
  · have := hG k hk; omega
  · have := pl k hk; omega
  · have := hq k hk; omega
  · have := fl k hk; have := hG k e; omega
  · have := fl k hk; have := hq k e; omega
  · have := rl k hk; have := hG k e; omega
  · have := rl k hk; have := hq k e; omega
  · have := pl k hk; have := hq k e; omega
theorem P4.set {w0 w : World} {B hb rb pb qb g : Nat} {h1 h2 : HSt} {p1 p2 : PSt} (x : P4 w0 B w hb rb pb qb h1 h2 p1 p2 (fun k => k = g)) (hg : B ≤ g) (i : Nat) (v : Value) : P4 w0 B (w.setCell ⟨g, i, none⟩ v) hb rb pb qb h1 h2 p1 p2 (fun k => k = g) :=
  x.other (Kept.setCell w ⟨g, i, none⟩ v) (fun k e => by have e' : k = g := e; exact ⟨e', by omega⟩)
theorem boxed6 {W : World} {g : Nat} {T : TypeId} {a b c d e f : Value} (r : Row W g T [a, b, c, d, e, f]) : W.cell? ⟨g, 0, none⟩ = some a ∧ W.cell? ⟨g, 1, none⟩ = some b ∧ W.cell? ⟨g, 2, none⟩ = some c ∧ W.cell? ⟨g, 3, none⟩ = some d ∧ W.cell? ⟨g, 4, none⟩ = some e ∧ W.cell? ⟨g, 5, none⟩ = some f :=
  ⟨r.cell 0 (by simp), r.cell 1 (by simp), r.cell 2 (by simp), r.cell 3 (by simp), r.cell 4 (by simp), r.cell 5 (by simp)⟩
theorem PK.new {h : HSt} (M : Nat) (hl : h.last ≤ 30) : PK h (PSt.new M) 0 := ⟨⟨List.nodup_nil, (fun e he => (by cases he)), Nat.zero_le _, Nat.zero_le _⟩, Nat.zero_le _, by omega, fun s hs => by cases hs⟩
end Go.Proofs.YtdafpfdmnccelaaDoor
