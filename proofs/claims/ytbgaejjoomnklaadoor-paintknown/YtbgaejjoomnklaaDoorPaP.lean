/- A heap and its paint, whose blocks lie from B on. -/
import Derived.Test.YtbgaejjoomnklaaDoorPaO
namespace Go.Proofs.YtbgaejjoomnklaaDoor
open Go.RowKit

section
variable {w w' : World} {pb hb base sb mb tb : Nat} {v v' : Value} {p p' : PSt} {F G : Nat → Prop} {h : HSt}
theorem scan_any (x : PX w pb hb base sb mb tb v p) (y : HP w hb F h) (hFG : ∀ k, F k → ¬ pBl pb sb mb tb v k) (hb0 : 0 < base) (s : Nat) (hs : s < 18446744073709551616) :
    Calls Tryd.prog 14 #[.pointer (some ⟨pb, 0, none⟩), .int .u64 (s : Int)] w fun e w' => e = .returned (.bool (scanR h p s)) ∧ PGo w w' pb hb base (pBl pb sb mb tb v) (p.scan h s) := by
  unfold scanR PSt.scan
  cases hg : getC h.cs s with
  | none => exact (scan_none x y s hs hg).mono (fun _ _ ⟨h1, h2⟩ => ⟨h1, x.pn.stay h2⟩)
  | some o =>
    cases hm : getA p.ma s with
    | none =>
      have e2 : markD p s = (0, false) := by unfold markD; rw [hm]; rfl
      exact (scan_no x y s hs o hg (by rw [e2])).mono (fun _ _ ⟨h1, h2⟩ => ⟨h1, x.pn.stay h2⟩)
    | some m =>
      obtain ⟨r, g⟩ := m
      have e2 : markD p s = (r, g) := by unfold markD; rw [hm]; rfl
      cases g with
      | false => exact (scan_no x y s hs o hg (by rw [e2])).mono (fun _ _ ⟨h1, h2⟩ => ⟨h1, x.pn.stay h2⟩)
      | true => exact scan_ok x y hFG hb0 s hs o hg r e2
end

/-- A heap and its paint; none of their blocks is one of X's; below B all is as it was in w0. -/
structure PH (w0 : World) (B : Nat) (w : World) (pb hb : Nat) (h : HSt) (p : PSt) (X : Nat → Prop) : Prop where
  ex : ∃ F G, HP w hb F h ∧ PN w pb hb B G p ∧ (∀ k, F k → B ≤ k ∧ ¬ X k ∧ ¬ G k) ∧ (∀ k, G k → ¬ X k)
  bel : Below B w0 w
  le : B ≤ w.heap.size
  xs : ∀ k, X k → k < w.heap.size
  pos : 0 < B
section
variable {w0 w w' : World} {B pb hb : Nat} {h h' : HSt} {p p' : PSt} {X : Nat → Prop}
theorem PH.ok (x : PH w0 B w pb hb h p X) : h.Ok := by
  obtain ⟨F, G, hp, _⟩ := x.ex
  exact hp.ok
theorem PH.pgo (x : PH w0 B w pb hb h p X) {P : Program} {n : Nat} {args : Array Value} {r : Ending} (f : ∀ sb mb tb v F, PX w pb hb B sb mb tb v p → HP w hb F h → (∀ k, F k → ¬ pBl pb sb mb tb v k) → Calls P n args w fun e w' => e = r ∧ PGo w w' pb hb B (pBl pb sb mb tb v) p') : Calls P n args w fun e w' => e = r ∧ PH w0 B w' pb hb h p' X ∧ Kept w w' (Its B X) := by
  obtain ⟨F, G, hp, ⟨sb, mb, tb, v, hx, hGi⟩, hF, hG⟩ := x.ex
  refine (f sb mb tb v F hx hp (fun k a b => (hF k a).2.2 ((hGi k).2 b))).mono ?_
  rintro e w' ⟨he, hg⟩
  have hg := PX.fit hGi hg
  obtain ⟨G', hp', hG'⟩ := hg.ex
  have hlt := hp.lt
  have hle := x.le
  have hX := x.xs
  have hpos := x.pos
  have hGe : ∀ k, G k → B ≤ k := fun k hk => hx.gek k ((hGi k).1 hk)
  refine ⟨he, ⟨⟨F, G', hp.kept hg.kept (fun e => by have := hGe 0 e; omega) (fun k a b => (hF k a).2.2 b), hp', fun k hk => ⟨(hF k hk).1, (hF k hk).2.1, fun e => ?_⟩, fun k hk e => ?_⟩, x.bel.trans (hg.kept.below x.le (fun i hi e => by have := hGe i e; omega)), Nat.le_trans x.le hg.kept.size, fun k e => Nat.lt_of_lt_of_le (x.xs k e) hg.kept.size, x.pos⟩, hg.kept.mono (fun k _ e => ⟨hGe k e, hG k e⟩)⟩
  · rcases hG' k e with a | a
    · exact (hF k hk).2.2 a
    · have := hlt k hk
      omega
  · rcases hG' k hk with a | a
    · exact hG k a e
    · have := hX k e
      omega
theorem PH.read (x : PH w0 B w pb hb h p X) (hB : Below w.heap.size w w') : PH w0 B w' pb hb h p X := by
  obtain ⟨F, G, hp, hn, hF, hG⟩ := x.ex
  exact ⟨⟨F, G, hp.below hB, hn.below hB, hF, hG⟩, x.bel.trans (hB.mono x.le), Nat.le_trans x.le hB.size, fun k e => Nat.lt_of_lt_of_le (x.xs k e) hB.size, x.pos⟩
theorem PH.box (x : PH w0 B w pb hb h p X) (o : Obj) : PH w0 B (w.alloc o) pb hb h p (fun k => X k ∨ k = w.heap.size) := by
  obtain ⟨F, G, hp, hn, hF, hG⟩ := x.ex
  have hlt := hp.lt
  have hlg := hn.lt
  have hB : Below w.heap.size w (w.alloc o) := bel_alloc w o
  refine ⟨⟨F, G, hp.below hB, hn.below hB, fun k hk => ⟨(hF k hk).1, fun e => ?_, (hF k hk).2.2⟩, fun k hk e => ?_⟩, x.bel.trans (hB.mono x.le), Nat.le_trans x.le hB.size, fun k e => ?_, x.pos⟩
  · rcases e with e | e
    · exact (hF k hk).2.1 e
    · have := hlt k hk
      omega
  · rcases e with e | e
    · exact hG k hk e
    · have := hlg k hk
      omega
  · rcases e with e | e
    · exact Nat.lt_of_lt_of_le (x.xs k e) hB.size
    · simp [e]
theorem PH.other (x : PH w0 B w pb hb h p X) {S : Nat → Prop} (hk : Kept w w' S) (hS : ∀ k, S k → X k ∧ B ≤ k) : PH w0 B w' pb hb h p X := by
  obtain ⟨F, G, hp, hn, hF, hG⟩ := x.ex
  have hpos := x.pos
  exact ⟨⟨F, G, hp.kept hk (fun e => by have := (hS 0 e).2; omega) (fun k a b => (hF k a).2.1 (hS k b).1), hn.kept hk (fun k a b => hG k a (hS k b).1), hF, hG⟩, x.bel.trans (hk.below x.le (fun i hi e => by have := (hS i e).2; omega)), Nat.le_trans x.le hk.size, fun k e => Nat.lt_of_lt_of_le (x.xs k e) hk.size, x.pos⟩
theorem PH.off (x : PH w0 B w pb hb h p X) (Y : Nat → Prop) (hY : ∀ k, Y k → X k) : PH w0 B w pb hb h p Y := by
  obtain ⟨F, G, hp, hn, hF, hG⟩ := x.ex
  exact ⟨⟨F, G, hp, hn, fun k hk => ⟨(hF k hk).1, fun e => (hF k hk).2.1 (hY k e), (hF k hk).2.2⟩, fun k hk e => hG k hk (hY k e)⟩, x.bel, x.le, fun k e => x.xs k (hY k e), x.pos⟩
theorem PH.shade (x : PH w0 B w pb hb h p X) (a : Int) (n : Nat) (r : Int) :
    Calls Tryd.prog 12 #[.pointer (some ⟨pb, 0, none⟩), .agg #[.int .i64 a, .int .u64 (n : Int)], .int .i64 r] w fun e w' => e = .returned (.tuple #[]) ∧ PH w0 B w' pb hb h (p.shade h (a, n) r) X ∧ Kept w w' (Its B X) := x.pgo (fun _ _ _ _ _ hx hp _ => shade_any hx hp a n r)
theorem PH.scan (x : PH w0 B w pb hb h p X) (s : Nat) (hs : s < 18446744073709551616) :
    Calls Tryd.prog 14 #[.pointer (some ⟨pb, 0, none⟩), .int .u64 (s : Int)] w fun e w' => e = .returned (.bool (scanR h p s)) ∧ PH w0 B w' pb hb h (p.scan h s) X ∧ Kept w w' (Its B X) := x.pgo (fun _ _ _ _ _ hx hp hF => scan_any hx hp hF x.pos s hs)
theorem PH.turn (x : PH w0 B w pb hb h p X) (ht : p.turns < 1000000) :
    Calls Tryd.prog 20 #[.pointer (some ⟨pb, 0, none⟩)] w fun e w' => e = .returned (.tuple #[]) ∧ PH w0 B w' pb hb h p.turn X ∧ Kept w w' (Its B X) := x.pgo (fun _ _ _ _ _ hx _ _ => turn_any hx ht)
theorem PH.mark (x : PH w0 B w pb hb h p X) (s : Nat) (hs : s < 18446744073709551616) :
    Calls Tryd.prog 13 #[.pointer (some ⟨pb, 0, none⟩), .int .u64 (s : Int)] w fun e w' => e = .returned (.tuple #[.int .i64 ((markR h p s).1 : Int), .bool (markR h p s).2.1, .bool (markR h p s).2.2]) ∧ Below w.heap.size w w' := by
  obtain ⟨F, G, hp, ⟨sb, mb, tb, v, hx, _⟩, _⟩ := x.ex
  exact mark_any hx hp s hs
theorem PH.met (x : PH w0 B w pb hb h p X) (a : Int) (n : Nat) :
    Calls Tryd.prog 15 #[.pointer (some ⟨pb, 0, none⟩), .agg #[.int .i64 a, .int .u64 (n : Int)]] w fun e w' => e = .returned (.tuple #[.int .i64 ((metR p (a, n)).1 : Int), .bool (metR p (a, n)).2]) ∧ Below w.heap.size w w' := by
  obtain ⟨F, G, hp, ⟨sb, mb, tb, v, hx, _⟩, _⟩ := x.ex
  exact met_any hx a n
theorem PH.turns (x : PH w0 B w pb hb h p X) :
    Calls Tryd.prog 17 #[.pointer (some ⟨pb, 0, none⟩)] w fun e w' => e = .returned (.int .u64 (p.turns : Int)) ∧ w = w' := by
  obtain ⟨F, G, hp, ⟨sb, mb, tb, v, hx, _⟩, _⟩ := x.ex
  exact pturns_any hx
theorem PH.waiting (x : PH w0 B w pb hb h p X) :
    Calls Tryd.prog 21 #[.pointer (some ⟨pb, 0, none⟩)] w fun e w' => e = .returned (.int .i64 (p.stk.length : Int)) ∧ w = w' := by
  obtain ⟨F, G, hp, ⟨sb, mb, tb, v, hx, _⟩, _⟩ := x.ex
  exact waiting_any hx
theorem PH.over (x : PH w0 B w pb hb h p X) :
    Calls Tryd.prog 22 #[.pointer (some ⟨pb, 0, none⟩)] w fun e w' => e = .returned (.bool p.ov) ∧ w = w' := by
  obtain ⟨F, G, hp, ⟨sb, mb, tb, v, hx, _⟩, _⟩ := x.ex
  exact pover_any hx
theorem PH.outs (x : PH w0 B w pb hb h p X) (hn : ∀ e ∈ p.me, namesB e.1 = true) (hlen : p.me.length ≤ 1000000) :
    Calls Tryd.prog 16 #[.pointer (some ⟨pb, 0, none⟩)] w fun e w' => ∃ r L, e = .returned r ∧ OutsOf p.me L ∧ OL w' w.heap.size r L ∧ Below w.heap.size w w' := by
  obtain ⟨F, G, hp, ⟨sb, mb, tb, v, hx, _⟩, _⟩ := x.ex
  exact outs_any hx hn hlen
theorem HH.paint (x : HH w0 B w hb h X) (hB : 0 < B) (M : Nat) (h1 : 1 ≤ M) (h2 : M ≤ 64) :
    Calls Tryd.prog 11 #[.pointer (some ⟨hb, 0, none⟩), .int .i64 (M : Int)] w fun e w' => ∃ pb, e = .returned (.tuple #[.pointer (some ⟨pb, 0, none⟩), .int .i64 0]) ∧ PH w0 B w' pb hb h (PSt.new M) X ∧ Below w.heap.size w w' := by
  refine (pnew_ok hb B M h1 h2 w x.le).mono ?_
  rintro e w' ⟨pb, G, he, hn, hG, hb'⟩
  obtain ⟨F, hp, hF⟩ := x.ex
  have hlt := hp.lt
  exact ⟨pb, he, ⟨⟨F, G, hp.below hb', hn, fun k hk => ⟨(hF k hk).1, (hF k hk).2, fun e => by have := hG k e; have := hlt k hk; omega⟩, fun k hk e => by have := hG k hk; have := x.xs k e; omega⟩, x.bel.trans (hb'.mono x.le), Nat.le_trans x.le hb'.size, fun k e => Nat.lt_of_lt_of_le (x.xs k e) hb'.size, hB⟩, hb'⟩
end

end Go.Proofs.YtbgaejjoomnklaaDoor
