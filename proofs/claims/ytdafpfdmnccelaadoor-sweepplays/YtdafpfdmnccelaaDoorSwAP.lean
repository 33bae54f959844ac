import Derived.Test.YtdafpfdmnccelaaDoorSwMP
import Derived.Deep.CutRange
import Derived.Deep.CutBlock
import Derived.Deep.RegionHeld
import Derived.BigQuiet
import Derived.Test.YtdafpfdmnccelaaDoorSwR
/- The sweeper in memory, beside whatever holds its heap and its paint. -/
/- The beginning of the sweep's statements; what a sweeper's frame is. -/
/- A heap and its paint, as the sweep's statements want them. -/
namespace Go.Proofs.YtdafpfdmnccelaaDoor
open Go.RowKit

/-- A sweeper at sb: its heap, its paint, its place, its end. -/
def SwB (w : World) (sb hb pb pl en : Nat) : Prop := Row w sb 89 [.pointer (some ⟨hb, 0, none⟩), .pointer (some ⟨pb, 0, none⟩), .int .u64 (pl : Int), .int .u64 (en : Int)]
/-- What holds a heap and its paint, apart from the sweeper's block; S: what their calls may write. -/
structure HoW (Fr : World → HSt → PSt → Prop) (hb pb sb : Nat) (S : Nat → Prop) : Prop where
  ns : ¬ S sb
  ok : ∀ w h p, Fr w h p → h.Ok
  rd : ∀ w w' h p, Fr w h p → Below w.heap.size w w' → Fr w' h p
  wr : ∀ w h p i v, Fr w h p → Fr (w.setCell ⟨sb, i, none⟩ v) h p
  nx : ∀ w h p s, Fr w h p → Calls Tryd.prog 23 #[.pointer (some ⟨hb, 0, none⟩), .int .u64 ((s : Nat) : Int)] w fun e w' => e = .returned (.tuple #[.int .u64 ((nextR h.cs s).1 : Int), .bool (nextR h.cs s).2]) ∧ Below w.heap.size w w'
  mar : ∀ w h p s, (s : Nat) < 18446744073709551616 → Fr w h p → Calls Tryd.prog 37 #[.pointer (some ⟨pb, 0, none⟩), .int .u64 (s : Int)] w fun e w' => e = .returned (.tuple #[.int .i64 ((markR h p s).1 : Int), .bool (markR h p s).2.1, .bool (markR h p s).2.2]) ∧ Below w.heap.size w w'
  la : ∀ w h p, Fr w h p → Calls Tryd.prog 25 #[.pointer (some ⟨hb, 0, none⟩)] w fun e w' => e = .returned (.int .u64 (h.last : Int)) ∧ w = w'
  fr : ∀ w h p s, (s : Nat) < 18446744073709551616 → Fr w h p → Calls Tryd.prog 19 #[.pointer (some ⟨hb, 0, none⟩), .int .u64 (s : Int)] w fun e w' => e = .returned (.int .i64 (h.freeR s : Int)) ∧ Fr w' (h.freeS s) p ∧ Kept w w' S
  fo : ∀ w h p s, Fr w h p → Calls Tryd.prog 66 #[.pointer (some ⟨pb, 0, none⟩), .int .u64 ((s : Nat) : Int)] w fun e w' => e = .returned (.tuple #[]) ∧ Fr w' h (p.forget s) ∧ Kept w w' S
theorem next_le {h : HSt} (ok : h.Ok) (s : Nat) : (nextR h.cs s).1 < 18446744073709551616 := by
  have := ok.last
  unfold nextR
  split
  · show (0 : Nat) < _
    omega
  · next o ho =>
    have := (ok.le o (List.mem_of_find?_eq_some ho)).2
    show o.s < _
    omega
section
variable {Fr : World → HSt → PSt → Prop} {hb pb sb : Nat} {S : Nat → Prop} {w : World} {h : HSt} {p : PSt} {pl en : Nat}
theorem SwB.set (r : SwB w sb hb pb pl en) (a b : Nat) : SwB ((w.setCell ⟨sb, 2, none⟩ (.int .u64 (a : Int))).setCell ⟨sb, 3, none⟩ (.int .u64 (b : Int))) sb hb pb a b := (Row.set r 2 _).set 3 _
theorem SwB.move (r : SwB w sb hb pb pl en) (a : Nat) : SwB (w.setCell ⟨sb, 2, none⟩ (.int .u64 (a : Int))) sb hb pb a en := Row.set r 2 _
end
end Go.Proofs.YtdafpfdmnccelaaDoor

namespace Go.Proofs.YtdafpfdmnccelaaDoor
open Go.RowKit

/-- Both heaps and both paints, where something was made between the two paints. -/
theorem H2.p4x {w0 w w1 w2 w3 : World} {B hb rb pb : Nat} {h : HSt} {G : Nat → Prop} {M : Nat} (x : H2 w0 B w hb rb h h (fun _ => False)) (pn : PN w1 pb hb B G (PSt.new M)) (hG : ∀ k, G k → w.heap.size ≤ k) (b1 : Below w.heap.size w w1) (b12 : Below w1.heap.size w1 w2)
    (q : RQ w3 w2.heap.size rb B (.slice none 0 0) (.slice none 0 0) (.slice none 0 0) (.slice none 0 0) (PSt.new M) []) (b2 : Below w2.heap.size w2 w3) : P4 w0 B w3 hb rb pb w2.heap.size h h (PSt.new M) (PSt.new M) (fun k => w1.heap.size ≤ k ∧ k < w2.heap.size) := by
  obtain ⟨F, R, hp, rp, hF, hR⟩ := x.ex
  have hB1 := b1.size
  have hB12 := b12.size
  have hB2 := b2.size
  have hle := x.le
  have fl := hp.lt
  have rl := rp.lt
  have pl := pn.lt
  have ql := q.qn.lt
  have hq : ∀ k, qBl w2.heap.size (.slice none 0 0) (.slice none 0 0) (.slice none 0 0) (.slice none 0 0) k → k = w2.heap.size := by
    rintro k (e | e | e | e | e)
    · exact e
    all_goals cases e
  refine ⟨⟨F, R, G, _, ((hp.below b1).below b12).below b2, ((rp.below b1).below b12).below b2, (pn.below b12).below b2, q.qn, ?_⟩, ((x.bel.trans (b1.mono hle)).trans (b12.mono (by omega))).trans (b2.mono (by omega)), by omega, fun k e => by omega, x.pos⟩
  refine ⟨fun k hk => ⟨(hF k hk).1, ?_, ?_⟩, fun k hk => ⟨(hR k hk).1, ?_, ?_⟩, fun k hk => ⟨?_, ?_, ?_⟩, fun k hk => ⟨?_, ql k hk, ?_⟩, fun k hk => (hF k hk).2.2, fun k hk e => ?_, fun k hk e => ?_, fun k hk e => ?_, fun k hk e => ?_, fun k hk e => ?_⟩
  · have := fl k hk; omega
  · have := fl k hk; omega
  · have := rl k hk; omega
  · have := rl k hk; omega
  · have := hG k hk; omega
  · have := pl k hk; omega
  · have := pl k hk; omega
  · have := hq k hk; omega
  · have := hq k hk; omega
  · have := fl k hk; have := hG k e; omega
  · have := fl k hk; have := hq k e; omega
  · have := rl k hk; have := hG k e; omega
  · have := rl k hk; have := hq k e; omega
  · have := pl k hk; have := hq k e; omega
section
variable {w0 w w' : World} {B hb rb pb qb sb : Nat} {h1 h2 : HSt} {p1 p2 : PSt} {X : Nat → Prop}
theorem H2.hlast (x : H2 w0 B w hb sb h1 h2 X) :
    Calls Tryd.prog 25 #[.pointer (some ⟨hb, 0, none⟩)] w fun e w' => e = .returned (.int .u64 (h1.last : Int)) ∧ w = w' := by
  obtain ⟨F, G, hp, _⟩ := x.ex
  exact hp.last
/-- Both heaps and both paints hold a sweeper's heap and paint. -/
theorem how_p4 (hX : X sb) (hB : B ≤ sb) : HoW (fun w h p => P4 w0 B w hb rb pb qb h h2 p p2 X) hb pb sb (Its B X) :=
  ⟨fun e => e.2 hX, fun _ _ _ x => x.okh, fun _ _ _ _ x hb => x.read hb, fun w _ _ i v x => x.other (Kept.setCell w ⟨sb, i, none⟩ v) (fun k e => by have e' : k = sb := e; rw [e']; exact ⟨hX, hB⟩),
   fun _ _ _ s x => x.hnext s, fun _ _ _ s hs x => x.hmark s hs, fun _ _ _ x => x.hlast, fun _ _ _ s hs x => x.hfree s hs, fun _ _ _ s x => x.forget s⟩
/-- The plain heap's list, as a loop reads it. -/
structure LstI (w : World) (rb : Nat) (lv : Value) (M : List Pl) : Prop where
  c4 : w.cell? ⟨rb, 4, none⟩ = some lv
  sl : ∃ ao cap, lv = .slice ao M.length cap
  lt : rb < w.heap.size
  at_ : ∀ k (hk : k < M.length), ∃ g cap, lv = .slice (some ⟨g, 0, none⟩) M.length cap ∧ g < w.heap.size ∧ w.cell? ⟨g, k, none⟩ = some (.pointer (some ⟨M[k].pb, 0, none⟩)) ∧ M[k].pb < w.heap.size ∧ w.cell? ⟨M[k].pb, 0, none⟩ = some (.int .u64 (M[k].o.s : Int))
  few : M.length ≤ 64
theorem P4.lst (x : P4 w0 B w hb rb pb qb h1 h2 p1 p2 X) : ∃ lv M, LstI w rb lv M ∧ M.map (·.o) = h2.cs := by
  obtain ⟨F, G, P, Q, hp, ⟨ra, rc, rt, lv, M, hr, hGi⟩, _⟩ := x.ex
  obtain ⟨ao, cap, hlv, _, _, _⟩ := hr.slice
  refine ⟨lv, M, ⟨hr.c4, ⟨ao, cap, hlv⟩, hr.box.lt, fun k hk => ?_, ?_⟩, hr.cs⟩
  · obtain ⟨g, cap', e, _, hgl, hat⟩ := hr.at k hk
    have hm := hr.rows _ (List.getElem_mem hk)
    exact ⟨g, cap', e, hgl, hat k hk, hm.1.lt, hr.pc (List.getElem_mem hk) 0 _ rfl⟩
  · have h1 : M.length = h2.cs.length := by rw [← hr.cs, List.length_map]
    have := hr.ok.cnt
    have := hr.ok.most
    omega
theorem LstI.below {lv : Value} {M : List Pl} (x : LstI w rb lv M) (hb : Below w.heap.size w w') : LstI w' rb lv M :=
  ⟨(hb.cell (p := ⟨rb, 4, none⟩) x.lt).trans x.c4, x.sl, Nat.lt_of_lt_of_le x.lt hb.size, fun k hk => by
    obtain ⟨g, cap, e, h1, h2, h3, h4⟩ := x.at_ k hk
    exact ⟨g, cap, e, Nat.lt_of_lt_of_le h1 hb.size, (hb.cell (p := ⟨g, k, none⟩) h1).trans h2, Nat.lt_of_lt_of_le h3 hb.size, (hb.cell (p := ⟨M[k].pb, 0, none⟩) h3).trans h4⟩, x.few⟩
/-- The list's next one behind the one ahead. -/
def atM (M : List Pl) : Nat → Nat
  | 0 => 0
  | k + 1 => (M[k]?.map (·.o.s)).getD 0
theorem atM_next {h : HSt} {M : List Pl} (ok : h.Ok) (hM : M.map (·.o) = h.cs) {k : Nat} (hk : k < M.length) : nextR h.cs (atM M k) = (M[k].o.s, true) := by
  have hs : ∀ i j (hi : i < M.length) (hj : j < M.length), i < j → M[i].o.s < M[j].o.s := fun i j hi hj hij => by
    have h1 := ok.srt
    rw [← hM, List.pairwise_map, List.pairwise_iff_getElem] at h1
    exact h1 i j hi hj hij
  have hmem : M[k].o ∈ h.cs := by rw [← hM]; exact List.mem_map.2 ⟨_, List.getElem_mem hk, rfl⟩
  refine nextR_some ok.srt hmem ?_ (fun q hq hlt => ?_)
  · cases k with
    | zero => exact (ok.le _ hmem).1
    | succ k =>
      show (M[k]?.map (·.o.s)).getD 0 < _
      rw [List.getElem?_eq_getElem (by omega)]
      exact hs k (k + 1) (by omega) hk (by omega)
  · rw [← hM] at hq
    obtain ⟨pq, hpq, rfl⟩ := List.mem_map.1 hq
    obtain ⟨j, hj, rfl⟩ := List.mem_iff_getElem.1 hpq
    by_cases hjk : j < k
    · exfalso
      cases k with
      | zero => omega
      | succ k =>
        have hlt' : (M[k]?.map (·.o.s)).getD 0 < M[j].o.s := hlt
        rw [List.getElem?_eq_getElem (by omega)] at hlt'
        have hlt2 : M[k].o.s < M[j].o.s := hlt'
        by_cases e : j = k
        · subst e; omega
        · have := hs j k hj (by omega) (by omega)
          omega
    · by_cases e : j = k
      · subst e; exact Nat.le_refl _
      · exact Nat.le_of_lt (hs k j hk hj (by omega))
end
end Go.Proofs.YtdafpfdmnccelaaDoor

namespace Go.Proofs.YtdafpfdmnccelaaDoor
open Go.RowKit

section
variable {w0 w w' : World} {B pb hb sb : Nat} {h h' : HSt} {p p' : PSt} {X : Nat → Prop}
theorem PH.sGo (x : PH w0 B w pb hb h p X) {n : Nat} {args : Array Value} {r : Ending} (f : ∀ F, HP w hb F h → Calls Tryd.prog n args w fun e w' => e = r ∧ Goes w w' hb F h') : Calls Tryd.prog n args w fun e w' => e = r ∧ PH w0 B w' pb hb h' p X ∧ Kept w w' (Its B X) := by
  obtain ⟨F, G, hp, hn, hF, hG⟩ := x.ex
  have hlg := hn.lt
  refine (f F hp).mono ?_
  rintro e w' ⟨he, hg⟩
  obtain ⟨F', hp', hF'⟩ := hg.ex
  refine ⟨he, ⟨⟨F', G, hp', hn.kept hg.kept (fun k a b => (hF k b).2.2 a), fun k hk => ?_, hG⟩, x.bel.trans (hg.kept.below x.le (fun i hi e => by have := (hF i e).1; omega)), Nat.le_trans x.le hg.kept.size, fun k e => Nat.lt_of_lt_of_le (x.xs k e) hg.kept.size, x.pos⟩, hg.kept.mono (fun k _ e => ⟨(hF k e).1, (hF k e).2.1⟩)⟩
  rcases hF' k hk with a | a
  · exact hF k a
  · exact ⟨Nat.le_trans x.le a, fun e => by have := x.xs k e; omega, fun e => by have := hlg k e; omega⟩
theorem PH.sNext (x : PH w0 B w pb hb h p X) (s : Nat) :
    Calls Tryd.prog 23 #[.pointer (some ⟨hb, 0, none⟩), .int .u64 (s : Int)] w fun e w' => e = .returned (.tuple #[.int .u64 ((nextR h.cs s).1 : Int), .bool (nextR h.cs s).2]) ∧ Below w.heap.size w w' := by
  obtain ⟨F, G, hp, _⟩ := x.ex
  exact hp.next s
theorem PH.sLast (x : PH w0 B w pb hb h p X) :
    Calls Tryd.prog 25 #[.pointer (some ⟨hb, 0, none⟩)] w fun e w' => e = .returned (.int .u64 (h.last : Int)) ∧ w = w' := by
  obtain ⟨F, G, hp, _⟩ := x.ex
  exact hp.last
theorem PH.sLen (x : PH w0 B w pb hb h p X) :
    Calls Tryd.prog 22 #[.pointer (some ⟨hb, 0, none⟩)] w fun e w' => e = .returned (.int .i64 (h.cs.length : Int)) ∧ w = w' := by
  obtain ⟨F, G, hp, _⟩ := x.ex
  exact hp.len
theorem PH.sMake (x : PH w0 B w pb hb h p X) (r v : Int) :
    Calls Tryd.prog 17 #[.pointer (some ⟨hb, 0, none⟩), .int .i64 r, .int .i64 v] w fun e w' => e = .returned (.tuple #[.int .u64 ((h.makeR r v).1 : Int), .int .i64 ((h.makeR r v).2 : Int)]) ∧ PH w0 B w' pb hb (h.makeS r v) p X ∧ Kept w w' (Its B X) := x.sGo (fun _ hp => hp.make r v)
theorem PH.sFree (x : PH w0 B w pb hb h p X) (s : Nat) (hs : s < 18446744073709551616) :
    Calls Tryd.prog 19 #[.pointer (some ⟨hb, 0, none⟩), .int .u64 (s : Int)] w fun e w' => e = .returned (.int .i64 (h.freeR s : Int)) ∧ PH w0 B w' pb hb (h.freeS s) p X ∧ Kept w w' (Its B X) := x.sGo (fun _ hp => hp.free s hs)
theorem PH.sForget (x : PH w0 B w pb hb h p X) (s : Nat) :
    Calls Tryd.prog 66 #[.pointer (some ⟨pb, 0, none⟩), .int .u64 (s : Int)] w fun e w' => e = .returned (.tuple #[]) ∧ PH w0 B w' pb hb h (p.forget s) X ∧ Kept w w' (Its B X) := x.pgo (fun _ _ _ _ _ hx _ _ => pforget_any hx s)
theorem PH.sFresh (x : PH w0 B w pb hb h p X) (hB : Below w.heap.size w w') : PH w0 B w' pb hb h p (fun k => X k ∨ (w.heap.size ≤ k ∧ k < w'.heap.size)) := by
  obtain ⟨F, G, hp, hn, hF, hG⟩ := x.ex
  have hlt := hp.lt
  have hlg := hn.lt
  refine ⟨⟨F, G, hp.below hB, hn.below hB, fun k hk => ⟨(hF k hk).1, fun e => ?_, (hF k hk).2.2⟩, fun k hk e => ?_⟩, x.bel.trans (hB.mono x.le), Nat.le_trans x.le hB.size, fun k e => ?_, x.pos⟩
  · rcases e with e | e
    · exact (hF k hk).2.1 e
    · have := hlt k hk
      omega
  · rcases e with e | e
    · exact hG k hk e
    · have := hlg k hk
      omega
  · rcases e with e | e
    · exact Nat.lt_of_lt_of_le (x.xs k e) hB.size
    · exact e.2
theorem PH.sGrow (x : PH w0 B w pb hb h p X) {S : Nat → Prop} (hk : Kept w w' S) (hS : ∀ k, S k → k < w.heap.size → X k ∧ B ≤ k) : PH w0 B w' pb hb h p (fun k => X k ∨ (w.heap.size ≤ k ∧ k < w'.heap.size)) := by
  have hk' : Kept w w' (fun k => X k ∧ B ≤ k) := hk.mono (fun k hl e => hS k e hl)
  have hs := hk.size
  obtain ⟨F0, G0, hp0, hn0, hF0, hG0⟩ := x.ex
  have l1 := hp0.lt
  have l2 := hn0.lt
  have hpos := x.pos
  refine ⟨⟨F0, G0, hp0.kept hk' (fun e => by have := e.2; omega) (fun k a b => (hF0 k a).2.1 b.1), hn0.kept hk' (fun k a b => hG0 k a b.1), fun k a => ⟨(hF0 k a).1, fun e => ?_, (hF0 k a).2.2⟩, fun k a e => ?_⟩, x.bel.trans (hk'.below x.le (fun i hi e => by have := e.2; omega)), Nat.le_trans x.le hs, fun k e => ?_, x.pos⟩
  · rcases e with e | e
    · exact (hF0 k a).2.1 e
    · have := l1 k a; omega
  · rcases e with e | e
    · exact hG0 k a e
    · have := l2 k a; omega
  · rcases e with e | e
    · exact Nat.lt_of_lt_of_le (x.xs k e) hs
    · exact e.2
theorem PH.sObj (x : PH w0 B w pb hb h p X) (s : Nat) (hs : s < 18446744073709551616) :
    Calls Tryd.prog 24 #[.pointer (some ⟨hb, 0, none⟩), .int .u64 (s : Int)] w fun e w' => ∃ (a b d : Int) (o1 o2 : Option Addr) (n1 n2 : Nat), e = .returned (.tuple #[.agg #[.int .u64 a, .int .i64 b, .slice o1 n1 n1, .slice o2 n2 n2, .int .i64 d], .bool (getC h.cs s).isSome]) ∧ Below w.heap.size w w' := by
  obtain ⟨F, G, hp, _⟩ := x.ex
  cases hg : getC h.cs s with
  | none => exact (hp.objNo s hs hg).mono (fun e w' ⟨he, hb⟩ => ⟨0, 0, 0, none, none, 0, 0, he, hb⟩)
  | some o => exact (hp.objOk s hs o hg).mono (fun e w' ⟨g1, g2, he, _, _, _, _, hb⟩ => ⟨(o.s : Int), (o.c : Int), (o.d : Int), some ⟨g1, 0, none⟩, some ⟨g2, 0, none⟩, o.rf.length, o.vl.length, he, hb⟩)
theorem H2.rge {rb : Nat} {h1 h2 : HSt} (x : H2 w0 B w hb rb h1 h2 X) : B ≤ rb := by
  obtain ⟨F, G, hp, ⟨ra, rc, rt, lv, M, hr, hGi⟩, hF, hG⟩ := x.ex
  exact (hG rb ((hGi rb).2 (by simp [rBl]))).1
/-- A heap and its paint hold a sweeper's. -/
theorem how_ph (hX : X sb) (hB : B ≤ sb) : HoW (fun w h p => PH w0 B w pb hb h p X) hb pb sb (Its B X) :=
  ⟨fun e => e.2 hX, fun _ _ _ x => x.ok, fun _ _ _ _ x hb => x.read hb, fun w _ _ i v x => x.other (Kept.setCell w ⟨sb, i, none⟩ v) (fun k e => by have e' : k = sb := e; rw [e']; exact ⟨hX, hB⟩),
   fun _ _ _ s x => x.sNext s, fun _ _ _ s hs x => x.mark s hs, fun _ _ _ x => x.sLast, fun _ _ _ s hs x => x.sFree s hs, fun _ _ _ s x => x.sForget s⟩
end
end Go.Proofs.YtdafpfdmnccelaaDoor
