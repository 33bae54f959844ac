import Derived.Test.YtlabdbfmfejkaaaGreatDoorReMP
import Derived.Test.YtlabdbfmfejkaaaGreatDoorPaKP
import Derived.Test.YtlabdbfmfejkaaaGreatDoorOwIL
import Derived.Test.YtlabdbfmfejkaaaGreatDoorGrMP
import Derived.Deep.CutRange
import Derived.Deep.CutBlock
import Derived.BigQuiet
/- A reacher in memory. Each of its blocks bears a label: 0 the reacher, 1 to 6 the row under way, 7 the list of the ended rows, 8 their Outs; 9: none of its. -/
/- A reacher's small things: what is suspect, take, the closure that puts. -/
namespace Go.Proofs.YtlabdbfmfejkaaaGreatDoor
open Go.RowKit

/-- The closure that puts. -/
def putV (mv wv : Nat) : Value := .func (.func 88) #[] #[.pointer (some ⟨mv, 0, none⟩), .pointer (some ⟨wv, 0, none⟩)]
/-- The row under way: its struct at ub, the closure's variables at mv and wv, the map at mb; what waits and what is out. -/
structure UX (w : World) (B : Nat) (L : Nat → Nat) (ub mv wv mb : Nat) (ov tv : Value) (u : Und) : Prop where
  box : Row w ub 136 [.int .u64 (u.inn : Int), ov, tv, putV mv wv]
  rm : Row w mv 168 [.map (some mb)]
  rw : Row w wv 80 [.pointer (some ⟨ub, 0, none⟩)]
  mq : MQ eU w mb (u.row.map (fun s => (s, Value.agg #[])))
  oo : OwI w B ov u.outs
  ow : w.ownsRow B 44 1 tv u.waits.length (u.waits.map uV)
  l1 : L ub = 1
  l2 : L mv = 2
  l3 : L wv = 3
  l4 : L mb = 4
  l5 : ∀ k, ov.ownBlock = some k → L k = 5
  l6 : ∀ k, tv.ownBlock = some k → L k = 6
  lo : ∀ k, L k < 9 → B ≤ k ∧ k < w.heap.size
/-- Another label for new blocks. -/
def reL (w : World) (L : Nat → Nat) (f : Nat → Nat) (k : Nat) : Nat := if k < w.heap.size then L k else f k
theorem reL_old {w : World} {L f : Nat → Nat} {k : Nat} (h : k < w.heap.size) : reL w L f k = L k := if_pos h
theorem reL_new {w : World} {L f : Nat → Nat} {k : Nat} (h : w.heap.size ≤ k) : reL w L f k = f k := if_neg (by omega)
section
variable {w w' : World} {B ub mv wv mb : Nat} {L L' : Nat → Nat} {ov tv : Value} {u : Und} {S : Nat → Prop}
theorem own_lt1 {c n : Nat} {e : TypeId} {v : Value} {xs : List Value} (h : w.ownsRow B e c v n xs) : ∀ k, v.ownBlock = some k → B ≤ k ∧ k < w.heap.size := by
  intro k hk
  rcases h.2 with ⟨rfl, _⟩ | ⟨g, cap, cur, rfl, h2, h3, _⟩
  · cases hk
  · have e : g = k := by simpa [Value.ownBlock] using hk
    subst e
    exact ⟨h2, (Array.getElem?_eq_some_iff.1 h3).1⟩
theorem UX.kept (x : UX w B L ub mv wv mb ov tv u) (hk : Kept w w' S) (hs : ∀ k, 1 ≤ L k → L k ≤ 6 → ¬ S k) : UX w' B L ub mv wv mb ov tv u :=
  ⟨x.box.kept hk (hs _ (by rw [x.l1]; omega) (by rw [x.l1]; omega)), x.rm.kept hk (hs _ (by rw [x.l2]; omega) (by rw [x.l2]; omega)), x.rw.kept hk (hs _ (by rw [x.l3]; omega) (by rw [x.l3]; omega)), x.mq.kept hk (hs _ (by rw [x.l4]; omega) (by rw [x.l4]; omega)),
    x.oo.kept hk (fun k e => hs _ (by rw [x.l5 k e]; omega) (by rw [x.l5 k e]; omega)), own_kept x.ow hk (fun k e => hs _ (by rw [x.l6 k e]; omega) (by rw [x.l6 k e]; omega)), x.l1, x.l2, x.l3, x.l4, x.l5, x.l6, fun k e => ⟨(x.lo k e).1, Nat.lt_of_lt_of_le (x.lo k e).2 hk.size⟩⟩
theorem UX.below (x : UX w B L ub mv wv mb ov tv u) (hB : Below w.heap.size w w') : UX w' B L ub mv wv mb ov tv u := x.kept (kept_of_below hB (fun _ => False)) (fun _ _ _ => id)
/-- Its labels are others, for blocks that are not its. -/
theorem UX.label (x : UX w B L ub mv wv mb ov tv u) (hL : ∀ k, k < w.heap.size → L' k = L k) (hn : ∀ k, w.heap.size ≤ k → 9 ≤ L' k) : UX w B L' ub mv wv mb ov tv u :=
  ⟨x.box, x.rm, x.rw, x.mq, x.oo, x.ow, (hL _ x.box.lt).trans x.l1, (hL _ x.rm.lt).trans x.l2, (hL _ x.rw.lt).trans x.l3, (hL _ x.mq.lt).trans x.l4, fun k e => (hL _ (own_lt1 x.oo k e).2).trans (x.l5 k e), fun k e => (hL _ (own_lt1 x.ow k e).2).trans (x.l6 k e), fun k e => by
    by_cases hk : k < w.heap.size
    · rw [hL k hk] at e
      exact x.lo k e
    · have := hn k (by omega)
      omega⟩
theorem UX.c0 (x : UX w B L ub mv wv mb ov tv u) : w.cell? ⟨ub, 0, none⟩ = some (.int .u64 (u.inn : Int)) := x.box.cell 0 (by simp)
theorem UX.c1 (x : UX w B L ub mv wv mb ov tv u) : w.cell? ⟨ub, 1, none⟩ = some ov := x.box.cell 1 (by simp)
theorem UX.c2 (x : UX w B L ub mv wv mb ov tv u) : w.cell? ⟨ub, 2, none⟩ = some tv := x.box.cell 2 (by simp)
theorem UX.c3 (x : UX w B L ub mv wv mb ov tv u) : w.cell? ⟨ub, 3, none⟩ = some (putV mv wv) := x.box.cell 3 (by simp)
theorem UX.m0 (x : UX w B L ub mv wv mb ov tv u) : w.cell? ⟨mv, 0, none⟩ = some (.map (some mb)) := x.rm.cell 0 (by simp)
theorem UX.v0 (x : UX w B L ub mv wv mb ov tv u) : w.cell? ⟨wv, 0, none⟩ = some (.pointer (some ⟨ub, 0, none⟩)) := x.rw.cell 0 (by simp)
end
/-- A row under way, its places unsaid. -/
def UN (w : World) (B : Nat) (L : Nat → Nat) (ub : Nat) (u : Und) : Prop := ∃ mv wv mb ov tv, UX w B L ub mv wv mb ov tv u
/-- What became of a row under way. -/
structure UGo (w w' : World) (B : Nat) (L : Nat → Nat) (ub : Nat) (u : Und) : Prop where
  ex : ∃ L', UN w' B L' ub u ∧ (∀ k, k < w.heap.size → L' k = L k) ∧ ∀ k, w.heap.size ≤ k → 1 ≤ L' k ∧ (6 < L' k → 9 ≤ L' k)
  kept : Kept w w' (fun k => L k = 1 ∨ L k = 4 ∨ L k = 5 ∨ L k = 6)
section
variable {w w1 w' : World} {B ub mv wv mb : Nat} {L L' : Nat → Nat} {ov tv : Value} {u u1 : Und} {S : Nat → Prop}
/-- Its labels, nothing said of new blocks. -/
theorem UX.fit (x : UX w B L ub mv wv mb ov tv u) : UX w B (reL w L (fun _ => 9)) ub mv wv mb ov tv u := x.label (fun _ h => reL_old h) (fun _ h => by rw [reL_new h]; exact Nat.le_refl _)
theorem UN.go (x : UN w B L ub u) (hB : Below w.heap.size w w') : UGo w w' B L ub u := by
  obtain ⟨mv, wv, mb, ov, tv, x⟩ := x
  exact ⟨⟨_, ⟨_, _, _, _, _, x.fit.below hB⟩, fun _ h => reL_old h, fun _ h => by rw [reL_new h]; omega⟩, kept_of_below hB _⟩
theorem UGo.trans (h1 : UGo w w1 B L ub u1) (h2 : ∀ L1, UN w1 B L1 ub u1 → UGo w1 w' B L1 ub u) : UGo w w' B L ub u := by
  obtain ⟨L1, x1, a1, b1⟩ := h1.ex
  have h2 := h2 L1 x1
  obtain ⟨L2, x2, a2, b2⟩ := h2.ex
  have hs := h1.kept.size
  refine ⟨⟨L2, x2, fun k hk => (a2 k (by omega)).trans (a1 k hk), fun k hk => ?_⟩, h1.kept.trans h2.kept (fun k hk e => by rw [a1 k hk] at e; exact e)⟩
  by_cases e : k < w1.heap.size
  · rw [a2 k e]
    exact b1 k hk
  · exact b2 k (by omega)
/-- What waits is another list. -/
theorem UX.wait (x : UX w B L ub mv wv mb ov tv u) (hb : Below w.heap.size w w1) {w2 : World} {tv2 : Value} {l : List Nat} (hk : Kept w1 w2 (fun k => tv.ownBlock = some k)) (ho : w2.ownsRow B 44 1 tv2 l.length (l.map uV)) (hm : Moved w1 tv tv2) :
    UGo w (w2.setCell ⟨ub, 2, none⟩ tv2) B L ub { u with waits := l } ∧ w2.cell? ⟨ub, 2, none⟩ = some tv ∧ w2.frozen? ⟨ub, 2, none⟩ = false := by
  have hs := hb.size
  have hk2 := hk.size
  have x1 := x.below hb
  have hu := x.box.lt
  have e1 := x.l1
  have r2 := x1.box.kept hk (fun e => by have := x.l6 _ e; omega)
  have hks : Kept w2 (w2.setCell ⟨ub, 2, none⟩ tv2) (fun k => k = ub) := Kept.setCell _ _ _
  have hall : Kept w1 (w2.setCell ⟨ub, 2, none⟩ tv2) (fun k => k = ub ∨ tv.ownBlock = some k) := (hk.mono (fun _ _ e => Or.inr e)).trans hks (fun _ _ e => Or.inl e)
  have ht2 : ∀ k, tv2.ownBlock = some k → tv.ownBlock = some k ∨ w.heap.size ≤ k := fun k e => by
    rcases hm k e with a | a
    · exact Or.inl a
    · exact Or.inr (by omega)
  refine ⟨⟨⟨reL w L (fun k => if tv2.ownBlock = some k then 6 else 9), ⟨mv, wv, mb, ov, tv2, ?_⟩, fun _ h => reL_old h, fun k h => by rw [reL_new h]; split <;> omega⟩, (kept_of_below hb _).trans (hall.mono (S' := fun k => L k = 1 ∨ L k = 4 ∨ L k = 5 ∨ L k = 6) (fun k _ e => ?_)) (fun _ _ e => e)⟩, r2.cell 2 (by simp), r2.frozen 2⟩
  · refine ⟨r2.set 2 tv2, x1.rm.kept hall ?_, x1.rw.kept hall ?_, x1.mq.kept hall ?_, x1.oo.kept hall ?_, own_kept ho hks ?_, (reL_old hu).trans x.l1, (reL_old x.rm.lt).trans x.l2, (reL_old x.rw.lt).trans x.l3, (reL_old x.mq.lt).trans x.l4, fun k e => (reL_old (own_lt1 x.oo k e).2).trans (x.l5 k e), fun k e => ?_, fun k e => ?_⟩
    · rintro (e | e)
      · have := x.l2; rw [e] at this; omega
      · have := x.l6 _ e; have := x.l2; omega
    · rintro (e | e)
      · have := x.l3; rw [e] at this; omega
      · have := x.l6 _ e; have := x.l3; omega
    · rintro (e | e)
      · have := x.l4; rw [e] at this; omega
      · have := x.l6 _ e; have := x.l4; omega
    · intro k h
      rintro (e | e)
      · have := x.l5 _ h; rw [e] at this; omega
      · have := x.l5 _ h; have := x.l6 _ e; omega
    · intro k h e
      have e' : k = ub := e
      subst e'
      rcases ht2 k h with a | a
      · have := x.l6 _ a; omega
      · omega
    · rcases ht2 k e with a | a
      · rw [reL_old (own_lt1 x.ow k a).2]
        exact x.l6 k a
      · rw [reL_new a, if_pos e]
    · by_cases hkw : k < w.heap.size
      · rw [reL_old hkw] at e
        have := x.lo k e
        have h3 := hks.size
        exact ⟨this.1, by omega⟩
      · rw [reL_new (by omega)] at e
        by_cases h6 : tv2.ownBlock = some k
        · have h3 := own_lt1 ho k h6
          have h4 := hks.size
          exact ⟨h3.1, by omega⟩
        · rw [if_neg h6] at e
          omega
  · rcases e with e | e
    · rw [e, e1]; omega
    · rw [x.l6 k e]; omega
/-- What is out is another list. -/
theorem UX.outl (x : UX w B L ub mv wv mb ov tv u) (hb : Below w.heap.size w w1) {w2 : World} {ov2 : Value} {l : List (Int × Nat)} (hk : Kept w1 w2 (fun k => ov.ownBlock = some k)) (ho : OwI w2 B ov2 l) (hm : Moved w1 ov ov2) :
    UGo w (w2.setCell ⟨ub, 1, none⟩ ov2) B L ub { u with outs := l } ∧ w2.cell? ⟨ub, 1, none⟩ = some ov ∧ w2.frozen? ⟨ub, 1, none⟩ = false := by
  have hs := hb.size
  have hk2 := hk.size
  have x1 := x.below hb
  have hu := x.box.lt
  have e1 := x.l1
  have r2 := x1.box.kept hk (fun e => by have := x.l5 _ e; omega)
  have hks : Kept w2 (w2.setCell ⟨ub, 1, none⟩ ov2) (fun k => k = ub) := Kept.setCell _ _ _
  have hall : Kept w1 (w2.setCell ⟨ub, 1, none⟩ ov2) (fun k => k = ub ∨ ov.ownBlock = some k) := (hk.mono (fun _ _ e => Or.inr e)).trans hks (fun _ _ e => Or.inl e)
  have ht2 : ∀ k, ov2.ownBlock = some k → ov.ownBlock = some k ∨ w.heap.size ≤ k := fun k e => by
    rcases hm k e with a | a
    · exact Or.inl a
    · exact Or.inr (by omega)
  refine ⟨⟨⟨reL w L (fun k => if ov2.ownBlock = some k then 5 else 9), ⟨mv, wv, mb, ov2, tv, ?_⟩, fun _ h => reL_old h, fun k h => by rw [reL_new h]; split <;> omega⟩, (kept_of_below hb _).trans (hall.mono (S' := fun k => L k = 1 ∨ L k = 4 ∨ L k = 5 ∨ L k = 6) (fun k _ e => ?_)) (fun _ _ e => e)⟩, r2.cell 1 (by simp), r2.frozen 1⟩
  · refine ⟨r2.set 1 ov2, x1.rm.kept hall ?_, x1.rw.kept hall ?_, x1.mq.kept hall ?_, ho.kept hks ?_, own_kept x1.ow hall ?_, (reL_old hu).trans x.l1, (reL_old x.rm.lt).trans x.l2, (reL_old x.rw.lt).trans x.l3, (reL_old x.mq.lt).trans x.l4, fun k e => ?_, fun k e => (reL_old (own_lt1 x.ow k e).2).trans (x.l6 k e), fun k e => ?_⟩
    · rintro (e | e)
      · have := x.l2; rw [e] at this; omega
      · have := x.l5 _ e; have := x.l2; omega
    · rintro (e | e)
      · have := x.l3; rw [e] at this; omega
      · have := x.l5 _ e; have := x.l3; omega
    · rintro (e | e)
      · have := x.l4; rw [e] at this; omega
      · have := x.l5 _ e; have := x.l4; omega
    · intro k h e
      have e' : k = ub := e
      subst e'
      rcases ht2 k h with a | a
      · have := x.l5 _ a; omega
      · omega
    · intro k h
      rintro (e | e)
      · have := x.l6 _ h; rw [e] at this; omega
      · have := x.l6 _ h; have := x.l5 _ e; omega
    · rcases ht2 k e with a | a
      · rw [reL_old (own_lt1 x.oo k a).2]
        exact x.l5 k a
      · rw [reL_new a, if_pos e]
    · by_cases hkw : k < w.heap.size
      · rw [reL_old hkw] at e
        have := x.lo k e
        have h3 := hks.size
        exact ⟨this.1, by omega⟩
      · rw [reL_new (by omega)] at e
        by_cases h6 : ov2.ownBlock = some k
        · have h3 := ho.ge k h6
          have h4 := hks.size
          exact ⟨h3.1, by omega⟩
        · rw [if_neg h6] at e
          omega
  · rcases e with e | e
    · rw [e, e1]; omega
    · rw [x.l5 k e]; omega
/-- One serial more is in it. -/
theorem zeroU0 (w : World) : (zeroValue 169).run Tryz.prog w = .ok (.agg #[]) w := by kernel_rfl
theorem look_row (l : List Nat) (s : Nat) : lookQ (l.map (fun s => (s, Value.agg #[]))) s = if s ∈ l then some (.agg #[]) else none := by
  unfold lookQ
  rw [List.find?_map, Option.map_map]
  induction l with
  | nil => rfl
  | cons a l ih =>
    rw [List.find?_cons]
    by_cases e : a = s
    · subst e
      simp
    · have h1 : ((fun p : Nat × Value => decide (p.1 = s)) ∘ fun s => (s, Value.agg #[])) a = false := decide_eq_false e
      rw [h1]
      simp only
      rw [ih]
      have h2 : s ∈ a :: l ↔ s ∈ l := by
        rw [List.mem_cons]
        exact ⟨fun h => h.resolve_left (fun h => e h.symm), Or.inr⟩
      by_cases h3 : s ∈ l
      · rw [if_pos h3, if_pos (h2.2 h3)]
      · rw [if_neg h3, if_neg (fun h => h3 (h2.1 h))]
theorem UX.look (x : UX w B L ub mv wv mb ov tv u) (s : Nat) : (Instr.lookup 168 (.map (some mb)) (.int .u64 (s : Int)) true).run Tryz.prog w = .ok (.tuple #[.agg #[], .bool (decide (s ∈ u.row))]) w := by
  have h := x.mq.look2 klU Tryz.underlying168 (zeroU0 w) s
  rw [look_row] at h
  by_cases e : s ∈ u.row
  · rw [if_pos e] at h
    rw [decide_eq_true e]
    exact h
  · rw [if_neg e] at h
    rw [decide_eq_false e]
    exact h
theorem UX.more (x : UX w B L ub mv wv mb ov tv u) (s : Nat) (hs : ¬ s ∈ u.row) : ∃ o o', w.heap[mb]? = some o ∧ (∀ W : World, W.heap[mb]? = some o → (Instr.mapUpdate 168 (.map (some mb)) (.int .u64 (s : Int)) (.agg #[])).run Tryz.prog W = .ok () (ChangeMaps.setBlock W mb o')) ∧
    ∀ W : World, UX W B L ub mv wv mb ov tv u → UX (ChangeMaps.setBlock W mb o') B L ub mv wv mb ov tv { u with row := u.row ++ [s] } ∧ Kept W (ChangeMaps.setBlock W mb o') (fun k => k = mb) := by
  obtain ⟨o, o', h1, h2, h3⟩ := x.mq.upd klU Tryz.underlying168 s (.agg #[])
  have e : putQ (u.row.map (fun s => (s, Value.agg #[]))) s (.agg #[]) = (u.row ++ [s]).map (fun s => (s, Value.agg #[])) := by
    unfold putQ
    rw [look_row, if_neg hs]
    simp
  refine ⟨o, o', h1, h2, fun W y => ?_⟩
  have hk := kept_setBlock W mb o'
  have hm := h3 W y.mq.lt
  rw [e] at hm
  have h4 := y.l4
  refine ⟨⟨y.box.kept hk (fun e => ?_), y.rm.kept hk (fun e => ?_), y.rw.kept hk (fun e => ?_), hm, y.oo.kept hk (fun k h e => ?_), own_kept y.ow hk (fun k h e => ?_), y.l1, y.l2, y.l3, y.l4, y.l5, y.l6, fun k e => ⟨(y.lo k e).1, Nat.lt_of_lt_of_le (y.lo k e).2 hk.size⟩⟩, hk⟩
  · have := y.l1; rw [e] at this; omega
  · have := y.l2; rw [e] at this; omega
  · have := y.l3; rw [e] at this; omega
  · have := y.l5 k h; rw [e] at this; omega
  · have := y.l6 k h; rw [e] at this; omega
end

/-- The cells of ended rows. -/
def endV (es : List ((Nat × List (Int × Nat)) × Value)) : List Value := es.flatMap (fun e => [.int .u64 (e.1.1 : Int), e.2])
theorem endV_app (a b : List ((Nat × List (Int × Nat)) × Value)) : endV (a ++ b) = endV a ++ endV b := by unfold endV; rw [List.flatMap_append]
theorem endV_len (l : List ((Nat × List (Int × Nat)) × Value)) : (endV l).length = l.length * 2 := by
  induction l with
  | nil => rfl
  | cons x l ih => unfold endV at *; rw [List.flatMap_cons, List.length_append, ih]; simp; omega
theorem endV_at : ∀ (l : List ((Nat × List (Int × Nat)) × Value)) (i : Nat) (hi : i < l.length), (endV l)[i * 2]? = some (.int .u64 (l[i].1.1 : Int)) ∧ (endV l)[i * 2 + 1]? = some l[i].2
  | x :: l, 0, _ => by constructor <;> rfl
  | x :: l, i + 1, hi => by
    have := endV_at l i (by simpa using hi)
    have e1 : (i + 1) * 2 = i * 2 + 2 := by omega
    constructor
    · rw [e1]; exact this.1
    · rw [e1]; exact this.2
/-- The rows that are ended, in a list at ev. -/
structure EX (w : World) (B : Nat) (L : Nat → Nat) (ev : Value) (es : List ((Nat × List (Int × Nat)) × Value)) : Prop where
  ow : w.ownsRow B 65 2 ev es.length (endV es)
  l7 : ∀ k, ev.ownBlock = some k → L k = 7
  l8 : ∀ e ∈ es, ∀ k, e.2.ownBlock = some k → L k = 8
  sr : ∀ e ∈ es, OwI w B e.2 e.1.2
/-- A reacher. -/
structure RcX (w : World) (B xb hb pb : Nat) (L : Nat → Nat) (uv ev : Value) (es : List ((Nat × List (Int × Nat)) × Value)) (r : RSt) : Prop where
  box : Row w xb 82 [.pointer (some ⟨hb, 0, none⟩), .pointer (some ⟨pb, 0, none⟩), .int .i64 r.sus, .int .u64 (r.place : Int), uv, ev]
  un : match r.und with
    | none => uv = .pointer none
    | some u => ∃ ub, uv = .pointer (some ⟨ub, 0, none⟩) ∧ UN w B L ub u
  en : EX w B L ev es
  es : r.ended = es.map (·.1)
  l0 : L xb = 0
  lo : ∀ k, L k < 9 → B ≤ k ∧ k < w.heap.size
def RcN (w : World) (B xb hb pb : Nat) (L : Nat → Nat) (r : RSt) : Prop := ∃ uv ev es, RcX w B xb hb pb L uv ev es r
/-- What became of it. -/
structure RcGo (w w' : World) (B xb hb pb : Nat) (L : Nat → Nat) (r : RSt) : Prop where
  ex : ∃ L', RcN w' B xb hb pb L' r ∧ ∀ k, L' k < 9 → L k < 9 ∨ w.heap.size ≤ k
  kept : Kept w w' (fun k => L k < 9)
section
variable {w w1 w' : World} {B xb hb pb : Nat} {L L' : Nat → Nat} {uv ev : Value} {es : List ((Nat × List (Int × Nat)) × Value)} {r r' : RSt} {S : Nat → Prop}
theorem EX.kept (x : EX w B L ev es) (hk : Kept w w' S) (hs : ∀ k, 7 ≤ L k → L k ≤ 8 → ¬ S k) : EX w' B L ev es :=
  ⟨own_kept x.ow hk (fun k e => hs k (by rw [x.l7 k e]; omega) (by rw [x.l7 k e]; omega)), x.l7, x.l8, fun e he => (x.sr e he).kept hk (fun k h => hs k (by rw [x.l8 e he k h]; omega) (by rw [x.l8 e he k h]; exact Nat.le_refl _))⟩
theorem EX.label (x : EX w B L ev es) (hL : ∀ k, k < w.heap.size → 7 ≤ L k → L k ≤ 8 → L' k = L k) : EX w B L' ev es :=
  ⟨x.ow, fun k e => (hL k (own_lt1 x.ow k e).2 (by rw [x.l7 k e]; omega) (by rw [x.l7 k e]; omega)).trans (x.l7 k e), fun e he k h => (hL k ((x.sr e he).ge k h).2 (by rw [x.l8 e he k h]; omega) (by rw [x.l8 e he k h]; exact Nat.le_refl _)).trans (x.l8 e he k h), x.sr⟩
theorem UN.kept {ub : Nat} {u : Und} (x : UN w B L ub u) (hk : Kept w w' S) (hs : ∀ k, 1 ≤ L k → L k ≤ 6 → ¬ S k) : UN w' B L ub u := by
  obtain ⟨mv, wv, mb, ov, tv, x⟩ := x
  exact ⟨mv, wv, mb, ov, tv, x.kept hk hs⟩
theorem RcX.kept (x : RcX w B xb hb pb L uv ev es r) (hk : Kept w w' S) (hs : ∀ k, L k < 9 → ¬ S k) : RcX w' B xb hb pb L uv ev es r := by
  refine ⟨x.box.kept hk (hs _ (by rw [x.l0]; omega)), ?_, x.en.kept hk (fun k _ h => hs k (by omega)), x.es, x.l0, fun k e => ⟨(x.lo k e).1, Nat.lt_of_lt_of_le (x.lo k e).2 hk.size⟩⟩
  have h := x.un
  cases hu : r.und with
  | none => rw [hu] at h; exact h
  | some u =>
    rw [hu] at h
    obtain ⟨ub, e, y⟩ := h
    exact ⟨ub, e, y.kept hk (fun k _ h => hs k (by omega))⟩
theorem RcX.below (x : RcX w B xb hb pb L uv ev es r) (hB : Below w.heap.size w w') : RcX w' B xb hb pb L uv ev es r := x.kept (kept_of_below hB (fun _ => False)) (fun _ _ => id)
theorem RcN.kept (x : RcN w B xb hb pb L r) (hk : Kept w w' S) (hs : ∀ k, L k < 9 → ¬ S k) : RcN w' B xb hb pb L r := by
  obtain ⟨uv, ev, es, x⟩ := x
  exact ⟨uv, ev, es, x.kept hk hs⟩
theorem RcN.below (x : RcN w B xb hb pb L r) (hB : Below w.heap.size w w') : RcN w' B xb hb pb L r := x.kept (kept_of_below hB (fun _ => False)) (fun _ _ => id)
theorem RcN.lo (x : RcN w B xb hb pb L r) : ∀ k, L k < 9 → B ≤ k ∧ k < w.heap.size := by
  obtain ⟨uv, ev, es, x⟩ := x
  exact x.lo
theorem RcN.stay (x : RcN w B xb hb pb L r) (hB : Below w.heap.size w w') : RcGo w w' B xb hb pb L r := ⟨⟨L, x.below hB, fun _ h => Or.inl h⟩, kept_of_below hB _⟩
theorem RcGo.trans (h1 : RcGo w w1 B xb hb pb L r') (h2 : ∀ L1, RcN w1 B xb hb pb L1 r' → RcGo w1 w' B xb hb pb L1 r) : RcGo w w' B xb hb pb L r := by
  obtain ⟨L1, x1, a1⟩ := h1.ex
  have h2 := h2 L1 x1
  obtain ⟨L2, x2, a2⟩ := h2.ex
  refine ⟨⟨L2, x2, fun k hk => ?_⟩, h1.kept.trans h2.kept (fun k hk e => ?_)⟩
  · rcases a2 k hk with a | a
    · exact a1 k a
    · exact Or.inr (Nat.le_trans h1.kept.size a)
  · rcases a1 k e with a | a
    · exact a
    · omega
theorem RcX.c0 (x : RcX w B xb hb pb L uv ev es r) : w.cell? ⟨xb, 0, none⟩ = some (.pointer (some ⟨hb, 0, none⟩)) := x.box.cell 0 (by simp)
theorem RcX.c1 (x : RcX w B xb hb pb L uv ev es r) : w.cell? ⟨xb, 1, none⟩ = some (.pointer (some ⟨pb, 0, none⟩)) := x.box.cell 1 (by simp)
theorem RcX.c2 (x : RcX w B xb hb pb L uv ev es r) : w.cell? ⟨xb, 2, none⟩ = some (.int .i64 r.sus) := x.box.cell 2 (by simp)
theorem RcX.c3 (x : RcX w B xb hb pb L uv ev es r) : w.cell? ⟨xb, 3, none⟩ = some (.int .u64 (r.place : Int)) := x.box.cell 3 (by simp)
theorem RcX.c4 (x : RcX w B xb hb pb L uv ev es r) : w.cell? ⟨xb, 4, none⟩ = some uv := x.box.cell 4 (by simp)
theorem RcX.c5 (x : RcX w B xb hb pb L uv ev es r) : w.cell? ⟨xb, 5, none⟩ = some ev := x.box.cell 5 (by simp)
/-- The row under way went on. -/
theorem RcX.ugo {ub : Nat} {u' : Und} (x : RcX w B xb hb pb L uv ev es r) (hv : uv = .pointer (some ⟨ub, 0, none⟩)) (g : UGo w w' B L ub u') : RcGo w w' B xb hb pb L { r with und := some u' } := by
  obtain ⟨L', y, a, b⟩ := g.ex
  have hk := g.kept
  have hx := x.box.lt
  have hl := x.l0
  have hlo := y
  obtain ⟨_, _, _, _, _, yy⟩ := hlo
  refine ⟨⟨L', ⟨uv, ev, es, x.box.kept hk (fun e => by rw [hl] at e; omega), ⟨ub, hv, y⟩, (x.en.label (L' := L') (fun k h _ _ => a k h)).kept hk (fun k h1 h2 e => ?_), x.es, (a xb hx).trans hl, yy.lo⟩, fun k e => ?_⟩, hk.mono (fun k _ e => by omega)⟩
  · by_cases hk2 : k < w.heap.size
    · rw [a k hk2] at h1 h2
      omega
    · have := x.lo k (by omega)
      omega
  · by_cases hk2 : k < w.heap.size
    · rw [a k hk2] at e
      exact Or.inl e
    · exact Or.inr (by omega)
end
end Go.Proofs.YtlabdbfmfejkaaaGreatDoor

namespace Go.Proofs.YtlabdbfmfejkaaaGreatDoor
open Go.RowKit

theorem below_drew0 (w : World) : Below w.heap.size w w.drew := ⟨rfl, rfl, rfl, Nat.le_refl _, fun _ _ => rfl⟩
section
variable {w0 w : World} {B xb hb pb ub mv wv mb : Nat} {L : Nat → Nat} {uv ev ov tv : Value} {es : List ((Nat × List (Int × Nat)) × Value)} {r : RSt} {u : Und} {h : HSt} {p : PSt} {X : Nat → Prop}
set_option maxRecDepth 20000 in
set_option maxHeartbeats 1000000 in
theorem suspect_any (x : RcX w B xb hb pb L uv ev es r) (y : PH w0 B w pb hb h p X) (s : Nat) (hs : s < 18446744073709551616) :
    Calls Tryz.prog 65 #[.pointer (some ⟨xb, 0, none⟩), .int .u64 (s : Int)] w fun e w' => e = .returned (.bool (susO h p r.sus s)) ∧ Below w.heap.size w w' := by
  have c1 := x.c1
  have hM := y.mark s hs
  have HC : Hid (∀ W, Below w.heap.size w W → W.cell? ⟨xb, 2, none⟩ = some (.int .i64 r.sus)) := fun W hB => (x.below hB).c2
  unfold susO
  generalize markR h p s = m at *
  obtain ⟨rk, g, ok⟩ := m
  generalize r.sus = t at *
  simp only at hM ⊢
  clear x y
  cases ok with
  | false =>
    go_enter Tryz.func65, Tryz.ntmps65
    go_wp2_with (go_at_call 82; refine hM.mono ?_; rintro e w1 ⟨rfl, b1⟩; have c2 := HC.out _ b1; have HB : Hid _ := hidden b1; clear b1)
    go_ret
    exact ⟨rfl, HB.out⟩
  | true =>
    go_enter Tryz.func65, Tryz.ntmps65
    go_wp2_with (go_at_call 82; refine hM.mono ?_; rintro e w1 ⟨rfl, b1⟩; have c2 := HC.out _ b1; have HB : Hid _ := hidden b1; clear b1)
    go_ret
    exact ⟨by simp, HB.out⟩
set_option maxRecDepth 20000 in
set_option maxHeartbeats 1000000 in
theorem suspectOut_any (x : RcX w B xb hb pb L uv ev es r) (y : PH w0 B w pb hb h p X) (a : Int) (n : Nat) :
    Calls Tryz.prog 66 #[.pointer (some ⟨xb, 0, none⟩), .agg #[.int .i64 a, .int .u64 (n : Int)]] w fun e w' => e = .returned (.bool (susI p r.sus (a, n))) ∧ Below w.heap.size w w' := by
  have hA : ∀ o, Below w.heap.size w (w.alloc o) := fun o => bel_alloc w o
  have HC : Hid (∀ W, Below w.heap.size w W → W.cell? ⟨xb, 1, none⟩ = some (.pointer (some ⟨pb, 0, none⟩)) ∧ W.cell? ⟨xb, 2, none⟩ = some (.int .i64 r.sus)) := fun W hB => ⟨(x.below hB).c1, (x.below hB).c2⟩
  have hM := fun W (hB : Below w.heap.size w W) => (y.read hB).met a n
  unfold susI
  generalize metR p (a, n) = m at *
  obtain ⟨rk, ok⟩ := m
  generalize r.sus = t at *
  simp only at hM ⊢
  clear x y
  obtain ⟨w1, hw1⟩ : ∃ z, z = w.alloc (.cells #[.int .i64 a, .int .u64 (n : Int)] 55) := ⟨_, rfl⟩
  have b1 : Below w.heap.size w w1 := by rw [hw1]; exact hA _
  have d0 : w1.cell? ⟨w.heap.size, 0, none⟩ = some (.int .i64 a) := by rw [hw1]; simp
  have d1 : w1.cell? ⟨w.heap.size, 1, none⟩ = some (.int .u64 (n : Int)) := by rw [hw1]; simp
  obtain ⟨c1, _⟩ := HC.out _ b1
  have bd := below_drew0 w1
  have hM1 := hM _ (b1.trans (bd.mono b1.size))
  have HBD : Hid _ := hidden bd
  have HW : Hid (w.alloc (.cells #[.int .i64 a, .int .u64 (n : Int)] 55) = w1) := hw1.symm
  clear hA hM hw1 bd
  go_enter Tryz.func66, Tryz.ntmps66
  go_upto_region 1 with fail
  rw [HW.out]
  go_cut [5, 6] from 7 to 15 (fun t u wc => t = .int .i64 (rk : Int) ∧ u = .bool ok ∧ Below w1.heap.size w1 wc)
  case first =>
    go_region_with (go_at_call 83; refine hM1.mono ?_; rintro e w2 ⟨rfl, b2⟩)
    all_goals
      go_wp2
      go_meet
      exact ⟨rfl, rfl, HBD.out.trans b2⟩
  case rest =>
    obtain ⟨rfl, rfl, b2⟩ := hcut
    have HB : Hid _ := hidden (b1.trans (b2.mono b1.size))
    obtain ⟨_, c2⟩ := HC.out _ HB.out
    clear hM1 d0 d1 c1 b1 b2
    cases ok with
    | false =>
      go_wp2
      go_ret
      exact ⟨rfl, HB.out⟩
    | true =>
      go_wp2
      go_ret
      exact ⟨by simp, HB.out⟩
end
section
variable {w : World} {B ub mv wv mb : Nat} {L : Nat → Nat} {ov tv : Value} {u : Und}
/-- One less of a row that is its owner's. -/
theorem own_less {e : TypeId} {v a : Value} {xs : List Value} (h : w.ownsRow B e 1 v (xs.length + 1) (xs ++ [a])) : ∃ g cap, v = .slice (some ⟨g, 0, none⟩) (xs.length + 1) cap ∧ xs.length + 1 ≤ cap ∧ cap ≤ maxLen ∧ g < w.heap.size ∧ w.cell? ⟨g, xs.length, none⟩ = some a ∧ w.ownsRow B e 1 (.slice (some ⟨g, 0, none⟩) xs.length cap) xs.length xs := by
  rcases h.2 with ⟨_, h0⟩ | ⟨g, cap, cur, hv, hb, hg, hn, hm, hs, ht⟩
  · omega
  · rw [Nat.mul_one] at hs ht
    have hat : cur.toList[xs.length]? = some a := by
      have h2 : (cur.toList.take (xs.length + 1))[xs.length]? = some a := by rw [ht]; simp
      rwa [List.getElem?_take_of_lt (by omega)] at h2
    refine ⟨g, cap, hv, hn, hm, (Array.getElem?_eq_some_iff.1 hg).1, ?_, by simp, Or.inr ⟨g, cap, cur, rfl, hb, hg, by omega, hm, by rw [Nat.mul_one]; exact hs, ?_⟩⟩
    · rw [cell_of_row w g _ _ _ _ hg]
      simpa using hat
    · rw [Nat.mul_one]
      have h2 : (cur.toList.take (xs.length + 1)).take xs.length = xs := by rw [ht]; simp
      rwa [List.take_take, Nat.min_eq_left (by omega)] at h2
set_option maxRecDepth 20000 in
set_option maxHeartbeats 1000000 in
theorem take_any' (x : UX w B L ub mv wv mb ov tv u) (l : List Nat) (s : Nat) (hw : u.waits = l ++ [s]) (hl : l.length ≤ 1000000) :
    Calls Tryz.prog 64 #[.pointer (some ⟨ub, 0, none⟩)] w fun e w' => e = .returned (.int .u64 (s : Int)) ∧ UGo w w' B L ub u.cut := by
  have c2 := x.c2
  have f2 := x.box.frozen 2
  have ho := x.ow
  rw [hw] at ho
  have e1 : (l ++ [s]).map uV = l.map uV ++ [uV s] := by simp
  have e2 : (l ++ [s]).length = (l.map uV).length + 1 := by simp
  rw [e1, e2] at ho
  obtain ⟨g, cap, hv, h1, h2, hgl, hc, ho2⟩ := own_less ho
  rw [List.length_map] at hv h1 hc ho2
  have HU : Hid (UGo w (w.setCell ⟨ub, 2, none⟩ (.slice (some ⟨g, 0, none⟩) l.length cap)) B L ub u.cut) := by
    have := (x.wait (Below.refl _ _) (w2 := w) (tv2 := .slice (some ⟨g, 0, none⟩) l.length cap) (l := l) (Kept.refl _ _) ho2 (fun k hk => Or.inl (by rw [hv]; exact hk))).1
    have e3 : u.cut = { u with waits := l } := by unfold Und.cut; rw [hw, List.dropLast_concat]
    rw [e3]
    exact this
  rw [hv] at c2
  unfold maxLen at h2
  unfold uV at hc
  have hul := x.box.lt
  have hug : ¬ (ub = g) := fun e => by
    have a := x.l1
    have b := x.l6 g (by rw [hv]; rfl)
    rw [e] at a
    omega
  clear x ho ho2 hv hw e1 e2
  generalize l.length = n at *
  go_enter Tryz.func64, Tryz.ntmps64
  go_wp2
  go_ret
  exact ⟨rfl, HU.out⟩
set_option maxRecDepth 20000 in
set_option maxHeartbeats 1000000 in
theorem put_old (x : UX w B L ub mv wv mb ov tv u) (s : Nat) (hs : s ∈ u.row) :
    Calls Tryz.prog 88 #[.int .u64 (s : Int), .pointer (some ⟨mv, 0, none⟩), .pointer (some ⟨wv, 0, none⟩)] w fun e w' => e = .returned (.tuple #[]) ∧ UGo w w' B L ub (u.put s) := by
  have m0 := x.m0
  have hl := x.look s
  rw [decide_eq_true hs] at hl
  have HU : Hid (∀ W, Below w.heap.size w W → UGo w W B L ub (u.put s)) := fun W hB => by
    have e : u.put s = u := if_pos hs
    rw [e]
    exact UN.go ⟨_, _, _, _, _, x⟩ hB
  clear x hs
  go_enter Tryz.func88, Tryz.ntmps88
  go_wp2
  (try simp only [Exit.inBlock, Exit.then]); refine bodyPost_ret (results_none rfl _ _ _) rfl ?_
  exact ⟨rfl, HU.out _ (bel_alloc _ _)⟩
theorem UGo.since {w2 w' : World} {u' : Und} (hk : Kept w w2 (fun k => L k = 1 ∨ L k = 4 ∨ L k = 5 ∨ L k = 6)) (hlo : ∀ k, L k < 9 → k < w.heap.size) (g : UGo w2 w' B L ub u') : UGo w w' B L ub u' := by
  obtain ⟨L', x, a, b⟩ := g.ex
  have hs := hk.size
  refine ⟨⟨L', x, fun k h => a k (by omega), fun k h => ?_⟩, hk.trans g.kept (fun _ _ e => e)⟩
  by_cases e : k < w2.heap.size
  · rw [a k e]
    have h1 : ¬ L k < 9 := fun h2 => by have := hlo k h2; omega
    omega
  · exact b k (by omega)
set_option maxRecDepth 20000 in
set_option maxHeartbeats 1000000 in
theorem put_new (x : UX w B L ub mv wv mb ov tv u) (hB : B ≤ w.heap.size) (s : Nat) (hs : ¬ s ∈ u.row) (hn : u.waits.length ≤ 1000000) :
    Calls Tryz.prog 88 #[.int .u64 (s : Int), .pointer (some ⟨mv, 0, none⟩), .pointer (some ⟨wv, 0, none⟩)] w fun e w' => e = .returned (.tuple #[]) ∧ UGo w w' B L ub (u.put s) := by
  have hput : u.put s = { u with row := u.row ++ [s], waits := u.waits ++ [s] } := if_neg hs
  rw [hput]
  have m0 := x.m0
  have hl := x.look s
  rw [decide_eq_false hs] at hl
  obtain ⟨w1, hw1⟩ : ∃ z, z = w.alloc (.cells #[] 169) := ⟨_, rfl⟩
  have b1 : Below w.heap.size w w1 := by rw [hw1]; exact bel_alloc _ _
  have x1 := x.below b1
  obtain ⟨o, o', hb0, hU, hX⟩ := x1.more s hs
  obtain ⟨x2, k2⟩ := hX w1 x1
  have hU1 := hU _ hb0
  have m1 := x1.m0
  have z1 := b1.size
  have z2 := k2.size
  have HW : Hid (w.alloc (.cells #[] 169) = w1) := hw1.symm
  have HK : Hid (Kept w (ChangeMaps.setBlock w1 mb o') (fun k => L k = 1 ∨ L k = 4 ∨ L k = 5 ∨ L k = 6)) := (kept_of_below b1 _).trans k2 (fun k _ e => by
    have e' : k = mb := e
    rw [e', x.l4]
    omega)
  have HLo : Hid (∀ k, L k < 9 → k < w.heap.size) := fun k e => (x.lo k e).2
  clear hU hX hb0 x x1 b1 k2 hput hs hw1
  obtain ⟨i, hi, hz0, hz1, hz2⟩ := info_parts Tryz.infoU
  go_enter Tryz.func88, Tryz.ntmps88
  go_upto_region 2 with fail
  rw [HW.out]
  go_upto_region 3 with fail
  generalize ChangeMaps.setBlock w1 mb o' = w2 at *
  have v0 := x2.v0
  have c2 := x2.c2
  have hvl := cell_lt v0
  have hul := cell_lt c2
  have HOW : Hid (∀ W : World, Below w2.heap.size w2 W → W.ownsRow B 44 1 tv u.waits.length (u.waits.map uV)) := fun W hW => own_kept x2.ow (kept_of_below hW (fun _ => False)) (fun _ _ => id)
  have q1 : ∀ o, Below w2.heap.size w2 (w2.alloc o).drew := fun o => (bel_alloc w2 o).trans ((below_drew0 _).mono (by simp))
  have HT : Hid (∀ o v5 w5, w5.ownsRow B 44 1 v5 (u.waits.length + 1) (u.waits.map uV ++ [uV s]) → Kept (w2.alloc o).drew w5 (fun k => tv.ownBlock = some k) → Moved (w2.alloc o).drew tv v5 → UGo w (w5.setCell ⟨ub, 2, none⟩ v5) B L ub ⟨u.inn, u.row ++ [s], u.waits ++ [s], u.outs⟩ ∧ w5.cell? ⟨ub, 2, none⟩ = some tv ∧ w5.frozen? ⟨ub, 2, none⟩ = false ∧ w5.cell? ⟨wv, 0, none⟩ = some (.pointer (some ⟨ub, 0, none⟩))) := fun o v5 w5 ho hk hm => by
    have e1 : u.waits.map uV ++ [uV s] = (u.waits ++ [s]).map uV := by simp
    have e2 : u.waits.length + 1 = (u.waits ++ [s]).length := by simp
    rw [e1, e2] at ho
    obtain ⟨g, h1, h2⟩ := x2.wait (q1 o) hk ho hm
    have h3 := cell_kept ((q1 o).cell (p := ⟨wv, 0, none⟩) hvl |>.trans v0) hk (fun e => by have := x2.l6 _ e; have := x2.l3; omega)
    exact ⟨g.since HK.out HLo.out, h1, h2, h3⟩
  have HS : Hid (Sr (w2.alloc (.cells #[.int .u64 (s : Int)] 44)).drew (.slice (some ⟨w2.heap.size, 0, none⟩) 1 1) 1 1 [uV s]) := (sr_val w2 (uV s) rfl _).below (below_drew0 _)
  obtain ⟨ao, cap, hv, _⟩ := own_slice x2.ow
  have HV : Hid (tv = .slice ao u.waits.length cap) := hidden hv
  have hBz : B ≤ w2.heap.size := by omega
  rw [hv] at c2
  clear x2 hU1 m1 m0 hl hv q1
  generalize u.waits.map uV = ws at *
  generalize u.waits.length = n at *
  clear HK HLo HW
  go_region_law (refine step_append_sr rfl (.tmp 20) (.tmp 22) 45 rfl 44 i (.int .u64 0) 1 8 Tryz.underlying45 hi hz0 hz1 hz2 rfl (by omega) B tv n ws (by simp [Act.eval, HV.out]) (HOW.out _ ((bel_alloc w2 _).trans ((below_drew0 _).mono (by simp)))) _ 1 [uV s] rfl HS.out (by omega) (by omega) (by simp [World.drew]; omega) ?_; intro v5 w5 ho5 hk5 hm5; obtain ⟨g5, e5, e6, e7⟩ := HT.out _ v5 w5 ho5 hk5 hm5; have u5 := cell_lt e5; have u7 := cell_lt e7; have HG : Hid _ := hidden g5; clear g5 hk5 hm5; obtain ⟨ao5, n5, c5, hv5⟩ := own_form ho5; subst hv5; clear ho5)
  all_goals
    go_end0
    exact ⟨rfl, HG.out⟩
theorem put_any (x : UX w B L ub mv wv mb ov tv u) (hB : B ≤ w.heap.size) (s : Nat) (hn : u.waits.length ≤ 1000000) :
    Calls Tryz.prog 88 #[.int .u64 (s : Int), .pointer (some ⟨mv, 0, none⟩), .pointer (some ⟨wv, 0, none⟩)] w fun e w' => e = .returned (.tuple #[]) ∧ UGo w w' B L ub (u.put s) := by
  by_cases hs : s ∈ u.row
  · exact put_old x s hs
  · exact put_new x hB s hs hn
end
end Go.Proofs.YtlabdbfmfejkaaaGreatDoor
