import Derived.Test.YtdafpfdmnccelaaDoorPbDP
import Derived.Deep.CutRange
import Derived.Deep.CutBlock
/- The plain stack within a paint: Pop. -/
/- The plain paint: its blocks; NewPaint, Turn; marks that are written. -/
/- The plain Blacken, Forget. -/
/- The plain Forget. -/
namespace Go.Proofs.YtdafpfdmnccelaaDoor
open Go.RowKit

section
variable {w w1 : World} {qb rb base : Nat} {sv mv kv vv : Value} {p : PSt} {L : List ((Int × Nat) × Nat)}
theorem RQ.popd (x : RQ w qb rb base sv mv kv vv p L) {l : List Nat} {a : Nat} (e : p.stk = l ++ [a]) : ∃ g cap, sv = .slice (some ⟨g, 0, none⟩) (l.length + 1) cap ∧ l.length + 1 ≤ cap ∧ cap ≤ maxLen ∧ g ≠ qb ∧ g < w.heap.size ∧ w.cell? ⟨g, l.length, none⟩ = some (.int .u64 (a : Int)) ∧
    ∀ w1, Below w.heap.size w w1 → RQ (w1.setCell ⟨qb, 2, none⟩ (.slice (some ⟨g, 0, none⟩) l.length cap)) qb rb base (.slice (some ⟨g, 0, none⟩) l.length cap) mv kv vv { p with stk := l } L ∧ Kept w (w1.setCell ⟨qb, 2, none⟩ (.slice (some ⟨g, 0, none⟩) l.length cap)) (qBl qb sv mv kv vv) := by
  have hl : p.stk.length = l.length + 1 := by rw [e]; simp
  obtain ⟨o1, o2, o3, o4⟩ := x.offq
  have hsl := x.sl
  rw [hl] at hsl
  rcases hsl.2 with ⟨_, h0⟩ | ⟨g, cap, cur, hv, hb, hg, hn, hm, hs, ht⟩
  · omega
  · have hgq : g ≠ qb := by intro e; subst e; exact o1 (by rw [hv]; rfl)
    rw [Nat.mul_one] at hs ht
    have hat : cur.toList[l.length]? = some (.int .u64 (a : Int)) := by
      have h2 : (cur.toList.take (l.length + 1))[l.length]? = some (.int .u64 (a : Int)) := by rw [ht, e]; simp [uV]
      rwa [List.getElem?_take_of_lt (by omega)] at h2
    have htl : cur.toList.take l.length = l.map uV := by
      have h2 : (cur.toList.take (l.length + 1)).take l.length = l.map uV := by rw [ht, e]; simp
      rwa [List.take_take, Nat.min_eq_left (by omega)] at h2
    refine ⟨g, cap, hv, hn, hm, hgq, (Array.getElem?_eq_some_iff.1 hg).1, ?_, fun w1 hb1 => ?_⟩
    · rw [cell_of_row w g _ _ _ _ hg]
      simpa using hat
    · have y := x.below hb1
      have hk : Kept w1 (w1.setCell ⟨qb, 2, none⟩ (.slice (some ⟨g, 0, none⟩) l.length cap)) (fun k => k = qb) := Kept.setCell _ _ _
      have hno : ∀ {v : Value}, v.ownBlock ≠ some qb → ∀ k, v.ownBlock = some k → ¬ (k = qb) := fun h k e e' => h (by rw [e, e'])
      have hg1 : w1.heap[g]? = some (.cells cur 39 (0, 0)) := (hb1.block g (Array.getElem?_eq_some_iff.1 hg).1).trans hg
      have hown : w1.ownsRow base 39 1 (.slice (some ⟨g, 0, none⟩) l.length cap) l.length (l.map uV) := ⟨by simp, Or.inr ⟨g, cap, cur, rfl, hb, hg1, by omega, hm, by rw [Nat.mul_one]; exact hs, by rw [Nat.mul_one]; exact htl⟩⟩
      have hq1 : (Value.slice (some ⟨g, 0, none⟩) l.length cap).ownBlock ≠ some qb := fun e => hgq (by simpa [Value.ownBlock] using e)
      have hsv : sv.ownBlock = some g := by rw [hv]; rfl
      refine ⟨⟨y.box.set 2 _, own_kept hown hk (hno hq1), own_kept y.ml hk (hno o2), own_kept y.kl hk (hno o3), own_kept y.vl hk (hno o4), y.srt, fun k => ⟨fun e => ?_, (y.d k).2⟩, y.ge, by have := x.few.1; show l.length ≤ p.M; omega, y.few.2⟩, (kept_of_below hb1 _).trans hk (fun _ _ e => Or.inl e)⟩
      have e' : g = k := by simpa [Value.ownBlock] using e
      subst e'
      exact (y.d g).1 hsv
end
end Go.Proofs.YtdafpfdmnccelaaDoor

namespace Go.Proofs.YtdafpfdmnccelaaDoor
open Go.RowKit

/-- A plain paint and its blocks. -/
structure QN (w : World) (qb rb base : Nat) (G : Nat → Prop) (p : PSt) : Prop where
  ex : ∃ sv mv kv vv L, RQ w qb rb base sv mv kv vv p L ∧ ∀ k, G k ↔ qBl qb sv mv kv vv k
/-- What became of it. -/
structure QGo (w w' : World) (qb rb base : Nat) (G : Nat → Prop) (p : PSt) : Prop where
  ex : ∃ G', QN w' qb rb base G' p ∧ ∀ k, G' k → G k ∨ w.heap.size ≤ k
  kept : Kept w w' G
section
variable {w w' w1 : World} {qb rb base : Nat} {sv mv kv vv sv' mv' kv' vv' : Value} {p p' : PSt} {L L' : List ((Int × Nat) × Nat)} {G S : Nat → Prop}
theorem RQ.qn (x : RQ w qb rb base sv mv kv vv p L) : QN w qb rb base (qBl qb sv mv kv vv) p := ⟨sv, mv, kv, vv, L, x, fun _ => Iff.rfl⟩
theorem QN.kept (x : QN w qb rb base G p) (hk : Kept w w' S) (hs : ∀ k, G k → ¬ S k) : QN w' qb rb base G p := by
  obtain ⟨sv, mv, kv, vv, L, hx, hG⟩ := x.ex
  exact ⟨sv, mv, kv, vv, L, hx.kept hk (fun k h => hs k ((hG k).2 h)), hG⟩
theorem QN.below (x : QN w qb rb base G p) (hB : Below w.heap.size w w') : QN w' qb rb base G p := x.kept (kept_of_below hB (fun _ => False)) (fun _ _ => id)
theorem QN.lt (x : QN w qb rb base G p) : ∀ k, G k → k < w.heap.size := by
  obtain ⟨sv, mv, kv, vv, L, hx, hG⟩ := x.ex
  exact fun k h => hx.lt k ((hG k).1 h)
theorem QN.ge (x : QN w qb rb base G p) : ∀ k, G k → base ≤ k := by
  obtain ⟨sv, mv, kv, vv, L, hx, hG⟩ := x.ex
  exact fun k h => hx.gek k ((hG k).1 h)
theorem QN.stay (x : QN w qb rb base G p) (hB : Below w.heap.size w w') : QGo w w' qb rb base G p := ⟨⟨G, x.below hB, fun _ h => Or.inl h⟩, kept_of_below hB _⟩
theorem QGo.trans {G1 : Nat → Prop} (h1 : ∀ k, G1 k → G k ∨ w.heap.size ≤ k) (k1 : Kept w w1 G) (h2 : QGo w1 w' qb rb base G1 p) : QGo w w' qb rb base G p := by
  obtain ⟨G2, hp, hG2⟩ := h2.ex
  refine ⟨⟨G2, hp, fun k hk => ?_⟩, k1.trans h2.kept (fun i hi e => ?_)⟩
  · rcases hG2 k hk with e | e
    · exact h1 k e
    · exact Or.inr (Nat.le_trans k1.size e)
  · rcases h1 i e with e | e
    · exact e
    · omega
theorem RQ.went (x : RQ w' qb rb base sv' mv' kv' vv' p' L') (hk : Kept w w' (qBl qb sv mv kv vv)) (hs : Moved w sv sv') (hm : Moved w mv mv') (hkk : Moved w kv kv') (hv : Moved w vv vv') : QGo w w' qb rb base (qBl qb sv mv kv vv) p' := by
  refine ⟨⟨_, x.qn, fun k hk => ?_⟩, hk⟩
  rcases hk with hk | hk | hk | hk | hk
  · exact Or.inl (Or.inl hk)
  · rcases hs k hk with e | e
    · exact Or.inl (Or.inr (Or.inl e))
    · exact Or.inr e
  · rcases hm k hk with e | e
    · exact Or.inl (Or.inr (Or.inr (Or.inl e)))
    · exact Or.inr e
  · rcases hkk k hk with e | e
    · exact Or.inl (Or.inr (Or.inr (Or.inr (Or.inl e))))
    · exact Or.inr e
  · rcases hv k hk with e | e
    · exact Or.inl (Or.inr (Or.inr (Or.inr (Or.inr e))))
    · exact Or.inr e
/-- The marks are another list. -/
theorem RQ.marks (x : RQ w qb rb base sv mv kv vv p L) {l : List (Nat × (Nat × Bool))} (hk : Kept w w1 (fun k => mv.ownBlock = some k)) (ho : w1.ownsRow base 113 3 mv' l.length (msV l)) (hm : Moved w mv mv') (hl : l.length ≤ 1000000) :
    (RQ (w1.setCell ⟨qb, 5, none⟩ mv') qb rb base sv mv' kv vv { p with ma := l } L ∧ Kept w (w1.setCell ⟨qb, 5, none⟩ mv') (qBl qb sv mv kv vv)) ∧ w1.cell? ⟨qb, 5, none⟩ = some mv ∧ w1.frozen? ⟨qb, 5, none⟩ = false ∧ qb < w1.heap.size := by
  obtain ⟨o1, o2, o3, o4⟩ := x.offq
  have hlt := x.lt
  have hkb : Kept w1 (w1.setCell ⟨qb, 5, none⟩ mv') (fun k => k = qb) := Kept.setCell _ _ _
  have hno : ∀ {v : Value}, v.ownBlock ≠ some qb → ∀ k, v.ownBlock = some k → ¬ (k = qb) := fun h k e e' => h (by rw [e, e'])
  have b1 := x.box.kept hk o2
  have hq1 : mv'.ownBlock ≠ some qb := fun e => by
    rcases hm qb e with e | e
    · exact o2 e
    · have := x.box.lt; omega
  have s1 := own_kept x.sl hk (fun k e e' => ((x.d k).1 e).2.1 e')
  have k1 := own_kept x.kl hk (fun k e e' => ((x.d k).2.1 e').2.1 e)
  have v1 := own_kept x.vl hk (fun k e e' => ((x.d k).2.1 e').2.2 e)
  refine ⟨⟨⟨b1.set 5 mv', own_kept s1 hkb (hno o1), own_kept ho hkb (hno hq1), own_kept k1 hkb (hno o3), own_kept v1 hkb (hno o4), x.srt, fun k => ⟨fun e => ?_, fun e => ?_, (x.d k).2.2⟩, x.ge, x.few.1, x.few.2.1, x.few.2.2.1, hl, x.few.2.2.2.2⟩, (hk.mono (fun k _ e => Or.inr (Or.inr (Or.inl e)))).trans hkb (fun _ _ e => Or.inl e)⟩, b1.cell 5 (by simp), b1.frozen 5, b1.lt⟩
  · obtain ⟨d1, d2, d3, d4⟩ := (x.d k).1 e
    refine ⟨d1, fun e' => ?_, d3, d4⟩
    rcases hm k e' with e' | e'
    · exact d2 e'
    · have := hlt k (Or.inr (Or.inl e)); omega
  · rcases hm k e with e' | e'
    · exact (x.d k).2.1 e'
    · refine ⟨fun e2 => ?_, fun e2 => ?_, fun e2 => ?_⟩
      · have := x.box.lt; omega
      · have := hlt k (Or.inr (Or.inr (Or.inr (Or.inl e2)))); omega
      · have := hlt k (Or.inr (Or.inr (Or.inr (Or.inr e2)))); omega
theorem msV_set (l : List (Nat × (Nat × Bool))) (i s r : Nat) (g : Bool) (hi : i < l.length) (hs : l[i].1 = s) : msV (l.set i (s, (r, g))) = ((msV l).set (i * 3 + 1) (.int .i64 (r : Int))).set (i * 3 + 2) (.bool g) := by
  induction l generalizing i with
  | nil => simp at hi
  | cons x l ih =>
    cases i with
    | zero =>
      simp only [List.getElem_cons_zero] at hs
      subst hs
      rfl
    | succ i =>
      have h := ih i (by simpa using hi) (by simpa using hs)
      have e1 : (i + 1) * 3 + 1 = i * 3 + 1 + 3 := by omega
      have e2 : (i + 1) * 3 + 2 = i * 3 + 2 + 3 := by omega
      rw [e1, e2]
      show m3V x ++ msV (l.set i (s, (r, g))) = ((m3V x ++ msV l).set (i * 3 + 1 + 3) _).set (i * 3 + 2 + 3) _
      rw [h]
      rfl
/-- One mark is written. -/
theorem RQ.mark (x : RQ w qb rb base sv mv kv vv p L) {i s : Nat} {m : Nat × Bool} {g cap n : Nat} (hi : p.ma[i]? = some (s, m)) (hv : mv = .slice (some ⟨g, 0, none⟩) n cap) (r' : Nat) (g' : Bool) :
    (RQ ((w.setCell ⟨g, i * 3 + 1, none⟩ (.int .i64 (r' : Int))).setCell ⟨g, i * 3 + 2, none⟩ (.bool g')) qb rb base sv mv kv vv { p with ma := p.ma.set i (s, (r', g')) } L ∧ Kept w ((w.setCell ⟨g, i * 3 + 1, none⟩ (.int .i64 (r' : Int))).setCell ⟨g, i * 3 + 2, none⟩ (.bool g')) (qBl qb sv mv kv vv)) ∧
    w.cell? ⟨g, i * 3 + 1, none⟩ = some (.int .i64 (m.1 : Int)) ∧ w.cell? ⟨g, i * 3 + 2, none⟩ = some (.bool m.2) ∧ w.frozen? ⟨g, i * 3 + 1, none⟩ = false ∧ w.frozen? ⟨g, i * 3 + 2, none⟩ = false ∧ g < w.heap.size ∧ g ≠ qb := by
  obtain ⟨hi', he⟩ := List.getElem?_eq_some_iff.1 hi
  obtain ⟨o1, o2, o3, o4⟩ := x.offq
  have hg : mv.ownBlock = some g := by rw [hv]; rfl
  have hgq : g ≠ qb := fun e => o2 (by rw [hg, e])
  obtain ⟨g2, cap2, hv2, _, hgl, _, hc, hf⟩ := ownc_cell x.ml (by omega)
  rw [hv] at hv2
  simp only [Value.slice.injEq, Option.some.injEq, Addr.mk.injEq] at hv2
  have eg : g = g2 := hv2.1.1
  subst eg
  have hat := msV_at p.ma i hi'
  rw [he] at hat
  have hk : Kept w ((w.setCell ⟨g, i * 3 + 1, none⟩ (.int .i64 (r' : Int))).setCell ⟨g, i * 3 + 2, none⟩ (.bool g')) (fun k => mv.ownBlock = some k) := (Kept.setCell w ⟨g, i * 3 + 1, none⟩ (.int .i64 (r' : Int))).trans (Kept.setCell _ ⟨g, i * 3 + 2, none⟩ (.bool g')) (fun _ _ e => e) |>.mono (fun k _ e => by
    have e' : k = g := e
    rw [hg, e'])
  have hml : ((w.setCell ⟨g, i * 3 + 1, none⟩ (.int .i64 (r' : Int))).setCell ⟨g, i * 3 + 2, none⟩ (.bool g')).ownsRow base 113 3 mv (p.ma.set i (s, (r', g'))).length (msV (p.ma.set i (s, (r', g')))) := by
    rw [List.length_set, msV_set p.ma i s r' g' hi' (by rw [he])]
    rcases x.ml.2 with ⟨h0, _⟩ | ⟨g3, cap3, cur, hv3, hb3, hg3, hn3, hm3, hs3, ht3⟩
    · rw [h0] at hg; cases hg
    · have e3 : g3 = g := by rw [hv3] at hg; simpa [Value.ownBlock] using hg
      subst e3
      have hs1 : (w.setCell ⟨g3, i * 3 + 1, none⟩ (.int .i64 (r' : Int))).heap[g3]? = some (.cells (cur.setIfInBounds (i * 3 + 1) (.int .i64 (r' : Int))) 113 (0, 0)) := heap_setCell_same w g3 _ _ _ _ hg3
      have hs2 := heap_setCell_same _ g3 (i * 3 + 2) _ _ (.bool g') hs1
      refine ⟨by rw [List.length_set, List.length_set]; exact x.ml.1, Or.inr ⟨g3, cap3, _, hv3, hb3, hs2, hn3, hm3, by simpa using hs3, ?_⟩⟩
      rw [Array.toList_setIfInBounds, Array.toList_setIfInBounds, List.take_set, List.take_set, ht3]
  refine ⟨⟨⟨x.box.kept hk o2, own_kept x.sl hk (fun k e e' => ((x.d k).1 e).2.1 e'), hml, own_kept x.kl hk (fun k e e' => ((x.d k).2.1 e').2.1 e), own_kept x.vl hk (fun k e e' => ((x.d k).2.1 e').2.2 e), x.srt, x.d, x.ge, x.few.1, x.few.2.1, x.few.2.2.1, by rw [List.length_set]; exact x.few.2.2.2.1, x.few.2.2.2.2⟩, hk.mono (fun k _ e => Or.inr (Or.inr (Or.inl e)))⟩, hc _ _ hat.2.1, hc _ _ hat.2.2, hf _, hf _, hgl, hgq⟩
/-- Put at a key that is there, or is not. -/
theorem putA_set {κ β : Type} [DecidableEq κ] {l : List (κ × β)} (hnd : (l.map (·.1)).Nodup) {i : Nat} {s : κ} {m v : β} (hi : l[i]? = some (s, m)) : putA l s v = l.set i (s, v) := by
  have hs : (getA l s).isSome = true := by
    unfold getA
    rw [Option.isSome_map, List.find?_isSome]
    exact ⟨_, List.mem_of_getElem? hi, by simp⟩
  unfold putA
  rw [if_pos hs]
  apply List.ext_getElem?
  intro j
  rw [List.getElem?_map, List.getElem?_set]
  obtain ⟨hi', he⟩ := List.getElem?_eq_some_iff.1 hi
  by_cases e : i = j
  · subst e
    rw [if_pos rfl, if_pos hi', hi]
    simp
  · rw [if_neg e]
    cases hj : l[j]? with
    | none => rfl
    | some y =>
      obtain ⟨hj', hej⟩ := List.getElem?_eq_some_iff.1 hj
      have hne : ¬ y.1 = s := by
        intro hc
        have hnd' : (l.map (·.1)).Pairwise (· ≠ ·) := hnd
        rw [List.pairwise_iff_getElem] at hnd'
        rcases Nat.lt_or_gt_of_ne e with h | h
        · have := hnd' i j (by simpa using hi') (by simpa using hj') h
          rw [List.getElem_map, List.getElem_map, he, hej] at this
          exact this hc.symm
        · have := hnd' j i (by simpa using hj') (by simpa using hi') h
          rw [List.getElem_map, List.getElem_map, he, hej] at this
          exact this hc
      rw [Option.map_some, if_neg hne]
theorem putA_new {κ β : Type} [DecidableEq κ] {l : List (κ × β)} {s : κ} {v : β} (h : getA l s = none) : putA l s v = l ++ [(s, v)] := by
  unfold putA
  rw [h]
  rfl
theorem putA_nodup {κ β : Type} [DecidableEq κ] {l : List (κ × β)} (hnd : (l.map (·.1)).Nodup) (s : κ) (v : β) : ((putA l s v).map (·.1)).Nodup := by
  unfold putA
  split
  · rw [List.map_map]
    have e : l.map ((fun x : κ × β => x.1) ∘ fun p => if p.1 = s then (s, v) else p) = l.map (·.1) := by
      apply List.map_congr_left
      intro p _
      simp only [Function.comp]
      split
      · next e => exact e.symm
      · rfl
    rw [e]
    exact hnd
  · next h =>
    have hn : getA l s = none := by simpa using h
    unfold getA at hn
    rw [Option.map_eq_none_iff, List.find?_eq_none] at hn
    rw [List.map_append, List.nodup_append]
    refine ⟨hnd, by simp, fun a ha b hb => ?_⟩
    simp only [List.map_cons, List.map_nil, List.mem_singleton] at hb
    subst hb
    obtain ⟨p, hp, rfl⟩ := List.mem_map.1 ha
    simpa using hn p hp
set_option maxRecDepth 20000 in
set_option maxHeartbeats 400000 in
theorem rnewp_any (M : Nat) (h1 : 1 ≤ M) (h2 : M ≤ 64) (rb base : Nat) (w : World) (hbase : base ≤ w.heap.size) :
    Calls Tryd.prog 12 #[.pointer (some ⟨rb, 0, none⟩), .int .i64 (M : Int)] w fun e w' => e = .returned (.pointer (some ⟨w.heap.size, 0, none⟩)) ∧ RQ w' w.heap.size rb base (.slice none 0 0) (.slice none 0 0) (.slice none 0 0) (.slice none 0 0) (PSt.new M) [] ∧ Below w.heap.size w w' := by
  go_enter Tryd.func12, Tryd.ntmps12
  go_wp2
  go_ret
  have hb := bel_alloc w (.cells #[.pointer (some ⟨rb, 0, none⟩), .int .i64 (M : Int), .slice none 0 0, .bool false, .int .u64 0, .slice none 0 0, .int .i64 1048576, .slice none 0 0, .slice none 0 0] 100)
  refine ⟨rfl, ⟨heap_alloc_new w _, ⟨rfl, Or.inl ⟨rfl, rfl⟩⟩, ⟨rfl, Or.inl ⟨rfl, rfl⟩⟩, ⟨rfl, Or.inl ⟨rfl, rfl⟩⟩, ⟨rfl, Or.inl ⟨rfl, rfl⟩⟩, ⟨List.Perm.refl _, List.Pairwise.nil⟩, fun k => ⟨(fun e => (by cases e)), (fun e => (by cases e)), (fun e => (by cases e)), (fun e => (by cases e))⟩, hbase, Nat.zero_le _, h1, h2, Nat.zero_le _, Nat.zero_le _⟩, hb⟩
end
end Go.Proofs.YtdafpfdmnccelaaDoor

namespace Go.Proofs.YtdafpfdmnccelaaDoor
open Go.RowKit

theorem Tryd.infoMark : (Tryd.prog.info? 113).map (fun i => (i.zero, i.size, i.bytes)) = some (some (.agg #[.int .u64 0, .int .i64 0, .bool false]), 3, 24) := by kernel_rfl
theorem m3V_one (e : Nat × (Nat × Bool)) : ∀ u ∈ m3V e, u.oneCell' = true := by
  intro u hu
  simp only [m3V, List.mem_cons, List.not_mem_nil, or_false] at hu
  rcases hu with rfl | rfl | rfl <;> rfl
theorem sr_mark (w : World) (s r : Nat) (g : Bool) (T : TypeId) : Sr (w.alloc (.cells #[.int .u64 (s : Int), .int .i64 (r : Int), .bool g] T)) (.slice (some ⟨w.heap.size, 0, none⟩) 1 1) 3 1 (m3V (s, (r, g))) := by
  have h := heap_alloc_new w (.cells #[.int .u64 (s : Int), .int .i64 (r : Int), .bool g] T)
  refine ⟨rfl, Or.inr ⟨⟨w.heap.size, 0, none⟩, 1, rfl, fun j u hu => ?_⟩, m3V_one _⟩
  rw [Addr.add_at, Nat.zero_add, cell_of_row _ _ _ _ _ _ h]
  simpa [m3V] using hu
section
variable {w w' w1 : World} {qb rb base ra rc rt : Nat} {sv mv kv vv lv : Value} {p : PSt} {L : List ((Int × Nat) × Nat)} {h : HSt} {M : List Pl}
/-- What a longer list of marks makes of it. -/
theorem RQ.more (x : RQ w qb rb base sv mv kv vv p L) (s r : Nat) (g : Bool) (hl : p.ma.length < 1000000) {w0 : World} (hb : Below w.heap.size w w0) {mv' : Value} (ho : w1.ownsRow base 113 3 mv' (p.ma.length + 1) (msV p.ma ++ m3V (s, (r, g)))) (hk : Kept w0 w1 (fun k => mv.ownBlock = some k)) (hm : Moved w0 mv mv') :
    (RQ (w1.setCell ⟨qb, 5, none⟩ mv') qb rb base sv mv' kv vv { p with ma := p.ma ++ [(s, (r, g))] } L ∧ Kept w (w1.setCell ⟨qb, 5, none⟩ mv') (qBl qb sv mv kv vv) ∧ Moved w mv mv') ∧ w1.cell? ⟨qb, 5, none⟩ = some mv ∧ w1.frozen? ⟨qb, 5, none⟩ = false ∧ qb < w1.heap.size := by
  have e1 : msV p.ma ++ m3V (s, (r, g)) = msV (p.ma ++ [(s, (r, g))]) := by rw [msV_app]; rfl
  have e2 : p.ma.length + 1 = (p.ma ++ [(s, (r, g))]).length := by simp
  rw [e1, e2] at ho
  obtain ⟨⟨h1, h2⟩, h3⟩ := (x.below hb).marks hk ho hm (by simp; omega)
  refine ⟨⟨h1, (kept_of_below hb _).trans h2 (fun _ _ => id), fun k e => ?_⟩, h3⟩
  rcases hm k e with e | e
  · exact Or.inl e
  · exact Or.inr (Nat.le_trans hb.size e)
end
end Go.Proofs.YtdafpfdmnccelaaDoor

namespace Go.Proofs.YtdafpfdmnccelaaDoor
open Go.RowKit

section
variable {w w' : World} {qb rb base : Nat} {sv mv kv vv : Value} {p : PSt} {L : List ((Int × Nat) × Nat)}
theorem delA_step {l : List (Nat × (Nat × Bool))} {s j : Nat} (hj : j < l.length) : delA (l.take (j + 1)) s = delA (l.take j) s ++ (if l[j].1 = s then [] else [l[j]]) := by
  unfold delA
  rw [List.take_succ_eq_append_getElem hj, List.filter_append]
  congr 1
  by_cases e : l[j].1 = s
  · simp [e]
  · simp [e]
/-- The rest of the marks, in memory of its own. -/
structure FR (w0 w : World) (B : Nat) (v : Value) (l : List (Nat × (Nat × Bool))) : Prop where
  own : w.ownsRow B 113 3 v l.length (msV l)
  bel : Below B w0 w
  le : B ≤ w.heap.size
set_option maxRecDepth 20000 in
set_option maxHeartbeats 2000000 in
theorem rforget_any (x : RQ w qb rb base sv mv kv vv p L) (s : Nat) :
    Calls Tryd.prog 58 #[.pointer (some ⟨qb, 0, none⟩), .int .u64 (s : Int)] w fun e w' => e = .returned (.tuple #[]) ∧ QGo w w' qb rb base (qBl qb sv mv kv vv) (p.forget s) := by
  have hql := x.box.lt
  have hbs : base ≤ w.heap.size := by have := x.ge; omega
  have hml := x.few.2.2.2.1
  obtain ⟨ao, cap, hmv⟩ := ownc_form x.ml
  have HC : Hid (∀ W : World, Below w.heap.size w W → W.cell? ⟨qb, 5, none⟩ = some mv ∧ ∀ i, i < p.ma.length → ∃ g, ao = some ⟨g, 0, none⟩ ∧ g < W.heap.size ∧ W.cell? ⟨g, i * 3, none⟩ = some (.int .u64 ((p.ma[i]?.getD (0, (0, false))).1 : Int)) ∧ W.cell? ⟨g, i * 3 + 1, none⟩ = some (.int .i64 ((p.ma[i]?.getD (0, (0, false))).2.1 : Int)) ∧ W.cell? ⟨g, i * 3 + 2, none⟩ = some (.bool (p.ma[i]?.getD (0, (0, false))).2.2)) := fun W hb => by
    have y := x.below hb
    refine ⟨y.box.cell 5 (by simp), fun i hi => ?_⟩
    obtain ⟨g, cap', e, _, h2, _, h3, _⟩ := ownc_cell y.ml (by omega)
    rw [hmv] at e
    simp only [Value.slice.injEq] at e
    have hat := msV_at p.ma i hi
    rw [List.getElem?_eq_getElem hi]
    exact ⟨g, e.1, h2, h3 _ _ hat.1, h3 _ _ hat.2.1, h3 _ _ hat.2.2⟩
  have HF : Hid (∀ W v, FR w W w.heap.size v (delA p.ma s) → QGo w (W.setCell ⟨qb, 5, none⟩ v) qb rb base (qBl qb sv mv kv vv) (p.forget s) ∧ W.cell? ⟨qb, 5, none⟩ = some mv ∧ W.frozen? ⟨qb, 5, none⟩ = false ∧ qb < W.heap.size) := fun W v hf => by
    have hm : Moved w mv v := fun j hj => Or.inr (ownc_lt hf.own j hj).1
    have mono3 : W.ownsRow base 113 3 v (delA p.ma s).length (msV (delA p.ma s)) := by
      refine ⟨hf.own.1, ?_⟩
      rcases hf.own.2 with h1 | ⟨g, cap, cur, h0, h2, h3⟩
      · exact Or.inl h1
      · exact Or.inr ⟨g, cap, cur, h0, Nat.le_trans hbs h2, h3⟩
    obtain ⟨⟨q1, q2⟩, q3⟩ := x.marks (kept_of_below hf.bel _) mono3 hm (Nat.le_trans (List.length_filter_le _ _) hml)
    exact ⟨q1.went q2 (Moved.refl _ _) hm (Moved.refl _ _) (Moved.refl _ _), q3⟩
  obtain ⟨i0, hi0, hz0, hz1, hz2⟩ := info_parts Tryd.infoMark
  subst hmv
  clear x
  go_enter Tryd.func58, Tryd.ntmps58
  go_wp2
  go_loopw [4, 5] (fun v t wr => ∃ (j : Nat), j ≤ p.ma.length ∧ t = .int .i64 (j : Int) ∧ FR w wr w.heap.size v (delA (p.ma.take j) s)) (fun _ t _ => p.ma.length - (intOf t).toNat)
  case atStart => exact ⟨0, Nat.zero_le _, rfl, ⟨rfl, Or.inl ⟨rfl, rfl⟩⟩, Below.refl _ _, Nat.le_refl _⟩
  case round =>
    obtain ⟨j, hj, rfl, hf⟩ := hrel
    obtain ⟨c5, hcell⟩ := HC.out wr hf.bel
    obtain ⟨ao2, cap2, hv2⟩ := ownc_form hf.own
    subst hv2
    by_cases hlt : (j : Int) < (p.ma.length : Int)
    · have hjl : j < p.ma.length := by omega
      obtain ⟨g, rfl, hgl, d0, d1, d2⟩ := hcell j hjl
      have hst := delA_step (s := s) hjl
      rw [List.getElem?_eq_getElem hjl] at d0 d1 d2
      simp only [Option.getD_some] at d0 d1 d2
      have hdl : (delA (p.ma.take j) s).length ≤ 1000000 := by
        have h1 := List.length_filter_le (fun q : Nat × (Nat × Bool) => decide (q.1 ≠ s)) (p.ma.take j)
        rw [List.length_take] at h1
        unfold delA
        omega
      have HL : Hid (j + 1 ≤ p.ma.length) := hjl
      have hwz := hf.le
      have HS : Hid _ := hidden hst
      have HFR : Hid _ := hidden hf
      clear hst hf hcell
      generalize p.ma[j] = mk at *
      clear hjl
      obtain ⟨ms, mr, mg⟩ := mk
      simp only at d0 d1 d2
      by_cases hms : ms = s
      · subst hms
        have HE : Hid (delA (p.ma.take (j + 1)) ms = delA (p.ma.take j) ms) := by
          have h := HS.out
          rw [if_pos rfl, List.append_nil] at h
          exact h
        clear HS
        generalize delA (p.ma.take j) ms = lj at *
        generalize lj.length = nj at *
        generalize p.ma.length = nm at *
        go_wp2
        go_roundw
        case rel => exact ⟨j + 1, HL.out, by go_num, by rw [HE.out]; exact HFR.out⟩
        case measure => have := HL.out; simp [intOf]; omega
      · have hne : ((ms : Int) == (s : Int)) = false := by rw [beq_eq_false_iff_ne]; omega
        have HE : Hid (delA (p.ma.take (j + 1)) s = delA (p.ma.take j) s ++ [(ms, (mr, mg))]) := by
          have h := HS.out
          rw [if_neg hms] at h
          exact h
        have HOW : Hid (∀ o, (wr.alloc o).ownsRow w.heap.size 113 3 (.slice ao2 (delA (p.ma.take j) s).length cap2) (delA (p.ma.take j) s).length (msV (delA (p.ma.take j) s))) := fun o => own_kept HFR.out.own (kept_of_below (bel_alloc _ o) (fun _ => False)) (fun _ _ => id)
        have HNX : Hid (∀ w1 v1 o, w1.ownsRow w.heap.size 113 3 v1 ((delA (p.ma.take j) s).length + 1) (msV (delA (p.ma.take j) s) ++ m3V (ms, (mr, mg))) → Kept (wr.alloc o) w1 (fun k => (Value.slice ao2 (delA (p.ma.take j) s).length cap2).ownBlock = some k) → FR w w1 w.heap.size v1 (delA (p.ma.take (j + 1)) s)) := fun w1 v1 o ho hk => by
          have hb : Below w.heap.size w (wr.alloc o) := HFR.out.bel.trans ((bel_alloc wr o).mono HFR.out.le)
          refine ⟨?_, hb.trans (hk.below (by have := HFR.out.le; simp; omega) (fun i hi e => by have := (ownc_lt HFR.out.own i e).1; omega)), by have h1 := hk.size; have h2 := HFR.out.le; simp at h1; omega⟩
          rw [HE.out, List.length_append, msV_app]
          exact ho
        clear HS HE
        generalize hlj : delA (p.ma.take j) s = lj at *
        clear hlj
        go_wp2_with (at_builtin; refine wpList_append_sr rfl (.tmp 25) (.tmp 33) 95 rfl 113 i0 _ 3 24 Tryd.underlying95 hi0 hz0 hz1 hz2 rfl (by omega) w.heap.size _ lj.length (msV lj) rfl (HOW.out _) _ 1 (m3V (ms, (mr, mg))) rfl (sr_mark wr ms mr mg _) (by omega) (by omega) (by simp; omega) ?_; intro v1 w1 ho1 hk1 hm1; have HN1 : Hid _ := hidden (HNX.out _ _ _ ho1 hk1); clear ho1 hk1 hm1)
        go_roundw
        case rel => exact ⟨j + 1, HL.out, by go_num, HN1.out⟩
        case measure => have := HL.out; simp [intOf]; omega
    · have hje : p.ma.take j = p.ma := List.take_of_length_le (by omega)
      rw [hje] at hf ⊢
      obtain ⟨q1, q2, q3, q4⟩ := HF.out _ _ hf
      have HQ : Hid _ := hidden q1
      clear q1 hf hje hcell HF HC
      go_wp2
      go_end0
      exact ⟨rfl, HQ.out⟩
end
end Go.Proofs.YtdafpfdmnccelaaDoor
