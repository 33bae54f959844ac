import Derived.Test.YtdafpfdmnccelaaDoorPbT
import Derived.Deep.CutRange
import Derived.Deep.CutBlock
import Derived.BigQuiet
import Derived.Test.YtdafpfdmnccelaaDoorPbDP
/- The plain Shade of any ID; Scan. -/
/- The law's ids; lists of Outs that are the same. -/
/- Lists of Outs that are the same. -/
/- The program's Blacken. -/
namespace Go.Proofs.YtdafpfdmnccelaaDoor
open Go.RowKit

/-- What every paint keeps. -/
structure PI (p : PSt) (k : Nat) : Prop where
  nd : (p.ma.map (·.1)).Nodup
  nm : ∀ e ∈ p.me, namesB e.1 = true
  ml : p.ma.length ≤ k
  el : p.me.length ≤ k
theorem push_ma (p : PSt) (s : Nat) : (p.push s).ma = p.ma ∧ (p.push s).me = p.me := by
  unfold PSt.push
  split <;> exact ⟨rfl, rfl⟩
theorem PI.push {p : PSt} {k : Nat} (H : PI p k) (s : Nat) : PI (p.push s) k := by
  obtain ⟨h1, h2⟩ := push_ma p s
  exact ⟨by rw [h1]; exact H.nd, by rw [h2]; exact H.nm, by rw [h1]; exact H.ml, by rw [h2]; exact H.el⟩
theorem PI.mono {p : PSt} {k k' : Nat} (H : PI p k) (h : k ≤ k') : PI p k' := ⟨H.nd, H.nm, Nat.le_trans H.ml h, Nat.le_trans H.el h⟩
theorem PI.putM {p : PSt} {k : Nat} (H : PI p k) (s : Nat) (m : Nat × Bool) : PI { p with ma := putA p.ma s m } (k + 1) :=
  ⟨putA_nodup H.nd s m, H.nm, by have := (putA_len p.ma s m).1; have := H.ml; show (putA p.ma s m).length ≤ k + 1; omega, by have := H.el; show p.me.length ≤ k + 1; omega⟩
theorem PI.putT {p : PSt} {k : Nat} (H : PI p k) (x : Int × Nat) (hx : namesB x = true) (r : Nat) : PI { p with me := putA p.me x r } (k + 1) := by
  refine ⟨H.nd, fun e he => ?_, by have := H.ml; show p.ma.length ≤ k + 1; omega, by have := (putA_len p.me x r).1; have := H.el; show (putA p.me x r).length ≤ k + 1; omega⟩
  have he' : e ∈ putA p.me x r := he
  unfold putA at he'
  split at he'
  · obtain ⟨q, hq, rfl⟩ := List.mem_map.1 he'
    split
    · exact hx
    · exact H.nm q hq
  · rcases List.mem_append.1 he' with h | h
    · exact H.nm e h
    · rw [List.mem_singleton] at h
      subst h
      exact hx
theorem PI.shade {p : PSt} {k : Nat} (H : PI p k) (h : HSt) (x : Int × Nat) (r : Int) : PI (p.shade h x r) (k + 1) := by
  have H1 := H.mono (Nat.le_succ k)
  unfold PSt.shade
  split
  · next hx =>
    split
    · unfold PSt.own
      split
      · split
        · exact (H.putM _ _).push _
        · split
          · exact H1
          · split
            · exact H.putM _ _
            · exact (H.putM _ _).push _
      · exact H1
    · unfold PSt.meet
      split
      · exact H.putT x hx _
      · split
        · exact H.putT x hx _
        · exact H1
  · exact H1
theorem PI.all {p : PSt} {k : Nat} (H : PI p k) (h : HSt) (l : List (Int × Nat)) (r : Nat) : PI (PSt.all h p l r) (k + l.length) := by
  unfold PSt.all
  induction l generalizing p k with
  | nil => exact H
  | cons x l ih =>
    have := ih (H.shade h x (r : Int))
    rw [List.foldl_cons, List.length_cons]
    exact this.mono (by omega)
theorem msV_grey (l : List (Nat × (Nat × Bool))) (i s : Nat) (m : Nat × Bool) (g : Bool) (hi : i < l.length) (hs : l[i] = (s, m)) : msV (l.set i (s, (m.1, g))) = (msV l).set (i * 3 + 2) (.bool g) := by
  induction l generalizing i with
  | nil => simp at hi
  | cons x l ih =>
    cases i with
    | zero =>
      simp only [List.getElem_cons_zero] at hs
      subst hs
      rfl
    | succ i =>
      have h := ih i (by simpa using hi) (by simpa using hs)
      have e2 : (i + 1) * 3 + 2 = i * 3 + 2 + 3 := by omega
      rw [e2]
      show m3V x ++ msV (l.set i (s, (m.1, g))) = (m3V x ++ msV l).set (i * 3 + 2 + 3) _
      rw [h]
      rfl
section
variable {w w' : World} {qb rb base ra rc rt : Nat} {sv mv kv vv lv : Value} {p : PSt} {L : List ((Int × Nat) × Nat)} {h : HSt} {M : List Pl} {G : Nat → Prop} {k : Nat}
/-- One mark is grey no more. -/
theorem RQ.grey (x : RQ w qb rb base sv mv kv vv p L) {i s : Nat} {m : Nat × Bool} {g cap n : Nat} (hi : p.ma[i]? = some (s, m)) (hv : mv = .slice (some ⟨g, 0, none⟩) n cap) (g' : Bool) :
    (RQ (w.setCell ⟨g, i * 3 + 2, none⟩ (.bool g')) qb rb base sv mv kv vv { p with ma := p.ma.set i (s, (m.1, g')) } L ∧ Kept w (w.setCell ⟨g, i * 3 + 2, none⟩ (.bool g')) (qBl qb sv mv kv vv)) ∧
    w.cell? ⟨g, i * 3 + 1, none⟩ = some (.int .i64 (m.1 : Int)) ∧ w.cell? ⟨g, i * 3 + 2, none⟩ = some (.bool m.2) ∧ w.frozen? ⟨g, i * 3 + 1, none⟩ = false ∧ w.frozen? ⟨g, i * 3 + 2, none⟩ = false ∧ g < w.heap.size ∧ g ≠ qb := by
  obtain ⟨hi', he⟩ := List.getElem?_eq_some_iff.1 hi
  obtain ⟨o1, o2, o3, o4⟩ := x.offq
  have hg : mv.ownBlock = some g := by rw [hv]; rfl
  have hgq : g ≠ qb := fun e => o2 (by rw [hg, e])
  obtain ⟨g2, cap2, hv2, _, hgl, _, hc, hf⟩ := ownc_cell x.ml (by omega)
  rw [hv] at hv2
  simp only [Value.slice.injEq, Option.some.injEq, Addr.mk.injEq] at hv2
  have eg : g = g2 := hv2.1.1
  subst eg
  have hat := msV_at p.ma i hi'
  rw [he] at hat
  have hk : Kept w (w.setCell ⟨g, i * 3 + 2, none⟩ (.bool g')) (fun k => mv.ownBlock = some k) := (Kept.setCell w ⟨g, i * 3 + 2, none⟩ (.bool g')).mono (fun k _ e => by
    have e' : k = g := e
    rw [hg, e'])
  have hml : (w.setCell ⟨g, i * 3 + 2, none⟩ (.bool g')).ownsRow base 113 3 mv (p.ma.set i (s, (m.1, g'))).length (msV (p.ma.set i (s, (m.1, g')))) := by
    rw [List.length_set, msV_grey p.ma i s m g' hi' he]
    rcases x.ml.2 with ⟨h0, _⟩ | ⟨g3, cap3, cur, hv3, hb3, hg3, hn3, hm3, hs3, ht3⟩
    · rw [h0] at hg; cases hg
    · have e3 : g3 = g := by rw [hv3] at hg; simpa [Value.ownBlock] using hg
      subst e3
      have hs2 := heap_setCell_same w g3 (i * 3 + 2) _ _ (.bool g') hg3
      refine ⟨by rw [List.length_set]; exact x.ml.1, Or.inr ⟨g3, cap3, _, hv3, hb3, hs2, hn3, hm3, by simpa using hs3, ?_⟩⟩
      rw [Array.toList_setIfInBounds, List.take_set, ht3]
  refine ⟨⟨⟨x.box.kept hk o2, own_kept x.sl hk (fun k e e' => ((x.d k).1 e).2.1 e'), hml, own_kept x.kl hk (fun k e e' => ((x.d k).2.1 e').2.1 e), own_kept x.vl hk (fun k e e' => ((x.d k).2.1 e').2.2 e), x.srt, x.d, x.ge, x.few.1, x.few.2.1, x.few.2.2.1, by rw [List.length_set]; exact x.few.2.2.2.1, x.few.2.2.2.2⟩, hk.mono (fun k _ e => Or.inr (Or.inr (Or.inl e)))⟩, hc _ _ hat.2.1, hc _ _ hat.2.2, hf _, hf _, hgl, hgq⟩
theorem rshade_any (x : RQ w qb rb base sv mv kv vv p L) (y : RX w rb ra rc rt lv h M) (H : PI p k) (hk : k < 1000000) (a : Int) (n : Nat) (r : Int) :
    Calls Tryd.prog 14 #[.pointer (some ⟨qb, 0, none⟩), .agg #[.int .i64 a, .int .u64 (n : Int)], .int .i64 r] w fun e w' => e = .returned (.tuple #[]) ∧ QGo w w' qb rb base (qBl qb sv mv kv vv) (p.shade h (a, n) r) := by
  unfold PSt.shade
  have hml := H.ml
  have hel := H.el
  have hL : L.length = p.me.length := x.srt.1.length_eq
  cases hn : namesB (a, n) with
  | false =>
    rw [if_neg (by simp)]
    exact rshade_no x a n r hn
  | true =>
    rw [if_pos rfl]
    by_cases he : a = (h.node : Int)
    · rw [if_pos he]
      exact rshade_near x y a n r hn he H.nd (by omega)
    · rw [if_neg he]
      exact rshade_far x y a n r hn he H.nm (by omega)
theorem QN.use {r : Ending} {f : Nat} {args : Array Value} {p' : PSt} (x : QN w qb rb base G p) (hc : ∀ sv mv kv vv L, RQ w qb rb base sv mv kv vv p L → Calls Tryd.prog f args w fun e w' => e = r ∧ QGo w w' qb rb base (qBl qb sv mv kv vv) p') : Calls Tryd.prog f args w fun e w' => e = r ∧ QGo w w' qb rb base G p' := by
  obtain ⟨sv, mv, kv, vv, L, hx, hG⟩ := x.ex
  have e : G = qBl qb sv mv kv vv := funext fun k => propext (hG k)
  rw [e]
  exact hc sv mv kv vv L hx
theorem QN.shade (x : QN w qb rb base G p) (y : RX w rb ra rc rt lv h M) (H : PI p k) (hk : k < 1000000) (a : Int) (n : Nat) (r : Int) :
    Calls Tryd.prog 14 #[.pointer (some ⟨qb, 0, none⟩), .agg #[.int .i64 a, .int .u64 (n : Int)], .int .i64 r] w fun e w' => e = .returned (.tuple #[]) ∧ QGo w w' qb rb base G (p.shade h (a, n) r) :=
  x.use (fun _ _ _ _ _ hx => rshade_any hx y H hk a n r)
end
end Go.Proofs.YtdafpfdmnccelaaDoor

namespace Go.Proofs.YtdafpfdmnccelaaDoor
open Go.RowKit

/-- The k-th of those IDs. -/
def idAt (k : Nat) : Int × Nat := (((k / 7 : Nat) : Int), k % 7)
def idsL (n : Nat) : List (Int × Nat) := (List.range n).map idAt
theorem idsL_next (n : Nat) : idsL (n + 1) = idsL n ++ [idAt n] := by
  unfold idsL
  rw [List.range_succ, List.map_append]
  rfl
theorem idsL_len (n : Nat) : (idsL n).length = n := by simp [idsL]
/-- IDs in memory of the call's own. -/
structure IL (w0 w : World) (B : Nat) (v : Value) (n : Nat) : Prop where
  own : w.ownsRow B 51 2 v n (idsV (idsL n))
  bel : Below B w0 w
  le : B ≤ w.heap.size
theorem sr_idW (w : World) (a : Int) (n : Nat) (T : TypeId) : Sr (w.alloc (.cells #[.int .i64 a, .int .u64 (n : Int)] T)) (.slice (some ⟨w.heap.size, 0, none⟩) 1 1) 2 1 [.int .i64 a, .int .u64 (n : Int)] := by
  have h := heap_alloc_new w (.cells #[.int .i64 a, .int .u64 (n : Int)] T)
  refine ⟨rfl, Or.inr ⟨⟨w.heap.size, 0, none⟩, 1, rfl, fun j u hu => ?_⟩, by simp [Value.oneCell']⟩
  rw [Addr.add_at, Nat.zero_add, cell_of_row _ _ _ _ _ _ h]
  simpa using hu
end Go.Proofs.YtdafpfdmnccelaaDoor

namespace Go.Proofs.YtdafpfdmnccelaaDoor
open Go.RowKit

section
variable {w : World} {b1 b2 : Nat} {v1 v2 : Value} {L : List ((Int × Nat) × Nat)}
end
end Go.Proofs.YtdafpfdmnccelaaDoor

namespace Go.Proofs.YtdafpfdmnccelaaDoor
open Go.RowKit
open Go.ChangeMaps (setBlock)

section
variable {w w' : World} {pb hb base sb mb tb : Nat} {v v' : Value} {p p' : PSt} {F : Nat → Prop} {h : HSt}
end
end Go.Proofs.YtdafpfdmnccelaaDoor
