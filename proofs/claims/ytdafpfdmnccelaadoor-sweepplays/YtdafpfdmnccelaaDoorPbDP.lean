import Derived.Test.YtdafpfdmnccelaaDoorPaTP
import Derived.Deep.CutRange
/- The plain paint in memory. -/
/- The plain Mark. -/
/- The plain table of what was met: place. -/
/- The plain table of what was met: Get. -/
/- The plain Outs. -/
/- The plain stack within a paint: Push. -/
/- The plain stack within a paint: Push. -/
/- The program's Pop, Rest, Blacken, Forget. -/
namespace Go.Proofs.YtdafpfdmnccelaaDoor
open Go.RowKit

/-- The cells of a mark, of marks. -/
def m3V (e : Nat × (Nat × Bool)) : List Value := [.int .u64 (e.1 : Int), .int .i64 (e.2.1 : Int), .bool e.2.2]
def msV (l : List (Nat × (Nat × Bool))) : List Value := l.flatMap m3V
theorem msV_app (a b : List (Nat × (Nat × Bool))) : msV (a ++ b) = msV a ++ msV b := by unfold msV; rw [List.flatMap_append]
theorem msV_len (l : List (Nat × (Nat × Bool))) : (msV l).length = l.length * 3 := by
  induction l with
  | nil => rfl
  | cons x l ih => unfold msV at *; rw [List.flatMap_cons, List.length_append, ih]; simp [m3V]; omega
theorem msV_at : ∀ (l : List (Nat × (Nat × Bool))) (i : Nat) (hi : i < l.length), (msV l)[i * 3]? = some (.int .u64 (l[i].1 : Int)) ∧ (msV l)[i * 3 + 1]? = some (.int .i64 (l[i].2.1 : Int)) ∧ (msV l)[i * 3 + 2]? = some (.bool l[i].2.2)
  | x :: l, 0, _ => ⟨rfl, rfl, rfl⟩
  | x :: l, i + 1, hi => by
    have := msV_at l i (by simpa using hi)
    have e1 : (i + 1) * 3 = i * 3 + 3 := by omega
    rw [e1]
    exact this
/-- The plain paint at qb of the plain heap at rb: its four lists sv, mv, kv, vv; L: what was met, rising. -/
structure RQ (w : World) (qb rb base : Nat) (sv mv kv vv : Value) (p : PSt) (L : List ((Int × Nat) × Nat)) : Prop where
  box : Row w qb 100 [.pointer (some ⟨rb, 0, none⟩), .int .i64 (p.M : Int), sv, .bool p.ov, .int .u64 (p.turns : Int), mv, .int .i64 1048576, kv, vv]
  sl : w.ownsRow base 39 1 sv p.stk.length (p.stk.map uV)
  ml : w.ownsRow base 113 3 mv p.ma.length (msV p.ma)
  kl : w.ownsRow base 39 1 kv L.length (L.map (fun o => uV (keyI o.1)))
  vl : w.ownsRow base 104 3 vv L.length (osV L)
  srt : OutsOf p.me L
  d : ∀ k, (sv.ownBlock = some k → k ≠ qb ∧ mv.ownBlock ≠ some k ∧ kv.ownBlock ≠ some k ∧ vv.ownBlock ≠ some k) ∧ (mv.ownBlock = some k → k ≠ qb ∧ kv.ownBlock ≠ some k ∧ vv.ownBlock ≠ some k) ∧ (kv.ownBlock = some k → k ≠ qb ∧ vv.ownBlock ≠ some k) ∧ (vv.ownBlock = some k → k ≠ qb)
  ge : base ≤ qb
  few : p.stk.length ≤ p.M ∧ 1 ≤ p.M ∧ p.M ≤ 64 ∧ p.ma.length ≤ 1000000 ∧ L.length ≤ 1000000
/-- Its blocks. -/
def qBl (qb : Nat) (sv mv kv vv : Value) (k : Nat) : Prop := k = qb ∨ sv.ownBlock = some k ∨ mv.ownBlock = some k ∨ kv.ownBlock = some k ∨ vv.ownBlock = some k
/-- What find answers: where the first mark of that serial lies. -/
def FoundAt (mv : Value) (l : List (Nat × (Nat × Bool))) (s : Nat) (e : Ending) : Prop := (∃ i m g cap, e = .returned (.pointer (some ⟨g, i * 3, none⟩)) ∧ mv = .slice (some ⟨g, 0, none⟩) l.length cap ∧ l[i]? = some (s, m) ∧ ∀ j y, j < i → l[j]? = some y → y.1 ≠ s) ∨ (e = .returned (.pointer none) ∧ ∀ y ∈ l, y.1 ≠ s)
section
variable {w w' : World} {qb rb base : Nat} {sv mv kv vv : Value} {p : PSt} {L : List ((Int × Nat) × Nat)} {S : Nat → Prop}
theorem RQ.kept (x : RQ w qb rb base sv mv kv vv p L) (hk : Kept w w' S) (hs : ∀ k, qBl qb sv mv kv vv k → ¬ S k) : RQ w' qb rb base sv mv kv vv p L :=
  ⟨x.box.kept hk (hs _ (Or.inl rfl)), own_kept x.sl hk (fun k h => hs k (Or.inr (Or.inl h))), own_kept x.ml hk (fun k h => hs k (Or.inr (Or.inr (Or.inl h)))), own_kept x.kl hk (fun k h => hs k (Or.inr (Or.inr (Or.inr (Or.inl h))))), own_kept x.vl hk (fun k h => hs k (Or.inr (Or.inr (Or.inr (Or.inr h))))), x.srt, x.d, x.ge, x.few⟩
theorem RQ.below (x : RQ w qb rb base sv mv kv vv p L) (hb : Below w.heap.size w w') : RQ w' qb rb base sv mv kv vv p L := x.kept (kept_of_below hb (fun _ => False)) (fun _ _ => id)
theorem RQ.lt (x : RQ w qb rb base sv mv kv vv p L) : ∀ k, qBl qb sv mv kv vv k → k < w.heap.size := by
  intro k hk
  rcases hk with rfl | hk | hk | hk | hk
  · exact x.box.lt
  · exact (ownc_lt x.sl k hk).2
  · exact (ownc_lt x.ml k hk).2
  · exact (ownc_lt x.kl k hk).2
  · exact (ownc_lt x.vl k hk).2
theorem RQ.gek (x : RQ w qb rb base sv mv kv vv p L) : ∀ k, qBl qb sv mv kv vv k → base ≤ k := by
  intro k hk
  rcases hk with rfl | hk | hk | hk | hk
  · exact x.ge
  · exact (ownc_lt x.sl k hk).1
  · exact (ownc_lt x.ml k hk).1
  · exact (ownc_lt x.kl k hk).1
  · exact (ownc_lt x.vl k hk).1
/-- The cells of a row of one's own. -/
theorem ownc_cell {E : TypeId} {c n : Nat} {v : Value} {l : List Value} (h : w.ownsRow base E c v n l) (h0 : 0 < n) : ∃ g cap, v = .slice (some ⟨g, 0, none⟩) n cap ∧ base ≤ g ∧ g < w.heap.size ∧ n ≤ cap ∧ (∀ j u, l[j]? = some u → w.cell? ⟨g, j, none⟩ = some u) ∧ ∀ j, w.frozen? ⟨g, j, none⟩ = false := by
  rcases h.2 with ⟨_, hn⟩ | ⟨g, cap, cur, hv, hb, hg, hn, hm, hs, ht⟩
  · omega
  · refine ⟨g, cap, hv, hb, (Array.getElem?_eq_some_iff.1 hg).1, hn, fun j u hu => ?_, fun j => frozen_of_row w g j _ _ hg⟩
    rw [cell_of_row w g j _ _ _ hg]
    rw [← ht] at hu
    have hlt : j < n * c := by
      have h1 := (List.getElem?_eq_some_iff.1 hu).1
      rw [List.length_take] at h1
      omega
    rw [List.getElem?_take_of_lt hlt] at hu
    simpa using hu

set_option maxRecDepth 20000 in
set_option maxHeartbeats 1000000 in
theorem rfind_any (x : RQ w qb rb base sv mv kv vv p L) (s : Nat) :
    Calls Tryd.prog 49 #[.pointer (some ⟨qb, 0, none⟩), .int .u64 (s : Int)] w fun e w' => w = w' ∧ FoundAt mv p.ma s e := by
  have c5 : w.cell? ⟨qb, 5, none⟩ = some mv := x.box.cell 5 (by simp)
  have hml := x.few.2.2.2.1
  obtain ⟨ao, cap, hmv⟩ := ownc_form x.ml
  have HC : Hid (∀ (i : Nat), i < p.ma.length → ∃ g y, ao = some ⟨g, 0, none⟩ ∧ p.ma[i]? = some y ∧ w.cell? ⟨g, i * 3, none⟩ = some (.int .u64 (y.1 : Int)) ∧ g < w.heap.size) := fun i hi => by
    obtain ⟨g, cap', e, _, h2, _, h3, _⟩ := ownc_cell x.ml (by omega)
    rw [hmv] at e
    simp only [Value.slice.injEq] at e
    exact ⟨g, p.ma[i], e.1, List.getElem?_eq_getElem hi, h3 _ _ (msV_at p.ma i hi).1, h2⟩
  subst hmv
  clear x
  generalize p.ma = l at *
  go_enter Tryd.func49, Tryd.ntmps49
  go_wp2
  go_loopw [5] (fun t wr => ∃ (i : Nat), i ≤ l.length ∧ t = .int .i64 (i : Int) ∧ wr = w ∧ ∀ j y, j < i → l[j]? = some y → y.1 ≠ s) (fun t _ => l.length - (intOf t).toNat)
  case atStart => exact ⟨0, Nat.zero_le _, rfl, rfl, fun j y hj => by omega⟩
  case round =>
    obtain ⟨i, hi, rfl, rfl, hno⟩ := hrel
    by_cases hlt : i < l.length
    · have hii : (i : Int) < (l.length : Int) := by omega
      obtain ⟨g, y, rfl, hy, d, hgl⟩ := HC.out i hlt
      have HNO : Hid _ := hidden hno
      have HY : Hid _ := hidden hy
      have HL : Hid (i + 1 ≤ l.length) := hlt
      obtain ⟨ys, ym⟩ := y
      simp only at d
      clear hno hy hlt
      by_cases he : ys = s
      · subst he
        go_wp2
        go_ret
        exact ⟨rfl, Or.inl ⟨i, ym, g, cap, by first | rfl | simp, rfl, HY.out, HNO.out⟩⟩
      · have hne : ((ys : Int) == (s : Int)) = false := by rw [beq_eq_false_iff_ne]; omega
        go_wp2
        go_roundw
        case rel =>
          refine ⟨i + 1, HL.out, by go_num, by first | trivial | rfl, fun j y hj hy => ?_⟩
          by_cases e : j = i
          · subst e
            rw [HY.out] at hy
            cases hy
            exact he
          · exact HNO.out j y (by omega) hy
        case measure => have := HL.out; simp [intOf]; omega
    · have hii : ¬ (i : Int) < (l.length : Int) := by omega
      have HE : Hid (∀ y ∈ l, y.1 ≠ s) := fun y he => by
        obtain ⟨j, hj, rfl⟩ := List.getElem_of_mem he
        exact hno j _ (by omega) (List.getElem?_eq_getElem hj)
      clear hno
      go_wp2
      go_ret
      exact ⟨rfl, Or.inr ⟨rfl, HE.out⟩⟩
end

end Go.Proofs.YtdafpfdmnccelaaDoor

namespace Go.Proofs.YtdafpfdmnccelaaDoor
open Go.RowKit

theorem found_get {l : List (Nat × (Nat × Bool))} {i s : Nat} {m : Nat × Bool} (h1 : l[i]? = some (s, m)) (h2 : ∀ j y, j < i → l[j]? = some y → y.1 ≠ s) : getA l s = some m := by
  unfold getA
  have h3 : l.find? (fun p => decide (p.1 = s)) = some (s, m) := by
    rw [List.find?_eq_some_iff_getElem]
    obtain ⟨hi, hv⟩ := List.getElem?_eq_some_iff.1 h1
    refine ⟨by simp, i, hi, hv, fun j hj => ?_⟩
    have := h2 j _ hj (List.getElem?_eq_getElem (by omega))
    simpa using this
  rw [h3]
  rfl
theorem found_no {l : List (Nat × (Nat × Bool))} {s : Nat} (h : ∀ y ∈ l, y.1 ≠ s) : getA l s = none := by
  unfold getA
  rw [Option.map_eq_none_iff, List.find?_eq_none]
  intro y hy
  simpa using h y hy
section
variable {w w' : World} {qb rb base ra rc rt : Nat} {sv mv kv vv lv : Value} {p : PSt} {L : List ((Int × Nat) × Nat)} {h : HSt} {M : List Pl}
set_option maxRecDepth 20000 in
set_option maxHeartbeats 1000000 in
theorem rmark_any (x : RQ w qb rb base sv mv kv vv p L) (y : RX w rb ra rc rt lv h M) (s : Nat) :
    Calls Tryd.prog 57 #[.pointer (some ⟨qb, 0, none⟩), .int .u64 (s : Int)] w fun e w' => e = .returned (.tuple #[.int .i64 ((markR h p s).1 : Int), .bool (markR h p s).2.1, .bool (markR h p s).2.2]) ∧ Below w.heap.size w w' := by
  have c0 : w.cell? ⟨qb, 0, none⟩ = some (.pointer (some ⟨rb, 0, none⟩)) := x.box.cell 0 (by simp)
  have hF := rfind_any x s
  have hG := rget_any y s
  have HGet : Hid (getC h.cs s = (getP M s).map (·.o)) := by
    have := getP_o M s
    rw [y.cs] at this
    exact this
  have HC : Hid (∀ i m g cap, mv = .slice (some ⟨g, 0, none⟩) p.ma.length cap → p.ma[i]? = some (s, m) → w.cell? ⟨g, i * 3 + 1, none⟩ = some (.int .i64 (m.1 : Int)) ∧ w.cell? ⟨g, i * 3 + 2, none⟩ = some (.bool m.2)) := fun i m g cap e hi => by
    obtain ⟨hi', hv⟩ := List.getElem?_eq_some_iff.1 hi
    obtain ⟨g', cap', e', _, _, _, h3, _⟩ := ownc_cell x.ml (by omega)
    rw [e] at e'
    simp only [Value.slice.injEq, Option.some.injEq, Addr.mk.injEq] at e'
    have hg : g = g' := e'.1.1
    subst hg
    have := msV_at p.ma i hi'
    rw [hv] at this
    exact ⟨h3 _ _ this.2.1, h3 _ _ this.2.2⟩
  clear x y
  go_enter Tryd.func57, Tryd.ntmps57
  go_wp2_with fail
  refine hF.mono ?_
  rintro e _ ⟨rfl, he⟩
  clear hF
  unfold FoundAt at he
  rcases he with ⟨i, m, g, cap, rfl, hmv, h1, h2⟩ | ⟨rfl, h1⟩
  · have hg := found_get h1 h2
    obtain ⟨d1, d2⟩ := HC.out i m g cap hmv h1
    obtain ⟨r, gr⟩ := m
    simp only at d1 d2
    cases hp : getP M s with
    | none =>
      rw [hp] at hG
      have HE : Hid (markR h p s = (0, false, false)) := by
        have : markR h p s = (0, false, false) := by
          unfold markR
          rw [HGet.out, hp]
          rfl
        exact this
      unfold ptrOf at hG
      clear h1 h2 hg hp hmv HC HGet
      go_wp2_with (go_at_call 48; refine hG.mono ?_; rintro e _ ⟨rfl, rfl⟩)
      go_ret3
      rw [HE.out]
      exact ⟨rfl, Below.refl _ _⟩
    | some pl =>
      rw [hp] at hG
      have HE : Hid (markR h p s = (r, gr, true)) := by
        have : markR h p s = (r, gr, true) := by
          unfold markR
          rw [HGet.out, hp, hg]
          rfl
        exact this
      unfold ptrOf at hG
      have f1 : ∀ m, (w.drewN m).cell? ⟨g, i * 3 + 1, none⟩ = some (.int .i64 (r : Int)) := fun _ => d1
      have f2 : ∀ m, (w.drewN m).cell? ⟨g, i * 3 + 2, none⟩ = some (.bool gr) := fun _ => d2
      clear h1 h2 hg hp hmv HC HGet
      go_wp2_with (go_at_call 48; refine hG.mono ?_; rintro e _ ⟨rfl, rfl⟩)
      go_quiet (fail)
      go_wp2
      go_ret3
      rw [HE.out]
      exact ⟨rfl, below_drewN0 _ _⟩
  · have hg := found_no h1
    have HE : Hid (markR h p s = (0, false, false)) := by
      have : markR h p s = (0, false, false) := by
        unfold markR
        rw [hg]
        cases getC h.cs s <;> rfl
      exact this
    clear h1 hg HC HGet hG
    go_wp2
    go_ret3
    rw [HE.out]
    exact ⟨rfl, Below.refl _ _⟩
end

end Go.Proofs.YtdafpfdmnccelaaDoor

namespace Go.Proofs.YtdafpfdmnccelaaDoor
open Go.RowKit

/-- What place answers. -/
structure PlaceAt (L : List ((Int × Nat) × Nat)) (k i : Nat) (ok : Bool) : Prop where
  le : i ≤ L.length
  lo : ∀ j y, j < i → L[j]? = some y → keyI y.1 < k
  hi : (∃ y, L[i]? = some y ∧ k ≤ keyI y.1 ∧ ok = decide (keyI y.1 = k)) ∨ (i = L.length ∧ ok = false)
def Placed (L : List ((Int × Nat) × Nat)) (k : Nat) (w w' : World) (e : Ending) : Prop := ∃ (i : Nat) (ok : Bool), e = .returned (.tuple #[.int .i64 (i : Int), .bool ok]) ∧ PlaceAt L k i ok ∧ Below w.heap.size w w'
theorem Placed.of {L : List ((Int × Nat) × Nat)} {k : Nat} {w w' : World} {e : Ending} (i : Nat) (ok : Bool) (h1 : e = .returned (.tuple #[.int .i64 (i : Int), .bool ok])) (h2 : PlaceAt L k i ok) (h3 : Below w.heap.size w w') : Placed L k w w' e := ⟨i, ok, h1, h2, h3⟩
section
variable {w w' : World} {qb rb base : Nat} {sv mv kv vv : Value} {p : PSt} {L : List ((Int × Nat) × Nat)}
set_option maxRecDepth 20000 in
set_option maxHeartbeats 1000000 in
theorem rplace_any (x : RQ w qb rb base sv mv kv vv p L) (k : Nat) :
    Calls Tryd.prog 69 #[.pointer (some ⟨qb, 6, none⟩), .int .u64 (k : Int)] w fun e w' => Placed L k w w' e := by
  have c7 : w.cell? ⟨qb, 7, none⟩ = some kv := x.box.cell 7 (by simp)
  have hll := x.few.2.2.2.2
  have hql := x.box.lt
  obtain ⟨ao, cap, hkv⟩ := ownc_form x.kl
  have HC : Hid (∀ (i : Nat), i < L.length → ∃ g y, ao = some ⟨g, 0, none⟩ ∧ L[i]? = some y ∧ w.cell? ⟨g, i, none⟩ = some (.int .u64 (keyI y.1 : Int)) ∧ g < w.heap.size) := fun i hi => by
    obtain ⟨g, cap', e, _, h2, _, h3, _⟩ := ownc_cell x.kl (by omega)
    rw [hkv] at e
    simp only [Value.slice.injEq] at e
    refine ⟨g, L[i], e.1, List.getElem?_eq_getElem hi, h3 i _ ?_, h2⟩
    rw [List.getElem?_map, List.getElem?_eq_getElem hi]
    rfl
  subst hkv
  clear x
  go_enter Tryd.func69, Tryd.ntmps69
  go_wp2
  go_loopw [6] (fun t wr => ∃ (i : Nat), i ≤ L.length ∧ t = .int .i64 (i : Int) ∧ wr = w ∧ ∀ j y, j < i → L[j]? = some y → keyI y.1 < k) (fun t _ => L.length - (intOf t).toNat)
  case atStart => exact ⟨0, Nat.zero_le _, rfl, rfl, fun j y hj => by omega⟩
  case round =>
    obtain ⟨i, hi, rfl, rfl, hno⟩ := hrel
    by_cases hlt : i < L.length
    · have hii : (i : Int) < (L.length : Int) := by omega
      obtain ⟨g, y, rfl, hy, d, hgl⟩ := HC.out i hlt
      have HNO : Hid _ := hidden hno
      have HY : Hid _ := hidden hy
      have HL : Hid (i + 1 ≤ L.length) := hlt
      obtain ⟨ky, hky⟩ : ∃ ky, ky = keyI y.1 := ⟨_, rfl⟩
      rw [← hky] at d
      have HK : Hid (ky = keyI y.1) := hidden hky
      clear hno hy hlt hky
      by_cases he : ky < k
      · have hnl : ¬ k ≤ ky := by omega
        go_wp2
        go_roundw
        case rel =>
          refine ⟨i + 1, HL.out, by go_num, by first | trivial | rfl, fun j z hj hz => ?_⟩
          by_cases e : j = i
          · subst e
            rw [HY.out] at hz
            cases hz
            rw [← HK.out]
            exact he
          · exact HNO.out j z (by omega) hz
        case measure => have := HL.out; simp [intOf]; omega
      · have hge : k ≤ ky := by omega
        have f7 : ∀ m, (wr.drewN m).cell? ⟨qb, 7, none⟩ = some (.slice (some ⟨g, 0, none⟩) L.length cap) := fun _ => c7
        have fd : ∀ m, (wr.drewN m).cell? ⟨g, i, none⟩ = some (.int .u64 (ky : Int)) := fun _ => d
        by_cases hq : ky = k
        · subst hq
          go_upto_region 5 with fail
          go_quiet (fail)
          go_wp2
          go_ret2
          exact Placed.of i true (by first | rfl | simp) ⟨by have := HL.out; omega, HNO.out, Or.inl ⟨y, HY.out, by rw [← HK.out]; exact Nat.le_refl _, by rw [← HK.out]; simp⟩⟩ (below_drewN0 _ _)
        · have hne : ((ky : Int) == (k : Int)) = false := by rw [beq_eq_false_iff_ne]; omega
          go_upto_region 5 with fail
          go_quiet (fail)
          go_wp2
          go_ret2
          exact Placed.of i false (by first | rfl | simp [hne] | simp [hq]) ⟨by have := HL.out; omega, HNO.out, Or.inl ⟨y, HY.out, by rw [← HK.out]; exact hge, by rw [← HK.out]; simp [hq]⟩⟩ (below_drewN0 _ _)
    · have hii : ¬ (i : Int) < (L.length : Int) := by omega
      have hE : i = L.length := by omega
      have HNO : Hid _ := hidden hno
      have HE : Hid (i = L.length) := hidden hE
      clear hno hE
      go_wp2
      go_ret2
      exact Placed.of i false (by first | rfl | (rw [HE.out]; rfl)) ⟨hi, HNO.out, Or.inr ⟨HE.out, rfl⟩⟩ (Below.refl _ _)
end

end Go.Proofs.YtdafpfdmnccelaaDoor

namespace Go.Proofs.YtdafpfdmnccelaaDoor
open Go.RowKit

/-- What stands at a key. -/
def atK (L : List ((Int × Nat) × Nat)) (k : Nat) : Option ((Int × Nat) × Nat) := L.find? (fun o => decide (keyI o.1 = k))
theorem PlaceAt.get {L : List ((Int × Nat) × Nat)} {k i : Nat} {ok : Bool} (hs : L.Pairwise (fun a b => keyI a.1 < keyI b.1)) (h : PlaceAt L k i ok) : (ok = true ∧ ∃ y, L[i]? = some y ∧ atK L k = some y) ∨ (ok = false ∧ atK L k = none) := by
  have hup : ∀ (j : Nat) y z, i < j → L[i]? = some y → L[j]? = some z → keyI y.1 < keyI z.1 := fun j y z hj hy hz => by
    obtain ⟨h1, e1⟩ := List.getElem?_eq_some_iff.1 hy
    obtain ⟨h2, e2⟩ := List.getElem?_eq_some_iff.1 hz
    rw [List.pairwise_iff_getElem] at hs
    have := hs i j h1 h2 hj
    rw [e1, e2] at this
    exact this
  rcases h.hi with ⟨y, hy, hk, ho⟩ | ⟨he, ho⟩
  · by_cases e : keyI y.1 = k
    · left
      refine ⟨by rw [ho]; simp [e], y, hy, ?_⟩
      unfold atK
      rw [List.find?_eq_some_iff_getElem]
      obtain ⟨h1, e1⟩ := List.getElem?_eq_some_iff.1 hy
      refine ⟨by simp [e], i, h1, e1, fun j hj => ?_⟩
      have := h.lo j _ hj (List.getElem?_eq_getElem (by omega))
      have hne : ¬ keyI (L[j]).1 = k := by omega
      simpa using hne
    · right
      refine ⟨by rw [ho]; simp [e], ?_⟩
      unfold atK
      rw [List.find?_eq_none]
      intro z hz
      obtain ⟨j, hj, rfl⟩ := List.getElem_of_mem hz
      have hne : ¬ keyI (L[j]).1 = k := by
        by_cases h1 : j < i
        · have := h.lo j _ h1 (List.getElem?_eq_getElem hj)
          omega
        · by_cases h2 : j = i
          · subst h2
            rw [List.getElem?_eq_getElem hj] at hy
            cases hy
            exact e
          · have := hup j y _ (by omega) hy (List.getElem?_eq_getElem hj)
            omega
      simpa using hne
  · right
    refine ⟨ho, ?_⟩
    unfold atK
    rw [List.find?_eq_none]
    intro z hz
    obtain ⟨j, hj, rfl⟩ := List.getElem_of_mem hz
    have := h.lo j _ (by omega) (List.getElem?_eq_getElem hj)
    have hne : ¬ keyI (L[j]).1 = k := by omega
    simpa using hne
/-- An Out as a value; none. -/
def outV (o : Option ((Int × Nat) × Nat)) : Value := match o with
  | some y => .agg #[.int .i64 y.1.1, .int .u64 (y.1.2 : Int), .int .i64 (y.2 : Int)]
  | none => .agg #[.int .i64 0, .int .u64 0, .int .i64 0]
section
variable {w w' : World} {qb rb base : Nat} {sv mv kv vv : Value} {p : PSt} {L : List ((Int × Nat) × Nat)}
set_option maxRecDepth 20000 in
set_option maxHeartbeats 1000000 in
theorem rtget_any (x : RQ w qb rb base sv mv kv vv p L) (k : Nat) :
    Calls Tryd.prog 45 #[.pointer (some ⟨qb, 6, none⟩), .int .u64 (k : Int)] w fun e w' => e = .returned (.tuple #[outV (atK L k), .bool (atK L k).isSome]) ∧ Below w.heap.size w w' := by
  have hPl := fun o => rplace_any (x.below (bel_alloc w o)) k
  have HS : Hid _ := hidden x.srt.2
  have HV : Hid (∀ W : World, Below w.heap.size w W → ∀ (i : Nat) y, L[i]? = some y → W.cell? ⟨qb, 8, none⟩ = some vv ∧ ∃ g cap, vv = .slice (some ⟨g, 0, none⟩) L.length cap ∧ W.cell? ⟨g, i * 3, none⟩ = some (.int .i64 y.1.1) ∧ W.cell? ⟨g, i * 3 + 1, none⟩ = some (.int .u64 (y.1.2 : Int)) ∧ W.cell? ⟨g, i * 3 + 2, none⟩ = some (.int .i64 (y.2 : Int)) ∧ g < W.heap.size ∧ i < L.length) := fun W hB i y hy => by
    have z := x.below hB
    obtain ⟨hi, hv⟩ := List.getElem?_eq_some_iff.1 hy
    obtain ⟨g, cap, e, _, h2, _, h3, _⟩ := ownc_cell z.vl (by omega)
    have := osV_at L i hi
    rw [hv] at this
    exact ⟨z.box.cell 8 (by simp), g, cap, e, h3 _ _ this.1, h3 _ _ this.2.1, h3 _ _ this.2.2, h2, hi⟩
  have hql := x.box.lt
  clear x
  go_enter Tryd.func45, Tryd.ntmps45
  go_wp2_with fail
  refine (hPl _).mono ?_
  rintro e w1 ⟨i, ok, rfl, hpa, b1⟩
  have d0 := b1.cell (p := ⟨w.heap.size, 0, none⟩) (by simp)
  have d1 := b1.cell (p := ⟨w.heap.size, 1, none⟩) (by simp)
  have d2 := b1.cell (p := ⟨w.heap.size, 2, none⟩) (by simp)
  have f0 := b1.frozen (p := ⟨w.heap.size, 0, none⟩) (by simp)
  have f1 := b1.frozen (p := ⟨w.heap.size, 1, none⟩) (by simp)
  have f2 := b1.frozen (p := ⟨w.heap.size, 2, none⟩) (by simp)
  simp at d0 d1 d2 f0 f1 f2
  have hz1 := b1.size
  simp at hz1
  have r1 : Row w1 w.heap.size 104 [.int .i64 0, .int .u64 0, .int .i64 0] := (show Row (w.alloc (.cells #[.int .i64 0, .int .u64 0, .int .i64 0] 104)) w.heap.size 104 _ from heap_alloc_new w _).below b1
  have hbw : Below w.heap.size w w1 := (bel_alloc _ _).trans (b1.mono (by simp))
  have HB : Hid _ := hidden hbw
  have hKB : Hid (∀ a b c a' b' c' : Value, Below w.heap.size w ((((((w1.setCell ⟨w.heap.size, 0, none⟩ a).setCell ⟨w.heap.size, 1, none⟩ b).setCell ⟨w.heap.size, 2, none⟩ c).setCell ⟨w.heap.size, 0, none⟩ a').setCell ⟨w.heap.size, 1, none⟩ b').setCell ⟨w.heap.size, 2, none⟩ c')) := fun a b c a' b' c' => by
    have hk : ∀ (W : World) (j : Nat) (v : Value), Kept W (W.setCell ⟨w.heap.size, j, none⟩ v) (fun k => k = w.heap.size) := fun W j v => Kept.setCell _ _ _
    have h1 := ((((((hk w1 0 a).trans (hk _ 1 b) (fun _ _ e => e)).trans (hk _ 2 c) (fun _ _ e => e)).trans (hk _ 0 a') (fun _ _ e => e)).trans (hk _ 1 b') (fun _ _ e => e)).trans (hk _ 2 c') (fun _ _ e => e))
    exact HB.out.trans (h1.below HB.out.size (fun i hi e => by have e' : i = w.heap.size := e; omega))
  rcases hpa.get HS.out with ⟨rfl, y, hy, ha⟩ | ⟨rfl, ha⟩
  · obtain ⟨c8, g, cap, rfl, q0, q1, q2, hgl, hil⟩ := HV.out w1 hbw i y hy
    have hii : (i : Int) < (L.length : Int) := by omega
    obtain ⟨⟨a, n⟩, r⟩ := y
    simp only at q0 q1 q2
    have HA : Hid _ := hidden ha
    have hqn : qb ≠ w.heap.size := by omega
    have HR : Hid _ := hidden ((((((r1.set 0 (.int .i64 a)).set 1 (.int .u64 (n : Int))).set 2 (.int .i64 (r : Int))).set 0 (.int .i64 a)).set 1 (.int .u64 (n : Int))).set 2 (.int .i64 (r : Int)))
    have HKB : Hid _ := hidden (hKB.out (.int .i64 a) (.int .u64 (n : Int)) (.int .i64 (r : Int)) (.int .i64 a) (.int .u64 (n : Int)) (.int .i64 (r : Int)))
    clear hpa hy ha HV hPl b1 hbw HS r1 hKB
    go_wp2
    generalize World.setCell _ _ _ = W6 at *
    have k0 := HR.out.cell 0 (by simp)
    have k1 := HR.out.cell 1 (by simp)
    have k2 := HR.out.cell 2 (by simp)
    simp at k0 k1 k2
    refine bodyPost_ret (v := .tuple #[.agg #[.int .i64 a, .int .u64 (n : Int), .int .i64 (r : Int)], .bool true]) (by simp [results, Tryd.results45, go_sem, *]) rfl ⟨by rw [HA.out]; rfl, HKB.out⟩
  · have HA : Hid _ := hidden ha
    have hKC : Hid (∀ a b c : Value, Below w.heap.size w (((w1.setCell ⟨w.heap.size, 0, none⟩ a).setCell ⟨w.heap.size, 1, none⟩ b).setCell ⟨w.heap.size, 2, none⟩ c)) := fun a b c => by
      have hk : ∀ (W : World) (j : Nat) (v : Value), Kept W (W.setCell ⟨w.heap.size, j, none⟩ v) (fun k => k = w.heap.size) := fun W j v => Kept.setCell _ _ _
      have h1 := ((hk w1 0 a).trans (hk _ 1 b) (fun _ _ e => e)).trans (hk _ 2 c) (fun _ _ e => e)
      exact HB.out.trans (h1.below HB.out.size (fun i hi e => by have e' : i = w.heap.size := e; omega))
    have HR : Hid _ := hidden (((r1.set 0 (.int .i64 0)).set 1 (.int .u64 0)).set 2 (.int .i64 0))
    have HKB : Hid _ := hidden (hKC.out (.int .i64 0) (.int .u64 0) (.int .i64 0))
    clear hpa ha HV hPl b1 hbw HS hKB hKC r1
    go_wp2
    generalize World.setCell _ _ _ = W6 at *
    have k0 := HR.out.cell 0 (by simp)
    have k1 := HR.out.cell 1 (by simp)
    have k2 := HR.out.cell 2 (by simp)
    simp at k0 k1 k2
    refine bodyPost_ret (v := .tuple #[.agg #[.int .i64 0, .int .u64 0, .int .i64 0], .bool false]) (by simp [results, Tryd.results45, go_sem, *]) rfl ⟨by rw [HA.out]; rfl, HKB.out⟩
end

end Go.Proofs.YtdafpfdmnccelaaDoor

namespace Go.Proofs.YtdafpfdmnccelaaDoor
open Go.RowKit

theorem osV_one (L : List ((Int × Nat) × Nat)) : ∀ u ∈ osV L, u.oneCell' = true := by
  intro u hu
  unfold osV at hu
  obtain ⟨o, _, hu⟩ := List.mem_flatMap.1 hu
  simp only [oV, List.mem_cons, List.not_mem_nil, or_false] at hu
  rcases hu with rfl | rfl | rfl <;> rfl
section
variable {w w' : World} {qb rb base : Nat} {sv mv kv vv : Value} {p : PSt} {L : List ((Int × Nat) × Nat)}
end

end Go.Proofs.YtdafpfdmnccelaaDoor

namespace Go.Proofs.YtdafpfdmnccelaaDoor
open Go.RowKit

theorem own_mono1 {w : World} {b b' n : Nat} {E : TypeId} {v : Value} {l : List Value} (h : w.ownsRow b E 1 v n l) (hb : b' ≤ b) : w.ownsRow b' E 1 v n l := by
  refine ⟨h.1, ?_⟩
  rcases h.2 with h1 | ⟨g, cap, cur, rfl, h2, h3⟩
  · exact Or.inl h1
  · exact Or.inr ⟨g, cap, cur, rfl, Nat.le_trans hb h2, h3⟩
section
variable {w w1 : World} {qb rb base : Nat} {sv mv kv vv sv1 : Value} {p : PSt} {L : List ((Int × Nat) × Nat)}
theorem RQ.offq (x : RQ w qb rb base sv mv kv vv p L) : sv.ownBlock ≠ some qb ∧ mv.ownBlock ≠ some qb ∧ kv.ownBlock ≠ some qb ∧ vv.ownBlock ≠ some qb :=
  ⟨fun e => ((x.d qb).1 e).1 rfl, fun e => ((x.d qb).2.1 e).1 rfl, fun e => ((x.d qb).2.2.1 e).1 rfl, fun e => (x.d qb).2.2.2 e rfl⟩
theorem RQ.over (x : RQ w qb rb base sv mv kv vv p L) (b : Bool) (hb : Below w.heap.size w w1) : RQ (w1.setCell ⟨qb, 3, none⟩ (.bool b)) qb rb base sv mv kv vv { p with ov := b } L ∧ Kept w (w1.setCell ⟨qb, 3, none⟩ (.bool b)) (qBl qb sv mv kv vv) := by
  have y := x.below hb
  obtain ⟨o1, o2, o3, o4⟩ := x.offq
  have hk : Kept w1 (w1.setCell ⟨qb, 3, none⟩ (.bool b)) (fun k => k = qb) := Kept.setCell _ _ _
  have hno : ∀ {v : Value}, v.ownBlock ≠ some qb → ∀ k, v.ownBlock = some k → ¬ (k = qb) := fun h k e e' => h (by rw [e, e'])
  exact ⟨⟨y.box.set 3 (.bool b), own_kept y.sl hk (hno o1), own_kept y.ml hk (hno o2), own_kept y.kl hk (hno o3), own_kept y.vl hk (hno o4), y.srt, y.d, y.ge, y.few⟩, (kept_of_below hb _).trans hk (fun _ _ e => Or.inl e)⟩
/-- The stack's list is another one, in new memory. -/
theorem RQ.stack (x : RQ w qb rb base sv mv kv vv p L) {l : List Nat} (hb : Below w.heap.size w w1) (ho : w1.ownsRow w.heap.size 39 1 sv1 l.length (l.map uV)) (hl : l.length ≤ p.M) : RQ (w1.setCell ⟨qb, 2, none⟩ sv1) qb rb base sv1 mv kv vv { p with stk := l } L ∧ Kept w (w1.setCell ⟨qb, 2, none⟩ sv1) (qBl qb sv mv kv vv) ∧ w1.cell? ⟨qb, 2, none⟩ = some sv ∧ w1.frozen? ⟨qb, 2, none⟩ = false := by
  have y := x.below hb
  have hbs : base ≤ w.heap.size := by have := x.ge; have := x.box.lt; omega
  obtain ⟨o1, o2, o3, o4⟩ := x.offq
  have hlt := x.lt
  have hnew : ∀ k, sv1.ownBlock = some k → w.heap.size ≤ k := fun k e => (ownc_lt ho k e).1
  have hk : Kept w1 (w1.setCell ⟨qb, 2, none⟩ sv1) (fun k => k = qb) := Kept.setCell _ _ _
  have hno : ∀ {v : Value}, v.ownBlock ≠ some qb → ∀ k, v.ownBlock = some k → ¬ (k = qb) := fun h k e e' => h (by rw [e, e'])
  have hq1 : sv1.ownBlock ≠ some qb := fun e => by have := hnew qb e; have := x.box.lt; omega
  refine ⟨⟨y.box.set 2 sv1, own_kept (own_mono1 ho hbs) hk (hno hq1), own_kept y.ml hk (hno o2), own_kept y.kl hk (hno o3), own_kept y.vl hk (hno o4), y.srt, fun k => ⟨fun e => ⟨fun e' => hq1 (by rw [e, e']), fun e' => ?_, fun e' => ?_, fun e' => ?_⟩, (y.d k).2⟩, y.ge, hl, y.few.2⟩, (kept_of_below hb _).trans hk (fun _ _ e => Or.inl e), y.box.cell 2 (by simp), y.box.frozen 2⟩
  · have := hnew k e; have := hlt k (Or.inr (Or.inr (Or.inl e'))); omega
  · have := hnew k e; have := hlt k (Or.inr (Or.inr (Or.inr (Or.inl e')))); omega
  · have := hnew k e; have := hlt k (Or.inr (Or.inr (Or.inr (Or.inr e')))); omega
end

end Go.Proofs.YtdafpfdmnccelaaDoor

namespace Go.Proofs.YtdafpfdmnccelaaDoor
open Go.RowKit

theorem own_empty1 {w : World} {g base : Nat} {E : TypeId} (h : w.heap[g]? = some (.cells #[] E (0, 0))) (hb : base ≤ g) : w.ownsRow base E 1 (.slice (some ⟨g, 0, none⟩) 0 0) 0 [] :=
  ⟨by simp, Or.inr ⟨_, 0, #[], rfl, hb, h, Nat.le_refl _, Nat.zero_le _, by simp, by simp⟩⟩
theorem Tryd.infoW : (Tryd.prog.info? 39).map (fun i => (i.zero, i.size, i.bytes)) = some (some (.int .u64 0), 1, 8) := by kernel_rfl
section
variable {w : World} {qb rb base : Nat} {sv mv kv vv : Value} {p : PSt} {L : List ((Int × Nat) × Nat)}
set_option maxRecDepth 20000 in
set_option maxHeartbeats 400000 in
theorem qpush_full (x : RQ w qb rb base sv mv kv vv p L) (h : p.stk.length = p.M) (a : Nat) :
    Calls Tryd.prog 50 #[.pointer (some ⟨qb, 1, none⟩), .int .u64 (a : Int)] w fun e w' => e = .returned (.bool false) ∧ RQ w' qb rb base sv mv kv vv { p with ov := true } L ∧ Kept w w' (qBl qb sv mv kv vv) := by
  have c1 : w.cell? ⟨qb, 1, none⟩ = some (.int .i64 (p.M : Int)) := x.box.cell 1 (by simp)
  have c2 : w.cell? ⟨qb, 2, none⟩ = some sv := x.box.cell 2 (by simp)
  have c3 : w.cell? ⟨qb, 3, none⟩ = some (.bool p.ov) := x.box.cell 3 (by simp)
  have f3 := x.box.frozen 3
  have hf := x.few
  have HX : Hid (∀ w', Below w.heap.size w w' → _) := hidden (fun w' (hb : Below w.heap.size w w') => x.over true hb)
  obtain ⟨ao, cap, hv⟩ := ownc_form x.sl
  rw [h] at hv
  subst hv
  clear x h
  generalize p.M = n at *
  go_enter Tryd.func50, Tryd.ntmps50
  go_wp2
  go_quiet (fail)
  go_wp2
  go_ret
  exact ⟨rfl, HX.out _ (below_drewN0 _ _)⟩
set_option maxRecDepth 20000 in
set_option maxHeartbeats 1000000 in
theorem qpush_room (x : RQ w qb rb base sv mv kv vv p L) (h : p.stk.length < p.M) (a : Nat) :
    Calls Tryd.prog 50 #[.pointer (some ⟨qb, 1, none⟩), .int .u64 (a : Int)] w fun e w' => e = .returned (.bool true) ∧ ∃ sv', RQ w' qb rb base sv' mv kv vv { p with stk := p.stk ++ [a] } L ∧ Kept w w' (qBl qb sv mv kv vv) ∧ ∀ k, sv'.ownBlock = some k → w.heap.size ≤ k := by
  have c0 : w.cell? ⟨qb, 1, none⟩ = some (.int .i64 (p.M : Int)) := x.box.cell 1 (by simp)
  have c1 : w.cell? ⟨qb, 2, none⟩ = some sv := x.box.cell 2 (by simp)
  have hl := x.box.lt
  have hf := x.few
  have hno : ¬ ((p.M : Int) ≤ (p.stk.length : Int)) := by omega
  obtain ⟨ao, cap, hv⟩ := ownc_form x.sl
  obtain ⟨i, hi, hz0, hz1, hz2⟩ := info_parts Tryd.infoW
  have HT : Hid (∀ v1 w1, w1.ownsRow w.heap.size 39 1 v1 ((p.stk.map uV).length + 1) (p.stk.map uV ++ [Value.int .u64 (a : Int)]) → Below w.heap.size w w1 → (RQ (w1.setCell ⟨qb, 2, none⟩ v1) qb rb base v1 mv kv vv { p with stk := p.stk ++ [a] } L ∧ Kept w (w1.setCell ⟨qb, 2, none⟩ v1) (qBl qb sv mv kv vv) ∧ ∀ k, v1.ownBlock = some k → w.heap.size ≤ k) ∧ w1.cell? ⟨qb, 2, none⟩ = some sv ∧ w1.frozen? ⟨qb, 2, none⟩ = false) := by
    intro v1 w1 ho1 hb1
    have e : p.stk.map uV ++ [Value.int .u64 (a : Int)] = (p.stk ++ [a]).map uV := by simp [uV]
    have e2 : (p.stk.map uV).length + 1 = (p.stk ++ [a]).length := by simp
    rw [e, e2] at ho1
    obtain ⟨q1, q2, q3, q4⟩ := x.stack hb1 ho1 (by simp; omega)
    exact ⟨⟨q1, q2, fun k e => (ownc_lt ho1 k e).1⟩, q3, q4⟩
  have HSR : Hid (Sr w sv 1 (p.stk.map uV).length (p.stk.map uV)) := by
    show Sr w sv 1 (p.stk.map uV).length (p.stk.map uV)
    have h1 : Sr w sv 1 p.stk.length (p.stk.map uV) := own_sr x.sl (by intro u hu; obtain ⟨k, _, rfl⟩ := List.mem_map.1 hu; rfl)
    have h2 : (p.stk.map uV).length = p.stk.length := List.length_map _
    rw [h2]
    exact h1
  have HL : Hid ((p.stk.map uV).length = p.stk.length) := List.length_map _
  clear x
  subst hv
  have hnat : p.stk.length ≤ 64 := by omega
  have hM : p.M ≤ 64 := by omega
  have HL64 : Hid ((p.stk.map uV).length ≤ 64) := by
    have h : (p.stk.map uV).length ≤ 64 := by rw [HL.out]; exact hnat
    exact h
  clear h hf
  generalize p.stk.map uV = ls at *
  clear HL
  generalize p.stk.length = n at *
  generalize p.M = M at *
  go_enter Tryd.func50, Tryd.ntmps50
  go_wp2
  go_cut [14] from 5 to 14 (fun t wc => t = .bool false ∧ Below w.heap.size w wc)
  case first =>
    go_quiet (fail)
    go_wp2
    go_meet
    exact ⟨congrArg Value.bool (decide_eq_false (by omega)), below_drewN0 _ _⟩
  case rest =>
    obtain ⟨rfl, hbc⟩ := hcut
    have d1 := (hbc.cell (p := ⟨qb, 2, none⟩) hl).trans c1
    have HB : Hid _ := hidden hbc
    have hbz := hbc.size
    have hlc : qb < wc.heap.size := by omega
    clear c0 c1 hbc
    go_wp2_with (first
      | (at_builtin; refine wpList_append_sr rfl (.tmp 19) (.tmp 23) 42 rfl 39 i (.int .u64 0) 1 8 Tryd.underlying42 hi hz0 hz1 hz2 rfl (by omega) w.heap.size (.slice (some ⟨wc.heap.size, 0, none⟩) 0 0) 0 [] (by rfl) (own_empty1 (heap_alloc_new wc _) hbz) (.slice ao n cap) ls.length ls (by rfl) (HSR.out.below (HB.out.trans ((bel_alloc _ _).mono hbz))) (by have := HL64.out; omega) (by omega) (by simp; omega) ?_; intro v5 w5 ho5 hk5 hm5; rw [Nat.zero_add, List.nil_append] at ho5; have hb5 := (HB.out.trans ((bel_alloc _ _).mono hbz)).trans (hk5.below (by simp; omega) (fun q hq e => by simp [Value.ownBlock] at e; omega)); have HO5 : Hid _ := hidden ho5; have HB5 : Hid _ := hidden hb5; have hz5 := hb5.size; obtain ⟨ao5, n5, c5, hv5⟩ := own_form ho5; subst hv5; clear ho5 hb5 hk5 hm5)
      | (at_builtin; refine wpList_append_sr rfl (.tmp 24) (.tmp 26) 42 rfl 39 i (.int .u64 0) 1 8 Tryd.underlying42 hi hz0 hz1 hz2 rfl (by omega) w.heap.size (.slice ao5 n5 c5) ls.length ls (by rfl) (own_kept HO5.out (kept_of_below (bel_alloc _ _) (fun _ => False)) (fun _ _ => id)) (.slice (some ⟨w5.heap.size, 0, none⟩) 1 1) 1 [Value.int .u64 (a : Int)] (by rfl) (sr_val _ _ rfl _) (by have := HL64.out; omega) (by omega) (by simp; omega) ?_; intro v6 w6 ho6 hk6 hm6; have hb6 := (HB5.out.trans ((bel_alloc _ _).mono hz5)).trans (hk6.below (by simp; omega) (fun q hq e => by rcases HO5.out.2 with ⟨h0, _⟩ | ⟨g', _, _, h0, h1', _⟩; (cases h0; cases e); (cases h0; simp [Value.ownBlock] at e; omega))); obtain ⟨g6, e5, e6⟩ := HT.out v6 w6 ho6 hb6; have HG : Hid _ := hidden g6; obtain ⟨ao6, n6, c6, hv6⟩ := own_form ho6; subst hv6; clear g6 ho6 hb6 hk6 hm6))
    go_ret
    exact ⟨rfl, _, HG.out⟩
end

end Go.Proofs.YtdafpfdmnccelaaDoor

namespace Go.Proofs.YtdafpfdmnccelaaDoor
open Go.RowKit
open Go.ChangeMaps (setBlock)

section
variable {κ : Type} [DecidableEq κ] {enc : κ → Value} {w w' : World} {b : Nat} {es : List (κ × Value)} {kt : TypeId}
theorem kv_del {l1 l2 : List (En κ)} {t : En κ} {x : κ} (ht : t.k = x) (hnd : (((l1 ++ t :: l2).map En.kv).map (·.1)).Nodup) : (l1 ++ l2).map En.kv = delQ ((l1 ++ t :: l2).map En.kv) x := by
  have hnd' : ((l1 ++ t :: l2).map En.k).Nodup := by rw [List.map_map] at hnd; exact hnd
  rw [List.map_append, List.map_cons, List.nodup_append, List.nodup_cons] at hnd'
  obtain ⟨_, ⟨n2, _⟩, n1⟩ := hnd'
  unfold delQ
  rw [List.map_append, List.map_append, List.map_cons, List.filter_append, List.filter_cons]
  have e1 : ∀ m : List (En κ), (∀ u ∈ m, u.k ≠ x) → (m.map En.kv).filter (fun p => decide (p.1 ≠ x)) = m.map En.kv := fun m hm => by
    rw [List.filter_eq_self]
    intro p hp
    obtain ⟨u, hu, rfl⟩ := List.mem_map.1 hp
    exact decide_eq_true (hm u hu)
  rw [e1 l1 (fun u hu e => n1 _ (List.mem_map.2 ⟨u, hu, rfl⟩) _ (by simp) (e.trans ht.symm)), e1 l2 (fun u hu e => n2 (List.mem_map.2 ⟨u, hu, e.trans ht.symm⟩))]
  rw [if_neg (by simp [En.kv, ht])]
theorem findL_none {x : κ} : ∀ {l : List (En κ)} {i : Nat}, findL x l i = none → ∀ u ∈ l, u.k ≠ x
  | [], _, _ => by simp
  | t :: l, i, h => by
    unfold findL at h
    by_cases e : t.k = x
    · rw [if_pos e] at h
      cases h
    · rw [if_neg e] at h
      intro u hu
      rcases List.mem_cons.1 hu with rfl | hu
      · exact e
      · exact findL_none h u hu
/-- 'delete(m, k)'. -/
theorem MQ.del (K : KL kt enc) (h : MQ enc w b es) {T E : TypeId} (hT : Tryd.prog.underlying T = some (.map kt E)) (x : κ) (T2 : TypeId) :
    ∃ o o', w.heap[b]? = some o ∧ (∀ (W : World) (ty : TypeId), W.heap[b]? = some o → (Builtin.delete_ #[T, T2] ty #[.map (some b), enc x]).run Tryd.prog W = .ok (.tuple #[]) (setBlock W b o')) ∧ ∀ W : World, b < W.heap.size → MQ enc (setBlock W b o') b (delQ es x) := by
  have hnd := h.nd
  have hpn : ((delQ es x).map (·.1)).Nodup := hnd.sublist (List.filter_sublist.map _)
  obtain ⟨l, c, hb, rfl, hc, hp⟩ := h.ex
  cases hf : findL x l 0 with
  | none =>
    refine ⟨_, .map (l.map (En.e enc)).toArray c, hb, fun W ty hW => ?_, fun W hW => ⟨⟨l, c, ?_, ?_, hc, hp⟩, hpn⟩⟩
    · have hfi := K.find W x l
      rw [hf] at hfi
      simp [Builtin.delete_, run_underlying hT, MapKept.run_getObj_map hW, K.check W, hfi, MapKept.run_setObj_map _ hW, Result.andThen, setBlock]
    · rw [heap_setBlock _ hW]
    · unfold delQ
      rw [eq_comm, List.filter_eq_self]
      intro p hp
      obtain ⟨u, hu, rfl⟩ := List.mem_map.1 hp
      exact decide_eq_true (findL_none hf u hu)
  | some p =>
    obtain ⟨j, u⟩ := p
    obtain ⟨l1, t, l2, hl, ht, hj, _⟩ := findL_some hf
    rw [Nat.zero_add] at hj
    refine ⟨_, .map ((l.map (En.e enc)).toArray.eraseIdxIfInBounds j) c, hb, fun W ty hW => ?_, fun W hW => ⟨⟨l1 ++ l2, c, ?_, ?_, ?_, ?_⟩, hpn⟩⟩
    · have hfi := K.find W x l
      rw [hf] at hfi
      generalize (l.map (En.e enc)) = L at *
      simp [Builtin.delete_, run_underlying hT, MapKept.run_getObj_map hW, K.check W, hfi, MapKept.run_setObj_map _ hW, Result.andThen, setBlock]
    · rw [heap_setBlock _ hW]
      have e : (l.map (En.e enc)).toArray.eraseIdxIfInBounds j = ((l1 ++ l2).map (En.e enc)).toArray := by
        apply Array.ext'
        rw [hl, hj, Array.toList_eraseIdxIfInBounds]
        show ((l1 ++ t :: l2).map (En.e enc)).eraseIdx l1.length = (l1 ++ l2).map (En.e enc)
        rw [List.map_append, List.map_append, List.map_cons]
        have h1 : ∀ (a : List MapEntry) (y : MapEntry) (c : List MapEntry), (a ++ y :: c).eraseIdx a.length = a ++ c := fun a y c => by
          induction a with
          | nil => rfl
          | cons z a ih => simpa using ih
        have h2 := h1 (l1.map (En.e enc)) (En.e enc t) (l2.map (En.e enc))
        rw [List.length_map] at h2
        exact h2
      rw [e]
    · subst hl
      exact kv_del ht hnd
    · intro y hy
      subst hl
      rcases List.mem_append.1 hy with hy | hy
      · exact hc y (List.mem_append_left _ hy)
      · exact hc y (by simp [hy])
    · subst hl
      rw [List.map_append, List.map_cons, List.pairwise_append, List.pairwise_cons] at hp
      rw [List.map_append, List.pairwise_append]
      exact ⟨hp.1, hp.2.1.2, fun a ha d hd => hp.2.2 a ha d (List.mem_cons_of_mem _ hd)⟩
theorem del_map {β : Type} (f : β → Value) (l : List (κ × β)) (x : κ) : delQ (l.map (fun e => (e.1, f e.2))) x = (delA l x).map (fun e => (e.1, f e.2)) := by
  unfold delQ delA
  rw [List.filter_map]
  rfl
end

/-- What is popped. -/
def popR (p : PSt) : Nat × Bool := match p.stk.getLast? with
  | some a => (a, true)
  | none => (0, false)
def PSt.pop (p : PSt) : PSt := { p with stk := p.stk.dropLast }
def PSt.rest (p : PSt) : PSt := { p with ov := false }
def PSt.forget (p : PSt) (s : Nat) : PSt := { p with ma := delA p.ma s }
section
variable {w w' : World} {pb hb base sb mb tb : Nat} {v v' : Value} {p p' : PSt} {F : Nat → Prop} {h : HSt}
set_option maxRecDepth 20000 in
set_option maxHeartbeats 400000 in
theorem pforget_any (x : PX w pb hb base sb mb tb v p) (s : Nat) :
    Calls Tryd.prog 66 #[.pointer (some ⟨pb, 0, none⟩), .int .u64 (s : Int)] w fun e w' => e = .returned (.tuple #[]) ∧ PGo w w' pb hb base (pBl pb sb mb tb v) (p.forget s) := by
  have c3 := x.c3
  obtain ⟨o, o', h1, h2, h3⟩ := x.ma.del klU Tryd.underlying84 s 39
  have hD : ∀ ty, (Builtin.delete_ #[84, 39] ty #[.map (some mb), .int .u64 (s : Int)]).run Tryd.prog w = .ok (.tuple #[]) (setBlock w mb o') := fun ty => h2 w ty h1
  have HX : Hid (PGo w (setBlock w mb o') pb hb base (pBl pb sb mb tb v) (p.forget s)) := by
    have hk := kept_setBlock w mb o'
    have hm := h3 w x.ma.lt
    have e : delQ (p.ma.map mE) s = (delA p.ma s).map mE := del_map mV p.ma s
    rw [e] at hm
    obtain ⟨d1, d2, d3, d4, d5, d6, d7, d8, d9⟩ := x.d
    have hx : PX (setBlock w mb o') pb hb base sb mb tb v (p.forget s) := ⟨x.box.kept hk d2, x.sk.kept hk (fun k hq e => by
      have e' : k = mb := e
      subst e'
      rcases hq with hq | hq
      · exact d4 hq.symm
      · exact d8 hq), hm, x.me.kept hk (fun e => d6 e.symm), x.d, x.ge⟩
    exact hx.went (hk.mono (fun k _ e => Or.inr (Or.inr (Or.inl e)))) (Moved.refl _ _)
  clear h1 h2 h3 x
  go_enter Tryd.func66, Tryd.ntmps66
  go_wp2
  go_end0
  exact ⟨rfl, HX.out⟩
end
end Go.Proofs.YtdafpfdmnccelaaDoor
