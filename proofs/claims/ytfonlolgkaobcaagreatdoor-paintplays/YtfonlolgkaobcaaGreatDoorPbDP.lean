import Derived.Test.YtfonlolgkaobcaaGreatDoorPaTP
import Derived.Deep.CutRange
import Derived.Deep.CutBlock
/- The plain paint in memory. -/
/- The plain Mark. -/
/- The plain table of what was met: place. -/
/- The plain table of what was met: Get. -/
/- The plain Outs. -/
/- The plain stack within a paint: Push. -/
/- The plain stack within a paint: Push. -/
/- The program's Pop, Rest, Blacken, Forget. -/
/- The plain stack within a paint: Pop. -/
/- The plain paint: its blocks; NewPaint, Turn; marks that are written. -/
/- The plain Blacken, Forget. -/
/- The plain Forget. -/
namespace Go.Proofs.YtfonlolgkaobcaaGreatDoor
open Go.RowKit

/-- The cells of a mark, of marks. -/
def m3V (e : Nat × (Nat × Bool)) : List Value := [.int .u64 (e.1 : Int), .int .i64 (e.2.1 : Int), .bool e.2.2]
def msV (l : List (Nat × (Nat × Bool))) : List Value := l.flatMap m3V
theorem msV_app (a b : List (Nat × (Nat × Bool))) : msV (a ++ b) = msV a ++ msV b := by unfold msV; rw [List.flatMap_append]
theorem msV_len (l : List (Nat × (Nat × Bool))) : (msV l).length = l.length * 3 := by
  induction l with
  | nil => rfl
  | cons x l ih => unfold msV at *; rw [List.flatMap_cons, List.length_append, ih]; simp [m3V]; omega
theorem msV_at : ∀ (l : List (Nat × (Nat × Bool))) (i : Nat) (hi : i < l.length), (msV l)[i * 3]? = some (.int .u64 (l[i].1 : Int)) ∧ (msV l)[i * 3 + 1]? = some (.int .i64 (l[i].2.1 : Int)) ∧ (msV l)[i * 3 + 2]? = some (.bool l[i].2.2)
  | x :: l, 0, _ => ⟨rfl, rfl, rfl⟩
  | x :: l, i + 1, hi => by
    have := msV_at l i (by simpa using hi)
    have e1 : (i + 1) * 3 = i * 3 + 3 := by omega
    rw [e1]
    exact this
/-- The plain paint at qb of the plain heap at rb: its four lists sv, mv, kv, vv; L: what was met, rising. -/
structure RQ (w : World) (qb rb base : Nat) (sv mv kv vv : Value) (p : PSt) (L : List ((Int × Nat) × Nat)) : Prop where
  box : Row w qb 60 [.pointer (some ⟨rb, 0, none⟩), .int .i64 (p.M : Int), sv, .bool p.ov, .int .u64 (p.turns : Int), mv, .int .i64 1048576, kv, vv]
  sl : w.ownsRow base 39 1 sv p.stk.length (p.stk.map uV)
  ml : w.ownsRow base 98 3 mv p.ma.length (msV p.ma)
  kl : w.ownsRow base 39 1 kv L.length (L.map (fun o => uV (keyI o.1)))
  vl : w.ownsRow base 112 3 vv L.length (osV L)
  srt : OutsOf p.me L
  d : ∀ k, (sv.ownBlock = some k → k ≠ qb ∧ mv.ownBlock ≠ some k ∧ kv.ownBlock ≠ some k ∧ vv.ownBlock ≠ some k) ∧ (mv.ownBlock = some k → k ≠ qb ∧ kv.ownBlock ≠ some k ∧ vv.ownBlock ≠ some k) ∧ (kv.ownBlock = some k → k ≠ qb ∧ vv.ownBlock ≠ some k) ∧ (vv.ownBlock = some k → k ≠ qb)
  ge : base ≤ qb
  few : p.stk.length ≤ p.M ∧ 1 ≤ p.M ∧ p.M ≤ 64 ∧ p.ma.length ≤ 1000000 ∧ L.length ≤ 1000000
/-- Its blocks. -/
def qBl (qb : Nat) (sv mv kv vv : Value) (k : Nat) : Prop := k = qb ∨ sv.ownBlock = some k ∨ mv.ownBlock = some k ∨ kv.ownBlock = some k ∨ vv.ownBlock = some k
/-- What find answers: where the first mark of that serial lies. -/
def FoundAt (mv : Value) (l : List (Nat × (Nat × Bool))) (s : Nat) (e : Ending) : Prop := (∃ i m g cap, e = .returned (.pointer (some ⟨g, i * 3, none⟩)) ∧ mv = .slice (some ⟨g, 0, none⟩) l.length cap ∧ l[i]? = some (s, m) ∧ ∀ j y, j < i → l[j]? = some y → y.1 ≠ s) ∨ (e = .returned (.pointer none) ∧ ∀ y ∈ l, y.1 ≠ s)
section
variable {w w' : World} {qb rb base : Nat} {sv mv kv vv : Value} {p : PSt} {L : List ((Int × Nat) × Nat)} {S : Nat → Prop}
theorem RQ.kept (x : RQ w qb rb base sv mv kv vv p L) (hk : Kept w w' S) (hs : ∀ k, qBl qb sv mv kv vv k → ¬ S k) : RQ w' qb rb base sv mv kv vv p L :=
  ⟨x.box.kept hk (hs _ (Or.inl rfl)), own_kept x.sl hk (fun k h => hs k (Or.inr (Or.inl h))), own_kept x.ml hk (fun k h => hs k (Or.inr (Or.inr (Or.inl h)))), own_kept x.kl hk (fun k h => hs k (Or.inr (Or.inr (Or.inr (Or.inl h))))), own_kept x.vl hk (fun k h => hs k (Or.inr (Or.inr (Or.inr (Or.inr h))))), x.srt, x.d, x.ge, x.few⟩
theorem RQ.below (x : RQ w qb rb base sv mv kv vv p L) (hb : Below w.heap.size w w') : RQ w' qb rb base sv mv kv vv p L := x.kept (kept_of_below hb (fun _ => False)) (fun _ _ => id)
theorem RQ.lt (x : RQ w qb rb base sv mv kv vv p L) : ∀ k, qBl qb sv mv kv vv k → k < w.heap.size := by
  intro k hk
  rcases hk with rfl | hk | hk | hk | hk
  · exact x.box.lt
  · exact (ownc_lt x.sl k hk).2
  · exact (ownc_lt x.ml k hk).2
  · exact (ownc_lt x.kl k hk).2
  · exact (ownc_lt x.vl k hk).2
theorem RQ.gek (x : RQ w qb rb base sv mv kv vv p L) : ∀ k, qBl qb sv mv kv vv k → base ≤ k := by
  intro k hk
  rcases hk with rfl | hk | hk | hk | hk
  · exact x.ge
  · exact (ownc_lt x.sl k hk).1
  · exact (ownc_lt x.ml k hk).1
  · exact (ownc_lt x.kl k hk).1
  · exact (ownc_lt x.vl k hk).1
/-- The cells of a row of one's own. -/
theorem ownc_cell {E : TypeId} {c n : Nat} {v : Value} {l : List Value} (h : w.ownsRow base E c v n l) (h0 : 0 < n) : ∃ g cap, v = .slice (some ⟨g, 0, none⟩) n cap ∧ base ≤ g ∧ g < w.heap.size ∧ n ≤ cap ∧ (∀ j u, l[j]? = some u → w.cell? ⟨g, j, none⟩ = some u) ∧ ∀ j, w.frozen? ⟨g, j, none⟩ = false := by
  rcases h.2 with ⟨_, hn⟩ | ⟨g, cap, cur, hv, hb, hg, hn, hm, hs, ht⟩
  · omega
  · refine ⟨g, cap, hv, hb, (Array.getElem?_eq_some_iff.1 hg).1, hn, fun j u hu => ?_, fun j => frozen_of_row w g j _ _ hg⟩
    rw [cell_of_row w g j _ _ _ hg]
    rw [← ht] at hu
    have hlt : j < n * c := by
      have h1 := (List.getElem?_eq_some_iff.1 hu).1
      rw [List.length_take] at h1
      omega
    rw [List.getElem?_take_of_lt hlt] at hu
    simpa using hu

set_option maxRecDepth 20000 in
set_option maxHeartbeats 1000000 in
theorem rfind_any (x : RQ w qb rb base sv mv kv vv p L) (s : Nat) :
    Calls Tryz.prog 40 #[.pointer (some ⟨qb, 0, none⟩), .int .u64 (s : Int)] w fun e w' => w = w' ∧ FoundAt mv p.ma s e := by
  have c5 : w.cell? ⟨qb, 5, none⟩ = some mv := x.box.cell 5 (by simp)
  have hml := x.few.2.2.2.1
  obtain ⟨ao, cap, hmv⟩ := ownc_form x.ml
  have HC : Hid (∀ (i : Nat), i < p.ma.length → ∃ g y, ao = some ⟨g, 0, none⟩ ∧ p.ma[i]? = some y ∧ w.cell? ⟨g, i * 3, none⟩ = some (.int .u64 (y.1 : Int)) ∧ g < w.heap.size) := fun i hi => by
    obtain ⟨g, cap', e, _, h2, _, h3, _⟩ := ownc_cell x.ml (by omega)
    rw [hmv] at e
    simp only [Value.slice.injEq] at e
    exact ⟨g, p.ma[i], e.1, List.getElem?_eq_getElem hi, h3 _ _ (msV_at p.ma i hi).1, h2⟩
  subst hmv
  clear x
  generalize p.ma = l at *
  go_enter Tryz.func40, Tryz.ntmps40
  go_wp2
  go_loopw [5] (fun t wr => ∃ (i : Nat), i ≤ l.length ∧ t = .int .i64 (i : Int) ∧ wr = w ∧ ∀ j y, j < i → l[j]? = some y → y.1 ≠ s) (fun t _ => l.length - (intOf t).toNat)
  case atStart => exact ⟨0, Nat.zero_le _, rfl, rfl, fun j y hj => by omega⟩
  case round =>
    obtain ⟨i, hi, rfl, rfl, hno⟩ := hrel
    by_cases hlt : i < l.length
    · have hii : (i : Int) < (l.length : Int) := by omega
      obtain ⟨g, y, rfl, hy, d, hgl⟩ := HC.out i hlt
      have HNO : Hid _ := hidden hno
      have HY : Hid _ := hidden hy
      have HL : Hid (i + 1 ≤ l.length) := hlt
      obtain ⟨ys, ym⟩ := y
      simp only at d
      clear hno hy hlt
      by_cases he : ys = s
      · subst he
        go_wp2
        go_ret
        exact ⟨rfl, Or.inl ⟨i, ym, g, cap, by first | rfl | simp, rfl, HY.out, HNO.out⟩⟩
      · have hne : ((ys : Int) == (s : Int)) = false := by rw [beq_eq_false_iff_ne]; omega
        go_wp2
        go_roundw
        case rel =>
          refine ⟨i + 1, HL.out, by go_num, by first | trivial | rfl, fun j y hj hy => ?_⟩
          by_cases e : j = i
          · subst e
            rw [HY.out] at hy
            cases hy
            exact he
          · exact HNO.out j y (by omega) hy
        case measure => have := HL.out; simp [intOf]; omega
    · have hii : ¬ (i : Int) < (l.length : Int) := by omega
      have HE : Hid (∀ y ∈ l, y.1 ≠ s) := fun y he => by
        obtain ⟨j, hj, rfl⟩ := List.getElem_of_mem he
        exact hno j _ (by omega) (List.getElem?_eq_getElem hj)
      clear hno
      go_wp2
      go_ret
      exact ⟨rfl, Or.inr ⟨rfl, HE.out⟩⟩
end

end Go.Proofs.YtfonlolgkaobcaaGreatDoor

namespace Go.Proofs.YtfonlolgkaobcaaGreatDoor
open Go.RowKit

theorem found_get {l : List (Nat × (Nat × Bool))} {i s : Nat} {m : Nat × Bool} (h1 : l[i]? = some (s, m)) (h2 : ∀ j y, j < i → l[j]? = some y → y.1 ≠ s) : getA l s = some m := by
  unfold getA
  have h3 : l.find? (fun p => decide (p.1 = s)) = some (s, m) := by
    rw [List.find?_eq_some_iff_getElem]
    obtain ⟨hi, hv⟩ := List.getElem?_eq_some_iff.1 h1
    refine ⟨by simp, i, hi, hv, fun j hj => ?_⟩
    have := h2 j _ hj (List.getElem?_eq_getElem (by omega))
    simpa using this
  rw [h3]
  rfl
theorem found_no {l : List (Nat × (Nat × Bool))} {s : Nat} (h : ∀ y ∈ l, y.1 ≠ s) : getA l s = none := by
  unfold getA
  rw [Option.map_eq_none_iff, List.find?_eq_none]
  intro y hy
  simpa using h y hy
section
variable {w w' : World} {qb rb base ra rc rt : Nat} {sv mv kv vv lv : Value} {p : PSt} {L : List ((Int × Nat) × Nat)} {h : HSt} {M : List Pl}
set_option maxRecDepth 20000 in
set_option maxHeartbeats 1000000 in
theorem rmark_any (x : RQ w qb rb base sv mv kv vv p L) (y : RX w rb ra rc rt lv h M) (s : Nat) :
    Calls Tryz.prog 61 #[.pointer (some ⟨qb, 0, none⟩), .int .u64 (s : Int)] w fun e w' => e = .returned (.tuple #[.int .i64 ((markR h p s).1 : Int), .bool (markR h p s).2.1, .bool (markR h p s).2.2]) ∧ Below w.heap.size w w' := by
  have c0 : w.cell? ⟨qb, 0, none⟩ = some (.pointer (some ⟨rb, 0, none⟩)) := x.box.cell 0 (by simp)
  have hF := rfind_any x s
  have hG := rget_any y s
  have HGet : Hid (getC h.cs s = (getP M s).map (·.o)) := by
    have := getP_o M s
    rw [y.cs] at this
    exact this
  have HC : Hid (∀ i m g cap, mv = .slice (some ⟨g, 0, none⟩) p.ma.length cap → p.ma[i]? = some (s, m) → w.cell? ⟨g, i * 3 + 1, none⟩ = some (.int .i64 (m.1 : Int)) ∧ w.cell? ⟨g, i * 3 + 2, none⟩ = some (.bool m.2)) := fun i m g cap e hi => by
    obtain ⟨hi', hv⟩ := List.getElem?_eq_some_iff.1 hi
    obtain ⟨g', cap', e', _, _, _, h3, _⟩ := ownc_cell x.ml (by omega)
    rw [e] at e'
    simp only [Value.slice.injEq, Option.some.injEq, Addr.mk.injEq] at e'
    have hg : g = g' := e'.1.1
    subst hg
    have := msV_at p.ma i hi'
    rw [hv] at this
    exact ⟨h3 _ _ this.2.1, h3 _ _ this.2.2⟩
  clear x y
  go_enter Tryz.func61, Tryz.ntmps61
  go_wp2_with fail
  refine hF.mono ?_
  rintro e _ ⟨rfl, he⟩
  clear hF
  unfold FoundAt at he
  rcases he with ⟨i, m, g, cap, rfl, hmv, h1, h2⟩ | ⟨rfl, h1⟩
  · have hg := found_get h1 h2
    obtain ⟨d1, d2⟩ := HC.out i m g cap hmv h1
    obtain ⟨r, gr⟩ := m
    simp only at d1 d2
    cases hp : getP M s with
    | none =>
      rw [hp] at hG
      have HE : Hid (markR h p s = (0, false, false)) := by
        have : markR h p s = (0, false, false) := by
          unfold markR
          rw [HGet.out, hp]
          rfl
        exact this
      unfold ptrOf at hG
      clear h1 h2 hg hp hmv HC HGet
      go_wp2_with (go_at_call 41; refine hG.mono ?_; rintro e _ ⟨rfl, rfl⟩)
      go_ret3
      rw [HE.out]
      exact ⟨rfl, Below.refl _ _⟩
    | some pl =>
      rw [hp] at hG
      have HE : Hid (markR h p s = (r, gr, true)) := by
        have : markR h p s = (r, gr, true) := by
          unfold markR
          rw [HGet.out, hp, hg]
          rfl
        exact this
      unfold ptrOf at hG
      have f1 : ∀ m, (w.drewN m).cell? ⟨g, i * 3 + 1, none⟩ = some (.int .i64 (r : Int)) := fun _ => d1
      have f2 : ∀ m, (w.drewN m).cell? ⟨g, i * 3 + 2, none⟩ = some (.bool gr) := fun _ => d2
      clear h1 h2 hg hp hmv HC HGet
      go_wp2_with (go_at_call 41; refine hG.mono ?_; rintro e _ ⟨rfl, rfl⟩)
      go_quiet (fail)
      go_wp2
      go_ret3
      rw [HE.out]
      exact ⟨rfl, below_drewN0 _ _⟩
  · have hg := found_no h1
    have HE : Hid (markR h p s = (0, false, false)) := by
      have : markR h p s = (0, false, false) := by
        unfold markR
        rw [hg]
        cases getC h.cs s <;> rfl
      exact this
    clear h1 hg HC HGet hG
    go_wp2
    go_ret3
    rw [HE.out]
    exact ⟨rfl, Below.refl _ _⟩
end

end Go.Proofs.YtfonlolgkaobcaaGreatDoor

namespace Go.Proofs.YtfonlolgkaobcaaGreatDoor
open Go.RowKit

/-- What place answers. -/
structure PlaceAt (L : List ((Int × Nat) × Nat)) (k i : Nat) (ok : Bool) : Prop where
  le : i ≤ L.length
  lo : ∀ j y, j < i → L[j]? = some y → keyI y.1 < k
  hi : (∃ y, L[i]? = some y ∧ k ≤ keyI y.1 ∧ ok = decide (keyI y.1 = k)) ∨ (i = L.length ∧ ok = false)
def Placed (L : List ((Int × Nat) × Nat)) (k : Nat) (w w' : World) (e : Ending) : Prop := ∃ (i : Nat) (ok : Bool), e = .returned (.tuple #[.int .i64 (i : Int), .bool ok]) ∧ PlaceAt L k i ok ∧ Below w.heap.size w w'
theorem Placed.of {L : List ((Int × Nat) × Nat)} {k : Nat} {w w' : World} {e : Ending} (i : Nat) (ok : Bool) (h1 : e = .returned (.tuple #[.int .i64 (i : Int), .bool ok])) (h2 : PlaceAt L k i ok) (h3 : Below w.heap.size w w') : Placed L k w w' e := ⟨i, ok, h1, h2, h3⟩
section
variable {w w' : World} {qb rb base : Nat} {sv mv kv vv : Value} {p : PSt} {L : List ((Int × Nat) × Nat)}
set_option maxRecDepth 20000 in
set_option maxHeartbeats 1000000 in
theorem rplace_any (x : RQ w qb rb base sv mv kv vv p L) (k : Nat) :
    Calls Tryz.prog 86 #[.pointer (some ⟨qb, 6, none⟩), .int .u64 (k : Int)] w fun e w' => Placed L k w w' e := by
  have c7 : w.cell? ⟨qb, 7, none⟩ = some kv := x.box.cell 7 (by simp)
  have hll := x.few.2.2.2.2
  have hql := x.box.lt
  obtain ⟨ao, cap, hkv⟩ := ownc_form x.kl
  have HC : Hid (∀ (i : Nat), i < L.length → ∃ g y, ao = some ⟨g, 0, none⟩ ∧ L[i]? = some y ∧ w.cell? ⟨g, i, none⟩ = some (.int .u64 (keyI y.1 : Int)) ∧ g < w.heap.size) := fun i hi => by
    obtain ⟨g, cap', e, _, h2, _, h3, _⟩ := ownc_cell x.kl (by omega)
    rw [hkv] at e
    simp only [Value.slice.injEq] at e
    refine ⟨g, L[i], e.1, List.getElem?_eq_getElem hi, h3 i _ ?_, h2⟩
    rw [List.getElem?_map, List.getElem?_eq_getElem hi]
    rfl
  subst hkv
  clear x
  go_enter Tryz.func86, Tryz.ntmps86
  go_wp2
  go_loopw [6] (fun t wr => ∃ (i : Nat), i ≤ L.length ∧ t = .int .i64 (i : Int) ∧ wr = w ∧ ∀ j y, j < i → L[j]? = some y → keyI y.1 < k) (fun t _ => L.length - (intOf t).toNat)
  case atStart => exact ⟨0, Nat.zero_le _, rfl, rfl, fun j y hj => by omega⟩
  case round =>
    obtain ⟨i, hi, rfl, rfl, hno⟩ := hrel
    by_cases hlt : i < L.length
    · have hii : (i : Int) < (L.length : Int) := by omega
      obtain ⟨g, y, rfl, hy, d, hgl⟩ := HC.out i hlt
      have HNO : Hid _ := hidden hno
      have HY : Hid _ := hidden hy
      have HL : Hid (i + 1 ≤ L.length) := hlt
      obtain ⟨ky, hky⟩ : ∃ ky, ky = keyI y.1 := ⟨_, rfl⟩
      rw [← hky] at d
      have HK : Hid (ky = keyI y.1) := hidden hky
      clear hno hy hlt hky
      by_cases he : ky < k
      · have hnl : ¬ k ≤ ky := by omega
        go_wp2
        go_roundw
        case rel =>
          refine ⟨i + 1, HL.out, by go_num, by first | trivial | rfl, fun j z hj hz => ?_⟩
          by_cases e : j = i
          · subst e
            rw [HY.out] at hz
            cases hz
            rw [← HK.out]
            exact he
          · exact HNO.out j z (by omega) hz
        case measure => have := HL.out; simp [intOf]; omega
      · have hge : k ≤ ky := by omega
        have f7 : ∀ m, (wr.drewN m).cell? ⟨qb, 7, none⟩ = some (.slice (some ⟨g, 0, none⟩) L.length cap) := fun _ => c7
        have fd : ∀ m, (wr.drewN m).cell? ⟨g, i, none⟩ = some (.int .u64 (ky : Int)) := fun _ => d
        by_cases hq : ky = k
        · subst hq
          go_upto_region 5 with fail
          go_quiet (fail)
          go_wp2
          go_ret2
          exact Placed.of i true (by first | rfl | simp) ⟨by have := HL.out; omega, HNO.out, Or.inl ⟨y, HY.out, by rw [← HK.out]; exact Nat.le_refl _, by rw [← HK.out]; simp⟩⟩ (below_drewN0 _ _)
        · have hne : ((ky : Int) == (k : Int)) = false := by rw [beq_eq_false_iff_ne]; omega
          go_upto_region 5 with fail
          go_quiet (fail)
          go_wp2
          go_ret2
          exact Placed.of i false (by first | rfl | simp [hne] | simp [hq]) ⟨by have := HL.out; omega, HNO.out, Or.inl ⟨y, HY.out, by rw [← HK.out]; exact hge, by rw [← HK.out]; simp [hq]⟩⟩ (below_drewN0 _ _)
    · have hii : ¬ (i : Int) < (L.length : Int) := by omega
      have hE : i = L.length := by omega
      have HNO : Hid _ := hidden hno
      have HE : Hid (i = L.length) := hidden hE
      clear hno hE
      go_wp2
      go_ret2
      exact Placed.of i false (by first | rfl | (rw [HE.out]; rfl)) ⟨hi, HNO.out, Or.inr ⟨HE.out, rfl⟩⟩ (Below.refl _ _)
end

end Go.Proofs.YtfonlolgkaobcaaGreatDoor

namespace Go.Proofs.YtfonlolgkaobcaaGreatDoor
open Go.RowKit

/-- What stands at a key. -/
def atK (L : List ((Int × Nat) × Nat)) (k : Nat) : Option ((Int × Nat) × Nat) := L.find? (fun o => decide (keyI o.1 = k))
theorem PlaceAt.get {L : List ((Int × Nat) × Nat)} {k i : Nat} {ok : Bool} (hs : L.Pairwise (fun a b => keyI a.1 < keyI b.1)) (h : PlaceAt L k i ok) : (ok = true ∧ ∃ y, L[i]? = some y ∧ atK L k = some y) ∨ (ok = false ∧ atK L k = none) := by
  have hup : ∀ (j : Nat) y z, i < j → L[i]? = some y → L[j]? = some z → keyI y.1 < keyI z.1 := fun j y z hj hy hz => by
    obtain ⟨h1, e1⟩ := List.getElem?_eq_some_iff.1 hy
    obtain ⟨h2, e2⟩ := List.getElem?_eq_some_iff.1 hz
    rw [List.pairwise_iff_getElem] at hs
    have := hs i j h1 h2 hj
    rw [e1, e2] at this
    exact this
  rcases h.hi with ⟨y, hy, hk, ho⟩ | ⟨he, ho⟩
  · by_cases e : keyI y.1 = k
    · left
      refine ⟨by rw [ho]; simp [e], y, hy, ?_⟩
      unfold atK
      rw [List.find?_eq_some_iff_getElem]
      obtain ⟨h1, e1⟩ := List.getElem?_eq_some_iff.1 hy
      refine ⟨by simp [e], i, h1, e1, fun j hj => ?_⟩
      have := h.lo j _ hj (List.getElem?_eq_getElem (by omega))
      have hne : ¬ keyI (L[j]).1 = k := by omega
      simpa using hne
    · right
      refine ⟨by rw [ho]; simp [e], ?_⟩
      unfold atK
      rw [List.find?_eq_none]
      intro z hz
      obtain ⟨j, hj, rfl⟩ := List.getElem_of_mem hz
      have hne : ¬ keyI (L[j]).1 = k := by
        by_cases h1 : j < i
        · have := h.lo j _ h1 (List.getElem?_eq_getElem hj)
          omega
        · by_cases h2 : j = i
          · subst h2
            rw [List.getElem?_eq_getElem hj] at hy
            cases hy
            exact e
          · have := hup j y _ (by omega) hy (List.getElem?_eq_getElem hj)
            omega
      simpa using hne
  · right
    refine ⟨ho, ?_⟩
    unfold atK
    rw [List.find?_eq_none]
    intro z hz
    obtain ⟨j, hj, rfl⟩ := List.getElem_of_mem hz
    have := h.lo j _ (by omega) (List.getElem?_eq_getElem hj)
    have hne : ¬ keyI (L[j]).1 = k := by omega
    simpa using hne
/-- An Out as a value; none. -/
def outV (o : Option ((Int × Nat) × Nat)) : Value := match o with
  | some y => .agg #[.int .i64 y.1.1, .int .u64 (y.1.2 : Int), .int .i64 (y.2 : Int)]
  | none => .agg #[.int .i64 0, .int .u64 0, .int .i64 0]
section
variable {w w' : World} {qb rb base : Nat} {sv mv kv vv : Value} {p : PSt} {L : List ((Int × Nat) × Nat)}
set_option maxRecDepth 20000 in
set_option maxHeartbeats 1000000 in
theorem rtget_any (x : RQ w qb rb base sv mv kv vv p L) (k : Nat) :
    Calls Tryz.prog 57 #[.pointer (some ⟨qb, 6, none⟩), .int .u64 (k : Int)] w fun e w' => e = .returned (.tuple #[outV (atK L k), .bool (atK L k).isSome]) ∧ Below w.heap.size w w' := by
  have hPl := fun o => rplace_any (x.below (bel_alloc w o)) k
  have HS : Hid _ := hidden x.srt.2
  have HV : Hid (∀ W : World, Below w.heap.size w W → ∀ (i : Nat) y, L[i]? = some y → W.cell? ⟨qb, 8, none⟩ = some vv ∧ ∃ g cap, vv = .slice (some ⟨g, 0, none⟩) L.length cap ∧ W.cell? ⟨g, i * 3, none⟩ = some (.int .i64 y.1.1) ∧ W.cell? ⟨g, i * 3 + 1, none⟩ = some (.int .u64 (y.1.2 : Int)) ∧ W.cell? ⟨g, i * 3 + 2, none⟩ = some (.int .i64 (y.2 : Int)) ∧ g < W.heap.size ∧ i < L.length) := fun W hB i y hy => by
    have z := x.below hB
    obtain ⟨hi, hv⟩ := List.getElem?_eq_some_iff.1 hy
    obtain ⟨g, cap, e, _, h2, _, h3, _⟩ := ownc_cell z.vl (by omega)
    have := osV_at L i hi
    rw [hv] at this
    exact ⟨z.box.cell 8 (by simp), g, cap, e, h3 _ _ this.1, h3 _ _ this.2.1, h3 _ _ this.2.2, h2, hi⟩
  have hql := x.box.lt
  clear x
  go_enter Tryz.func57, Tryz.ntmps57
  go_wp2_with fail
  refine (hPl _).mono ?_
  rintro e w1 ⟨i, ok, rfl, hpa, b1⟩
  have d0 := b1.cell (p := ⟨w.heap.size, 0, none⟩) (by simp)
  have d1 := b1.cell (p := ⟨w.heap.size, 1, none⟩) (by simp)
  have d2 := b1.cell (p := ⟨w.heap.size, 2, none⟩) (by simp)
  have f0 := b1.frozen (p := ⟨w.heap.size, 0, none⟩) (by simp)
  have f1 := b1.frozen (p := ⟨w.heap.size, 1, none⟩) (by simp)
  have f2 := b1.frozen (p := ⟨w.heap.size, 2, none⟩) (by simp)
  simp at d0 d1 d2 f0 f1 f2
  have hz1 := b1.size
  simp at hz1
  have r1 : Row w1 w.heap.size 112 [.int .i64 0, .int .u64 0, .int .i64 0] := (show Row (w.alloc (.cells #[.int .i64 0, .int .u64 0, .int .i64 0] 112)) w.heap.size 112 _ from heap_alloc_new w _).below b1
  have hbw : Below w.heap.size w w1 := (bel_alloc _ _).trans (b1.mono (by simp))
  have HB : Hid _ := hidden hbw
  have hKB : Hid (∀ a b c a' b' c' : Value, Below w.heap.size w ((((((w1.setCell ⟨w.heap.size, 0, none⟩ a).setCell ⟨w.heap.size, 1, none⟩ b).setCell ⟨w.heap.size, 2, none⟩ c).setCell ⟨w.heap.size, 0, none⟩ a').setCell ⟨w.heap.size, 1, none⟩ b').setCell ⟨w.heap.size, 2, none⟩ c')) := fun a b c a' b' c' => by
    have hk : ∀ (W : World) (j : Nat) (v : Value), Kept W (W.setCell ⟨w.heap.size, j, none⟩ v) (fun k => k = w.heap.size) := fun W j v => Kept.setCell _ _ _
    have h1 := ((((((hk w1 0 a).trans (hk _ 1 b) (fun _ _ e => e)).trans (hk _ 2 c) (fun _ _ e => e)).trans (hk _ 0 a') (fun _ _ e => e)).trans (hk _ 1 b') (fun _ _ e => e)).trans (hk _ 2 c') (fun _ _ e => e))
    exact HB.out.trans (h1.below HB.out.size (fun i hi e => by have e' : i = w.heap.size := e; omega))
  rcases hpa.get HS.out with ⟨rfl, y, hy, ha⟩ | ⟨rfl, ha⟩
  · obtain ⟨c8, g, cap, rfl, q0, q1, q2, hgl, hil⟩ := HV.out w1 hbw i y hy
    have hii : (i : Int) < (L.length : Int) := by omega
    obtain ⟨⟨a, n⟩, r⟩ := y
    simp only at q0 q1 q2
    have HA : Hid _ := hidden ha
    have hqn : qb ≠ w.heap.size := by omega
    have HR : Hid _ := hidden ((((((r1.set 0 (.int .i64 a)).set 1 (.int .u64 (n : Int))).set 2 (.int .i64 (r : Int))).set 0 (.int .i64 a)).set 1 (.int .u64 (n : Int))).set 2 (.int .i64 (r : Int)))
    have HKB : Hid _ := hidden (hKB.out (.int .i64 a) (.int .u64 (n : Int)) (.int .i64 (r : Int)) (.int .i64 a) (.int .u64 (n : Int)) (.int .i64 (r : Int)))
    clear hpa hy ha HV hPl b1 hbw HS r1 hKB
    go_wp2
    generalize World.setCell _ _ _ = W6 at *
    have k0 := HR.out.cell 0 (by simp)
    have k1 := HR.out.cell 1 (by simp)
    have k2 := HR.out.cell 2 (by simp)
    simp at k0 k1 k2
    refine bodyPost_ret (v := .tuple #[.agg #[.int .i64 a, .int .u64 (n : Int), .int .i64 (r : Int)], .bool true]) (by simp [results, Tryz.results57, go_sem, *]) rfl ⟨by rw [HA.out]; rfl, HKB.out⟩
  · have HA : Hid _ := hidden ha
    have hKC : Hid (∀ a b c : Value, Below w.heap.size w (((w1.setCell ⟨w.heap.size, 0, none⟩ a).setCell ⟨w.heap.size, 1, none⟩ b).setCell ⟨w.heap.size, 2, none⟩ c)) := fun a b c => by
      have hk : ∀ (W : World) (j : Nat) (v : Value), Kept W (W.setCell ⟨w.heap.size, j, none⟩ v) (fun k => k = w.heap.size) := fun W j v => Kept.setCell _ _ _
      have h1 := ((hk w1 0 a).trans (hk _ 1 b) (fun _ _ e => e)).trans (hk _ 2 c) (fun _ _ e => e)
      exact HB.out.trans (h1.below HB.out.size (fun i hi e => by have e' : i = w.heap.size := e; omega))
    have HR : Hid _ := hidden (((r1.set 0 (.int .i64 0)).set 1 (.int .u64 0)).set 2 (.int .i64 0))
    have HKB : Hid _ := hidden (hKC.out (.int .i64 0) (.int .u64 0) (.int .i64 0))
    clear hpa ha HV hPl b1 hbw HS hKB hKC r1
    go_wp2
    generalize World.setCell _ _ _ = W6 at *
    have k0 := HR.out.cell 0 (by simp)
    have k1 := HR.out.cell 1 (by simp)
    have k2 := HR.out.cell 2 (by simp)
    simp at k0 k1 k2
    refine bodyPost_ret (v := .tuple #[.agg #[.int .i64 0, .int .u64 0, .int .i64 0], .bool false]) (by simp [results, Tryz.results57, go_sem, *]) rfl ⟨by rw [HA.out]; rfl, HKB.out⟩
end

end Go.Proofs.YtfonlolgkaobcaaGreatDoor

namespace Go.Proofs.YtfonlolgkaobcaaGreatDoor
open Go.RowKit

theorem osV_one (L : List ((Int × Nat) × Nat)) : ∀ u ∈ osV L, u.oneCell' = true := by
  intro u hu
  unfold osV at hu
  obtain ⟨o, _, hu⟩ := List.mem_flatMap.1 hu
  simp only [oV, List.mem_cons, List.not_mem_nil, or_false] at hu
  rcases hu with rfl | rfl | rfl <;> rfl
section
variable {w w' : World} {qb rb base : Nat} {sv mv kv vv : Value} {p : PSt} {L : List ((Int × Nat) × Nat)}
set_option maxRecDepth 20000 in
set_option maxHeartbeats 1000000 in
theorem routs_any (x : RQ w qb rb base sv mv kv vv p L) :
    Calls Tryz.prog 69 #[.pointer (some ⟨qb, 0, none⟩)] w fun e w' => ∃ v, e = .returned v ∧ OL w' w.heap.size v L ∧ Below w.heap.size w w' := by
  have c8 : w.cell? ⟨qb, 8, none⟩ = some vv := x.box.cell 8 (by simp)
  have hql := x.box.lt
  have hll := x.few.2.2.2.2
  have HS : Hid (∀ o, Sr (w.alloc o) vv 3 L.length (osV L)) := fun o => (own_sr x.vl (osV_one L)).below (bel_alloc w o)
  have HO : Hid ((w.alloc (.cells #[] 112)).ownsRow w.heap.size 112 3 (.slice (some ⟨w.heap.size, 0, none⟩) 0 0) 0 []) := ⟨rfl, Or.inr ⟨w.heap.size, 0, #[], rfl, Nat.le_refl _, heap_alloc_new w _, Nat.le_refl _, by unfold maxLen; omega, rfl, rfl⟩⟩
  have HF : Hid (∀ (w1 : World) v1, w1.ownsRow w.heap.size 112 3 v1 (0 + L.length) ([] ++ osV L) → OL w1 w.heap.size v1 L) := fun w1 v1 ho => by
    rw [Nat.zero_add, List.nil_append] at ho
    obtain ⟨ao, cap, e⟩ := ownc_form ho
    refine ⟨ao, cap, e, fun h0 => ?_⟩
    obtain ⟨g, cap', e', h1, h2, _, h3, _⟩ := ownc_cell ho h0
    rw [e] at e'
    simp only [Value.slice.injEq] at e'
    exact ⟨g, e'.1, h1, h2, h3⟩
  obtain ⟨i0, hi0, hz0, hz1, hz2⟩ := info_parts Tryz.infoOut
  obtain ⟨ao, cap, hv⟩ := ownc_form x.vl
  subst hv
  clear x
  have HBA : Hid (∀ w1, Kept (w.alloc (.cells #[] 112)) w1 (fun k => (Value.slice (some ⟨w.heap.size, 0, none⟩) 0 0).ownBlock = some k) → Below w.heap.size w w1) := fun w1 hk => (bel_alloc w _).trans (hk.below (by simp) (fun i hi e => by simp [Value.ownBlock] at e; omega))
  go_enter Tryz.func69, Tryz.ntmps69
  go_wp2_with (at_builtin; refine wpList_append_sr rfl (.tmp 3) (.tmp 8) 56 rfl 112 i0 _ 3 24 Tryz.underlying56 hi0 hz0 hz1 hz2 rfl (by omega) w.heap.size _ 0 [] rfl HO.out _ L.length (osV L) rfl (HS.out _) (by omega) (by omega) (by simp) ?_; intro v1 w1 ho1 hk1 hm1; have HL : Hid _ := hidden (HF.out _ _ ho1); have HB : Hid _ := hidden (HBA.out _ hk1); clear ho1 hk1 hm1 HF HBA HS HO)
  go_ret
  exact ⟨_, rfl, HL.out, HB.out⟩
end

end Go.Proofs.YtfonlolgkaobcaaGreatDoor

namespace Go.Proofs.YtfonlolgkaobcaaGreatDoor
open Go.RowKit

theorem own_mono1 {w : World} {b b' n : Nat} {E : TypeId} {v : Value} {l : List Value} (h : w.ownsRow b E 1 v n l) (hb : b' ≤ b) : w.ownsRow b' E 1 v n l := by
  refine ⟨h.1, ?_⟩
  rcases h.2 with h1 | ⟨g, cap, cur, rfl, h2, h3⟩
  · exact Or.inl h1
  · exact Or.inr ⟨g, cap, cur, rfl, Nat.le_trans hb h2, h3⟩
section
variable {w w1 : World} {qb rb base : Nat} {sv mv kv vv sv1 : Value} {p : PSt} {L : List ((Int × Nat) × Nat)}
theorem RQ.offq (x : RQ w qb rb base sv mv kv vv p L) : sv.ownBlock ≠ some qb ∧ mv.ownBlock ≠ some qb ∧ kv.ownBlock ≠ some qb ∧ vv.ownBlock ≠ some qb :=
  ⟨fun e => ((x.d qb).1 e).1 rfl, fun e => ((x.d qb).2.1 e).1 rfl, fun e => ((x.d qb).2.2.1 e).1 rfl, fun e => (x.d qb).2.2.2 e rfl⟩
theorem RQ.over (x : RQ w qb rb base sv mv kv vv p L) (b : Bool) (hb : Below w.heap.size w w1) : RQ (w1.setCell ⟨qb, 3, none⟩ (.bool b)) qb rb base sv mv kv vv { p with ov := b } L ∧ Kept w (w1.setCell ⟨qb, 3, none⟩ (.bool b)) (qBl qb sv mv kv vv) := by
  have y := x.below hb
  obtain ⟨o1, o2, o3, o4⟩ := x.offq
  have hk : Kept w1 (w1.setCell ⟨qb, 3, none⟩ (.bool b)) (fun k => k = qb) := Kept.setCell _ _ _
  have hno : ∀ {v : Value}, v.ownBlock ≠ some qb → ∀ k, v.ownBlock = some k → ¬ (k = qb) := fun h k e e' => h (by rw [e, e'])
  exact ⟨⟨y.box.set 3 (.bool b), own_kept y.sl hk (hno o1), own_kept y.ml hk (hno o2), own_kept y.kl hk (hno o3), own_kept y.vl hk (hno o4), y.srt, y.d, y.ge, y.few⟩, (kept_of_below hb _).trans hk (fun _ _ e => Or.inl e)⟩
/-- The stack's list is another one, in new memory. -/
theorem RQ.stack (x : RQ w qb rb base sv mv kv vv p L) {l : List Nat} (hb : Below w.heap.size w w1) (ho : w1.ownsRow w.heap.size 39 1 sv1 l.length (l.map uV)) (hl : l.length ≤ p.M) : RQ (w1.setCell ⟨qb, 2, none⟩ sv1) qb rb base sv1 mv kv vv { p with stk := l } L ∧ Kept w (w1.setCell ⟨qb, 2, none⟩ sv1) (qBl qb sv mv kv vv) ∧ w1.cell? ⟨qb, 2, none⟩ = some sv ∧ w1.frozen? ⟨qb, 2, none⟩ = false := by
  have y := x.below hb
  have hbs : base ≤ w.heap.size := by have := x.ge; have := x.box.lt; omega
  obtain ⟨o1, o2, o3, o4⟩ := x.offq
  have hlt := x.lt
  have hnew : ∀ k, sv1.ownBlock = some k → w.heap.size ≤ k := fun k e => (ownc_lt ho k e).1
  have hk : Kept w1 (w1.setCell ⟨qb, 2, none⟩ sv1) (fun k => k = qb) := Kept.setCell _ _ _
  have hno : ∀ {v : Value}, v.ownBlock ≠ some qb → ∀ k, v.ownBlock = some k → ¬ (k = qb) := fun h k e e' => h (by rw [e, e'])
  have hq1 : sv1.ownBlock ≠ some qb := fun e => by have := hnew qb e; have := x.box.lt; omega
  refine ⟨⟨y.box.set 2 sv1, own_kept (own_mono1 ho hbs) hk (hno hq1), own_kept y.ml hk (hno o2), own_kept y.kl hk (hno o3), own_kept y.vl hk (hno o4), y.srt, fun k => ⟨fun e => ⟨fun e' => hq1 (by rw [e, e']), fun e' => ?_, fun e' => ?_, fun e' => ?_⟩, (y.d k).2⟩, y.ge, hl, y.few.2⟩, (kept_of_below hb _).trans hk (fun _ _ e => Or.inl e), y.box.cell 2 (by simp), y.box.frozen 2⟩
  · have := hnew k e; have := hlt k (Or.inr (Or.inr (Or.inl e'))); omega
  · have := hnew k e; have := hlt k (Or.inr (Or.inr (Or.inr (Or.inl e')))); omega
  · have := hnew k e; have := hlt k (Or.inr (Or.inr (Or.inr (Or.inr e')))); omega
end

end Go.Proofs.YtfonlolgkaobcaaGreatDoor

namespace Go.Proofs.YtfonlolgkaobcaaGreatDoor
open Go.RowKit

theorem own_empty1 {w : World} {g base : Nat} {E : TypeId} (h : w.heap[g]? = some (.cells #[] E (0, 0))) (hb : base ≤ g) : w.ownsRow base E 1 (.slice (some ⟨g, 0, none⟩) 0 0) 0 [] :=
  ⟨by simp, Or.inr ⟨_, 0, #[], rfl, hb, h, Nat.le_refl _, Nat.zero_le _, by simp, by simp⟩⟩
theorem Tryz.infoW : (Tryz.prog.info? 39).map (fun i => (i.zero, i.size, i.bytes)) = some (some (.int .u64 0), 1, 8) := by kernel_rfl
section
variable {w : World} {qb rb base : Nat} {sv mv kv vv : Value} {p : PSt} {L : List ((Int × Nat) × Nat)}
set_option maxRecDepth 20000 in
set_option maxHeartbeats 400000 in
theorem qpush_full (x : RQ w qb rb base sv mv kv vv p L) (h : p.stk.length = p.M) (a : Nat) :
    Calls Tryz.prog 60 #[.pointer (some ⟨qb, 1, none⟩), .int .u64 (a : Int)] w fun e w' => e = .returned (.bool false) ∧ RQ w' qb rb base sv mv kv vv { p with ov := true } L ∧ Kept w w' (qBl qb sv mv kv vv) := by
  have c1 : w.cell? ⟨qb, 1, none⟩ = some (.int .i64 (p.M : Int)) := x.box.cell 1 (by simp)
  have c2 : w.cell? ⟨qb, 2, none⟩ = some sv := x.box.cell 2 (by simp)
  have c3 : w.cell? ⟨qb, 3, none⟩ = some (.bool p.ov) := x.box.cell 3 (by simp)
  have f3 := x.box.frozen 3
  have hf := x.few
  have HX : Hid (∀ w', Below w.heap.size w w' → _) := hidden (fun w' (hb : Below w.heap.size w w') => x.over true hb)
  obtain ⟨ao, cap, hv⟩ := ownc_form x.sl
  rw [h] at hv
  subst hv
  clear x h
  generalize p.M = n at *
  go_enter Tryz.func60, Tryz.ntmps60
  go_wp2
  go_quiet (fail)
  go_wp2
  go_ret
  exact ⟨rfl, HX.out _ (below_drewN0 _ _)⟩
set_option maxRecDepth 20000 in
set_option maxHeartbeats 1000000 in
theorem qpush_room (x : RQ w qb rb base sv mv kv vv p L) (h : p.stk.length < p.M) (a : Nat) :
    Calls Tryz.prog 60 #[.pointer (some ⟨qb, 1, none⟩), .int .u64 (a : Int)] w fun e w' => e = .returned (.bool true) ∧ ∃ sv', RQ w' qb rb base sv' mv kv vv { p with stk := p.stk ++ [a] } L ∧ Kept w w' (qBl qb sv mv kv vv) ∧ ∀ k, sv'.ownBlock = some k → w.heap.size ≤ k := by
  have c0 : w.cell? ⟨qb, 1, none⟩ = some (.int .i64 (p.M : Int)) := x.box.cell 1 (by simp)
  have c1 : w.cell? ⟨qb, 2, none⟩ = some sv := x.box.cell 2 (by simp)
  have hl := x.box.lt
  have hf := x.few
  have hno : ¬ ((p.M : Int) ≤ (p.stk.length : Int)) := by omega
  obtain ⟨ao, cap, hv⟩ := ownc_form x.sl
  obtain ⟨i, hi, hz0, hz1, hz2⟩ := info_parts Tryz.infoW
  have HT : Hid (∀ v1 w1, w1.ownsRow w.heap.size 39 1 v1 ((p.stk.map uV).length + 1) (p.stk.map uV ++ [Value.int .u64 (a : Int)]) → Below w.heap.size w w1 → (RQ (w1.setCell ⟨qb, 2, none⟩ v1) qb rb base v1 mv kv vv { p with stk := p.stk ++ [a] } L ∧ Kept w (w1.setCell ⟨qb, 2, none⟩ v1) (qBl qb sv mv kv vv) ∧ ∀ k, v1.ownBlock = some k → w.heap.size ≤ k) ∧ w1.cell? ⟨qb, 2, none⟩ = some sv ∧ w1.frozen? ⟨qb, 2, none⟩ = false) := by
    intro v1 w1 ho1 hb1
    have e : p.stk.map uV ++ [Value.int .u64 (a : Int)] = (p.stk ++ [a]).map uV := by simp [uV]
    have e2 : (p.stk.map uV).length + 1 = (p.stk ++ [a]).length := by simp
    rw [e, e2] at ho1
    obtain ⟨q1, q2, q3, q4⟩ := x.stack hb1 ho1 (by simp; omega)
    exact ⟨⟨q1, q2, fun k e => (ownc_lt ho1 k e).1⟩, q3, q4⟩
  have HSR : Hid (Sr w sv 1 (p.stk.map uV).length (p.stk.map uV)) := by
    show Sr w sv 1 (p.stk.map uV).length (p.stk.map uV)
    have h1 : Sr w sv 1 p.stk.length (p.stk.map uV) := own_sr x.sl (by intro u hu; obtain ⟨k, _, rfl⟩ := List.mem_map.1 hu; rfl)
    have h2 : (p.stk.map uV).length = p.stk.length := List.length_map _
    rw [h2]
    exact h1
  have HL : Hid ((p.stk.map uV).length = p.stk.length) := List.length_map _
  clear x
  subst hv
  have hnat : p.stk.length ≤ 64 := by omega
  have hM : p.M ≤ 64 := by omega
  have HL64 : Hid ((p.stk.map uV).length ≤ 64) := by
    have h : (p.stk.map uV).length ≤ 64 := by rw [HL.out]; exact hnat
    exact h
  clear h hf
  generalize p.stk.map uV = ls at *
  clear HL
  generalize p.stk.length = n at *
  generalize p.M = M at *
  go_enter Tryz.func60, Tryz.ntmps60
  go_wp2
  go_cut [14] from 5 to 14 (fun t wc => t = .bool false ∧ Below w.heap.size w wc)
  case first =>
    go_quiet (fail)
    go_wp2
    go_meet
    exact ⟨congrArg Value.bool (decide_eq_false (by omega)), below_drewN0 _ _⟩
  case rest =>
    obtain ⟨rfl, hbc⟩ := hcut
    have d1 := (hbc.cell (p := ⟨qb, 2, none⟩) hl).trans c1
    have HB : Hid _ := hidden hbc
    have hbz := hbc.size
    have hlc : qb < wc.heap.size := by omega
    clear c0 c1 hbc
    go_wp2_with (first
      | (at_builtin; refine wpList_append_sr rfl (.tmp 19) (.tmp 23) 52 rfl 39 i (.int .u64 0) 1 8 Tryz.underlying52 hi hz0 hz1 hz2 rfl (by omega) w.heap.size (.slice (some ⟨wc.heap.size, 0, none⟩) 0 0) 0 [] (by rfl) (own_empty1 (heap_alloc_new wc _) hbz) (.slice ao n cap) ls.length ls (by rfl) (HSR.out.below (HB.out.trans ((bel_alloc _ _).mono hbz))) (by have := HL64.out; omega) (by omega) (by simp; omega) ?_; intro v5 w5 ho5 hk5 hm5; rw [Nat.zero_add, List.nil_append] at ho5; have hb5 := (HB.out.trans ((bel_alloc _ _).mono hbz)).trans (hk5.below (by simp; omega) (fun q hq e => by simp [Value.ownBlock] at e; omega)); have HO5 : Hid _ := hidden ho5; have HB5 : Hid _ := hidden hb5; have hz5 := hb5.size; obtain ⟨ao5, n5, c5, hv5⟩ := own_form ho5; subst hv5; clear ho5 hb5 hk5 hm5)
      | (at_builtin; refine wpList_append_sr rfl (.tmp 24) (.tmp 26) 52 rfl 39 i (.int .u64 0) 1 8 Tryz.underlying52 hi hz0 hz1 hz2 rfl (by omega) w.heap.size (.slice ao5 n5 c5) ls.length ls (by rfl) (own_kept HO5.out (kept_of_below (bel_alloc _ _) (fun _ => False)) (fun _ _ => id)) (.slice (some ⟨w5.heap.size, 0, none⟩) 1 1) 1 [Value.int .u64 (a : Int)] (by rfl) (sr_val _ _ rfl _) (by have := HL64.out; omega) (by omega) (by simp; omega) ?_; intro v6 w6 ho6 hk6 hm6; have hb6 := (HB5.out.trans ((bel_alloc _ _).mono hz5)).trans (hk6.below (by simp; omega) (fun q hq e => by rcases HO5.out.2 with ⟨h0, _⟩ | ⟨g', _, _, h0, h1', _⟩; (cases h0; cases e); (cases h0; simp [Value.ownBlock] at e; omega))); obtain ⟨g6, e5, e6⟩ := HT.out v6 w6 ho6 hb6; have HG : Hid _ := hidden g6; obtain ⟨ao6, n6, c6, hv6⟩ := own_form ho6; subst hv6; clear g6 ho6 hb6 hk6 hm6))
    go_ret
    exact ⟨rfl, _, HG.out⟩
end

end Go.Proofs.YtfonlolgkaobcaaGreatDoor

namespace Go.Proofs.YtfonlolgkaobcaaGreatDoor
open Go.RowKit
open Go.ChangeMaps (setBlock)

section
variable {κ : Type} [DecidableEq κ] {enc : κ → Value} {w w' : World} {b : Nat} {es : List (κ × Value)} {kt : TypeId}
theorem kv_del {l1 l2 : List (En κ)} {t : En κ} {x : κ} (ht : t.k = x) (hnd : (((l1 ++ t :: l2).map En.kv).map (·.1)).Nodup) : (l1 ++ l2).map En.kv = delQ ((l1 ++ t :: l2).map En.kv) x := by
  have hnd' : ((l1 ++ t :: l2).map En.k).Nodup := by rw [List.map_map] at hnd; exact hnd
  rw [List.map_append, List.map_cons, List.nodup_append, List.nodup_cons] at hnd'
  obtain ⟨_, ⟨n2, _⟩, n1⟩ := hnd'
  unfold delQ
  rw [List.map_append, List.map_append, List.map_cons, List.filter_append, List.filter_cons]
  have e1 : ∀ m : List (En κ), (∀ u ∈ m, u.k ≠ x) → (m.map En.kv).filter (fun p => decide (p.1 ≠ x)) = m.map En.kv := fun m hm => by
    rw [List.filter_eq_self]
    intro p hp
    obtain ⟨u, hu, rfl⟩ := List.mem_map.1 hp
    exact decide_eq_true (hm u hu)
  rw [e1 l1 (fun u hu e => n1 _ (List.mem_map.2 ⟨u, hu, rfl⟩) _ (by simp) (e.trans ht.symm)), e1 l2 (fun u hu e => n2 (List.mem_map.2 ⟨u, hu, e.trans ht.symm⟩))]
  rw [if_neg (by simp [En.kv, ht])]
theorem findL_none {x : κ} : ∀ {l : List (En κ)} {i : Nat}, findL x l i = none → ∀ u ∈ l, u.k ≠ x
  | [], _, _ => by simp
  | t :: l, i, h => by
    unfold findL at h
    by_cases e : t.k = x
    · rw [if_pos e] at h
      cases h
    · rw [if_neg e] at h
      intro u hu
      rcases List.mem_cons.1 hu with rfl | hu
      · exact e
      · exact findL_none h u hu
/-- 'delete(m, k)'. -/
theorem MQ.del (K : KL kt enc) (h : MQ enc w b es) {T E : TypeId} (hT : Tryz.prog.underlying T = some (.map kt E)) (x : κ) (T2 : TypeId) :
    ∃ o o', w.heap[b]? = some o ∧ (∀ (W : World) (ty : TypeId), W.heap[b]? = some o → (Builtin.delete_ #[T, T2] ty #[.map (some b), enc x]).run Tryz.prog W = .ok (.tuple #[]) (setBlock W b o')) ∧ ∀ W : World, b < W.heap.size → MQ enc (setBlock W b o') b (delQ es x) := by
  have hnd := h.nd
  have hpn : ((delQ es x).map (·.1)).Nodup := hnd.sublist (List.filter_sublist.map _)
  obtain ⟨l, c, hb, rfl, hc, hp⟩ := h.ex
  cases hf : findL x l 0 with
  | none =>
    refine ⟨_, .map (l.map (En.e enc)).toArray c, hb, fun W ty hW => ?_, fun W hW => ⟨⟨l, c, ?_, ?_, hc, hp⟩, hpn⟩⟩
    · have hfi := K.find W x l
      rw [hf] at hfi
      simp [Builtin.delete_, run_underlying hT, MapKept.run_getObj_map hW, K.check W, hfi, MapKept.run_setObj_map _ hW, Result.andThen, setBlock]
    · rw [heap_setBlock _ hW]
    · unfold delQ
      rw [eq_comm, List.filter_eq_self]
      intro p hp
      obtain ⟨u, hu, rfl⟩ := List.mem_map.1 hp
      exact decide_eq_true (findL_none hf u hu)
  | some p =>
    obtain ⟨j, u⟩ := p
    obtain ⟨l1, t, l2, hl, ht, hj, _⟩ := findL_some hf
    rw [Nat.zero_add] at hj
    refine ⟨_, .map ((l.map (En.e enc)).toArray.eraseIdxIfInBounds j) c, hb, fun W ty hW => ?_, fun W hW => ⟨⟨l1 ++ l2, c, ?_, ?_, ?_, ?_⟩, hpn⟩⟩
    · have hfi := K.find W x l
      rw [hf] at hfi
      generalize (l.map (En.e enc)) = L at *
      simp [Builtin.delete_, run_underlying hT, MapKept.run_getObj_map hW, K.check W, hfi, MapKept.run_setObj_map _ hW, Result.andThen, setBlock]
    · rw [heap_setBlock _ hW]
      have e : (l.map (En.e enc)).toArray.eraseIdxIfInBounds j = ((l1 ++ l2).map (En.e enc)).toArray := by
        apply Array.ext'
        rw [hl, hj, Array.toList_eraseIdxIfInBounds]
        show ((l1 ++ t :: l2).map (En.e enc)).eraseIdx l1.length = (l1 ++ l2).map (En.e enc)
        rw [List.map_append, List.map_append, List.map_cons]
        have h1 : ∀ (a : List MapEntry) (y : MapEntry) (c : List MapEntry), (a ++ y :: c).eraseIdx a.length = a ++ c := fun a y c => by
          induction a with
          | nil => rfl
          | cons z a ih => simpa using ih
        have h2 := h1 (l1.map (En.e enc)) (En.e enc t) (l2.map (En.e enc))
        rw [List.length_map] at h2
        exact h2
      rw [e]
    · subst hl
      exact kv_del ht hnd
    · intro y hy
      subst hl
      rcases List.mem_append.1 hy with hy | hy
      · exact hc y (List.mem_append_left _ hy)
      · exact hc y (by simp [hy])
    · subst hl
      rw [List.map_append, List.map_cons, List.pairwise_append, List.pairwise_cons] at hp
      rw [List.map_append, List.pairwise_append]
      exact ⟨hp.1, hp.2.1.2, fun a ha d hd => hp.2.2 a ha d (List.mem_cons_of_mem _ hd)⟩
theorem del_map {β : Type} (f : β → Value) (l : List (κ × β)) (x : κ) : delQ (l.map (fun e => (e.1, f e.2))) x = (delA l x).map (fun e => (e.1, f e.2)) := by
  unfold delQ delA
  rw [List.filter_map]
  rfl
end

/-- What is popped. -/
def popR (p : PSt) : Nat × Bool := match p.stk.getLast? with
  | some a => (a, true)
  | none => (0, false)
def PSt.pop (p : PSt) : PSt := { p with stk := p.stk.dropLast }
def PSt.rest (p : PSt) : PSt := { p with ov := false }
def PSt.forget (p : PSt) (s : Nat) : PSt := { p with ma := delA p.ma s }
section
variable {w w' : World} {pb hb base sb mb tb : Nat} {v v' : Value} {p p' : PSt} {F : Nat → Prop} {h : HSt}
set_option maxRecDepth 20000 in
set_option maxHeartbeats 400000 in
theorem ppop_any (x : PX w pb hb base sb mb tb v p) :
    Calls Tryz.prog 11 #[.pointer (some ⟨pb, 0, none⟩)] w fun e w' => e = .returned (.tuple #[.int .u64 ((popR p).1 : Int), .bool (popR p).2]) ∧ PGo w w' pb hb base (pBl pb sb mb tb v) p.pop := by
  have c2 := x.c2
  rcases List.eq_nil_or_concat p.stk with e | ⟨l, a, e⟩
  · have hp := x.sk
    rw [e] at hp
    have hP := popU_none hp
    have e1 : popR p = (0, false) := by unfold popR; rw [e]; rfl
    have e2 : p.pop = p := by unfold PSt.pop; rw [e]; cases p; cases e; rfl
    rw [e1, e2]
    have HX : Hid _ := hidden (x.pn.stay (Below.refl _ _))
    clear hp e e1 e2 x
    go_enter Tryz.func11, Tryz.ntmps11
    go_wp2_with (go_at_call 42; refine hP.mono ?_; rintro e _ ⟨rfl, rfl⟩)
    go_ret2
    exact ⟨rfl, HX.out⟩
  · rw [List.concat_eq_append] at e
    have hp := x.sk
    rw [e, List.map_append, List.map_cons, List.map_nil] at hp
    have hP := popU_some hp
    have e1 : popR p = (a, true) := by unfold popR; rw [e]; simp
    have e2 : p.pop = { p with stk := l, ov := p.ov } := by unfold PSt.pop; rw [e]; simp
    rw [e1, e2]
    have HX : Hid (∀ w' v', GoU w w' sb base v v' p.M (l.map (fun n : Nat => (n : Int))) p.ov → PGo w w' pb hb base (pBl pb sb mb tb v) { p with stk := l, ov := p.ov }) := fun w' v' g => (x.stack g).went (g.k.mono (fun k _ e => Or.inr (Or.inl e))) g.m
    clear hp e e1 e2 x
    go_enter Tryz.func11, Tryz.ntmps11
    go_wp2_with (go_at_call 42; refine hP.mono ?_; rintro e w1 ⟨rfl, v1, g1⟩)
    go_ret2
    exact ⟨rfl, HX.out _ _ g1⟩
set_option maxRecDepth 20000 in
set_option maxHeartbeats 400000 in
theorem prest_any (x : PX w pb hb base sb mb tb v p) :
    Calls Tryz.prog 17 #[.pointer (some ⟨pb, 0, none⟩)] w fun e w' => e = .returned (.tuple #[]) ∧ PGo w w' pb hb base (pBl pb sb mb tb v) p.rest := by
  have c2 := x.c2
  have hR := restU_any x.sk
  have HX : Hid (∀ w' v', GoU w w' sb base v v' p.M (p.stk.map (fun n : Nat => (n : Int))) false → PGo w w' pb hb base (pBl pb sb mb tb v) p.rest) := fun w' v' g => (x.stack g).went (g.k.mono (fun k _ e => Or.inr (Or.inl e))) g.m
  clear x
  go_enter Tryz.func17, Tryz.ntmps17
  go_wp2_with (go_at_call 44; refine hR.mono ?_; rintro e w1 ⟨rfl, g1⟩)
  go_end0
  exact ⟨rfl, HX.out _ _ g1⟩
set_option maxRecDepth 20000 in
set_option maxHeartbeats 400000 in
theorem pforget_any (x : PX w pb hb base sb mb tb v p) (s : Nat) :
    Calls Tryz.prog 15 #[.pointer (some ⟨pb, 0, none⟩), .int .u64 (s : Int)] w fun e w' => e = .returned (.tuple #[]) ∧ PGo w w' pb hb base (pBl pb sb mb tb v) (p.forget s) := by
  have c3 := x.c3
  obtain ⟨o, o', h1, h2, h3⟩ := x.ma.del klU Tryz.underlying82 s 39
  have hD : ∀ ty, (Builtin.delete_ #[82, 39] ty #[.map (some mb), .int .u64 (s : Int)]).run Tryz.prog w = .ok (.tuple #[]) (setBlock w mb o') := fun ty => h2 w ty h1
  have HX : Hid (PGo w (setBlock w mb o') pb hb base (pBl pb sb mb tb v) (p.forget s)) := by
    have hk := kept_setBlock w mb o'
    have hm := h3 w x.ma.lt
    have e : delQ (p.ma.map mE) s = (delA p.ma s).map mE := del_map mV p.ma s
    rw [e] at hm
    obtain ⟨d1, d2, d3, d4, d5, d6, d7, d8, d9⟩ := x.d
    have hx : PX (setBlock w mb o') pb hb base sb mb tb v (p.forget s) := ⟨x.box.kept hk d2, x.sk.kept hk (fun k hq e => by
      have e' : k = mb := e
      subst e'
      rcases hq with hq | hq
      · exact d4 hq.symm
      · exact d8 hq), hm, x.me.kept hk (fun e => d6 e.symm), x.d, x.ge⟩
    exact hx.went (hk.mono (fun k _ e => Or.inr (Or.inr (Or.inl e)))) (Moved.refl _ _)
  clear h1 h2 h3 x
  go_enter Tryz.func15, Tryz.ntmps15
  go_wp2
  go_end0
  exact ⟨rfl, HX.out⟩
end
end Go.Proofs.YtfonlolgkaobcaaGreatDoor

namespace Go.Proofs.YtfonlolgkaobcaaGreatDoor
open Go.RowKit

section
variable {w w1 : World} {qb rb base : Nat} {sv mv kv vv : Value} {p : PSt} {L : List ((Int × Nat) × Nat)}
theorem RQ.popd (x : RQ w qb rb base sv mv kv vv p L) {l : List Nat} {a : Nat} (e : p.stk = l ++ [a]) : ∃ g cap, sv = .slice (some ⟨g, 0, none⟩) (l.length + 1) cap ∧ l.length + 1 ≤ cap ∧ cap ≤ maxLen ∧ g ≠ qb ∧ g < w.heap.size ∧ w.cell? ⟨g, l.length, none⟩ = some (.int .u64 (a : Int)) ∧
    ∀ w1, Below w.heap.size w w1 → RQ (w1.setCell ⟨qb, 2, none⟩ (.slice (some ⟨g, 0, none⟩) l.length cap)) qb rb base (.slice (some ⟨g, 0, none⟩) l.length cap) mv kv vv { p with stk := l } L ∧ Kept w (w1.setCell ⟨qb, 2, none⟩ (.slice (some ⟨g, 0, none⟩) l.length cap)) (qBl qb sv mv kv vv) := by
  have hl : p.stk.length = l.length + 1 := by rw [e]; simp
  obtain ⟨o1, o2, o3, o4⟩ := x.offq
  have hsl := x.sl
  rw [hl] at hsl
  rcases hsl.2 with ⟨_, h0⟩ | ⟨g, cap, cur, hv, hb, hg, hn, hm, hs, ht⟩
  · omega
  · have hgq : g ≠ qb := by intro e; subst e; exact o1 (by rw [hv]; rfl)
    rw [Nat.mul_one] at hs ht
    have hat : cur.toList[l.length]? = some (.int .u64 (a : Int)) := by
      have h2 : (cur.toList.take (l.length + 1))[l.length]? = some (.int .u64 (a : Int)) := by rw [ht, e]; simp [uV]
      rwa [List.getElem?_take_of_lt (by omega)] at h2
    have htl : cur.toList.take l.length = l.map uV := by
      have h2 : (cur.toList.take (l.length + 1)).take l.length = l.map uV := by rw [ht, e]; simp
      rwa [List.take_take, Nat.min_eq_left (by omega)] at h2
    refine ⟨g, cap, hv, hn, hm, hgq, (Array.getElem?_eq_some_iff.1 hg).1, ?_, fun w1 hb1 => ?_⟩
    · rw [cell_of_row w g _ _ _ _ hg]
      simpa using hat
    · have y := x.below hb1
      have hk : Kept w1 (w1.setCell ⟨qb, 2, none⟩ (.slice (some ⟨g, 0, none⟩) l.length cap)) (fun k => k = qb) := Kept.setCell _ _ _
      have hno : ∀ {v : Value}, v.ownBlock ≠ some qb → ∀ k, v.ownBlock = some k → ¬ (k = qb) := fun h k e e' => h (by rw [e, e'])
      have hg1 : w1.heap[g]? = some (.cells cur 39 (0, 0)) := (hb1.block g (Array.getElem?_eq_some_iff.1 hg).1).trans hg
      have hown : w1.ownsRow base 39 1 (.slice (some ⟨g, 0, none⟩) l.length cap) l.length (l.map uV) := ⟨by simp, Or.inr ⟨g, cap, cur, rfl, hb, hg1, by omega, hm, by rw [Nat.mul_one]; exact hs, by rw [Nat.mul_one]; exact htl⟩⟩
      have hq1 : (Value.slice (some ⟨g, 0, none⟩) l.length cap).ownBlock ≠ some qb := fun e => hgq (by simpa [Value.ownBlock] using e)
      have hsv : sv.ownBlock = some g := by rw [hv]; rfl
      refine ⟨⟨y.box.set 2 _, own_kept hown hk (hno hq1), own_kept y.ml hk (hno o2), own_kept y.kl hk (hno o3), own_kept y.vl hk (hno o4), y.srt, fun k => ⟨fun e => ?_, (y.d k).2⟩, y.ge, by have := x.few.1; show l.length ≤ p.M; omega, y.few.2⟩, (kept_of_below hb1 _).trans hk (fun _ _ e => Or.inl e)⟩
      have e' : g = k := by simpa [Value.ownBlock] using e
      subst e'
      exact (y.d g).1 hsv
set_option maxRecDepth 20000 in
set_option maxHeartbeats 400000 in
theorem qpop_none (x : RQ w qb rb base sv mv kv vv p L) (h : p.stk = []) :
    Calls Tryz.prog 12 #[.pointer (some ⟨qb, 1, none⟩)] w fun e w' => e = .returned (.tuple #[.int .u64 0, .bool false]) ∧ w = w' := by
  have c2 : w.cell? ⟨qb, 2, none⟩ = some sv := x.box.cell 2 (by simp)
  obtain ⟨ao, cap, hv⟩ := ownc_form x.sl
  rw [h, List.length_nil] at hv
  subst hv
  clear x
  go_enter Tryz.func12, Tryz.ntmps12
  go_wp2
  go_ret2
  exact ⟨rfl, rfl⟩
set_option maxRecDepth 20000 in
set_option maxHeartbeats 1000000 in
theorem qpop_some (x : RQ w qb rb base sv mv kv vv p L) {l : List Nat} {a : Nat} (e : p.stk = l ++ [a]) :
    Calls Tryz.prog 12 #[.pointer (some ⟨qb, 1, none⟩)] w fun e w' => e = .returned (.tuple #[.int .u64 (a : Int), .bool true]) ∧ ∃ sv', RQ w' qb rb base sv' mv kv vv { p with stk := l } L ∧ Kept w w' (qBl qb sv mv kv vv) ∧ sv'.ownBlock = sv.ownBlock := by
  obtain ⟨g, cap, hv, h1, h2, hgs, hgl, c, hT⟩ := x.popd e
  have c1 : w.cell? ⟨qb, 2, none⟩ = some sv := x.box.cell 2 (by simp)
  have f1 := x.box.frozen 2
  have hf := x.few
  have hn64 : l.length + 1 ≤ 64 := by
    have : p.stk.length = l.length + 1 := by rw [e]; simp
    omega
  have HT : Hid _ := hidden hT
  unfold maxLen at h2
  have HV : Hid (sv.ownBlock = some g) := by have h : sv.ownBlock = some g := by { rw [hv]; rfl }; exact h
  rw [hv] at c1
  clear x hT e hf hv
  generalize l.length = n at *
  go_enter Tryz.func12, Tryz.ntmps12
  go_upto_region 3 with fail
  go_cut [2] from 11 to 22 (fun t wc => t = .int .u64 (a : Int) ∧ wc = w.drew)
  case first =>
    go_region
    all_goals
      go_wp2
      go_meet
      exact ⟨rfl, rfl⟩
  case rest =>
    obtain ⟨rfl, rfl⟩ := hcut
    have d1 : w.drew.cell? ⟨qb, 2, none⟩ = _ := c1
    have e1 : w.drew.frozen? ⟨qb, 2, none⟩ = false := f1
    have HG : Hid (RQ (w.drew.drew.setCell ⟨qb, 2, none⟩ (.slice (some ⟨g, 0, none⟩) n cap)) qb rb base (.slice (some ⟨g, 0, none⟩) n cap) mv kv vv { p with stk := l } L ∧ Kept w (w.drew.drew.setCell ⟨qb, 2, none⟩ (.slice (some ⟨g, 0, none⟩) n cap)) (qBl qb sv mv kv vv)) := HT.out w.drew.drew (Below.refl _ _).drew.drew
    clear HT c1 f1 c
    go_upto_region 4 with fail
    go_cut [2] from 23 to 36 (fun t wc => t = .int .u64 (a : Int) ∧ wc = (w.drew.setCell ⟨qb, 2, none⟩ (.slice (some ⟨g, 0, none⟩) n cap)).drew)
    case first =>
      go_region
      all_goals
        go_wp2
        go_meet
        exact ⟨rfl, rfl⟩
    case rest =>
      obtain ⟨rfl, rfl⟩ := hcut
      clear d1 e1
      go_wp2
      go_ret2
      exact ⟨rfl, _, HG.out.1, HG.out.2, by rw [HV.out]; rfl⟩
theorem qpop_any (x : RQ w qb rb base sv mv kv vv p L) :
    Calls Tryz.prog 12 #[.pointer (some ⟨qb, 1, none⟩)] w fun e w' => e = .returned (.tuple #[.int .u64 ((popR p).1 : Int), .bool (popR p).2]) ∧ ∃ sv', RQ w' qb rb base sv' mv kv vv p.pop L ∧ Kept w w' (qBl qb sv mv kv vv) ∧ sv'.ownBlock = sv.ownBlock := by
  rcases List.eq_nil_or_concat p.stk with e | ⟨l, a, e⟩
  · have e1 : popR p = (0, false) := by unfold popR; rw [e]; rfl
    have e2 : p.pop = p := by unfold PSt.pop; rw [e]; cases p; cases e; rfl
    rw [e1, e2]
    exact (qpop_none x e).mono (fun e w' ⟨h1, h2⟩ => by subst h2; exact ⟨h1, sv, x, Kept.refl _ _, rfl⟩)
  · rw [List.concat_eq_append] at e
    have e1 : popR p = (a, true) := by unfold popR; rw [e]; simp
    have e2 : p.pop = { p with stk := l } := by unfold PSt.pop; rw [e]; simp
    rw [e1, e2]
    exact qpop_some x e
end
end Go.Proofs.YtfonlolgkaobcaaGreatDoor

namespace Go.Proofs.YtfonlolgkaobcaaGreatDoor
open Go.RowKit

/-- A plain paint and its blocks. -/
structure QN (w : World) (qb rb base : Nat) (G : Nat → Prop) (p : PSt) : Prop where
  ex : ∃ sv mv kv vv L, RQ w qb rb base sv mv kv vv p L ∧ ∀ k, G k ↔ qBl qb sv mv kv vv k
/-- What became of it. -/
structure QGo (w w' : World) (qb rb base : Nat) (G : Nat → Prop) (p : PSt) : Prop where
  ex : ∃ G', QN w' qb rb base G' p ∧ ∀ k, G' k → G k ∨ w.heap.size ≤ k
  kept : Kept w w' G
section
variable {w w' w1 : World} {qb rb base : Nat} {sv mv kv vv sv' mv' kv' vv' : Value} {p p' : PSt} {L L' : List ((Int × Nat) × Nat)} {G S : Nat → Prop}
theorem RQ.qn (x : RQ w qb rb base sv mv kv vv p L) : QN w qb rb base (qBl qb sv mv kv vv) p := ⟨sv, mv, kv, vv, L, x, fun _ => Iff.rfl⟩
theorem QN.kept (x : QN w qb rb base G p) (hk : Kept w w' S) (hs : ∀ k, G k → ¬ S k) : QN w' qb rb base G p := by
  obtain ⟨sv, mv, kv, vv, L, hx, hG⟩ := x.ex
  exact ⟨sv, mv, kv, vv, L, hx.kept hk (fun k h => hs k ((hG k).2 h)), hG⟩
theorem QN.below (x : QN w qb rb base G p) (hB : Below w.heap.size w w') : QN w' qb rb base G p := x.kept (kept_of_below hB (fun _ => False)) (fun _ _ => id)
theorem QN.lt (x : QN w qb rb base G p) : ∀ k, G k → k < w.heap.size := by
  obtain ⟨sv, mv, kv, vv, L, hx, hG⟩ := x.ex
  exact fun k h => hx.lt k ((hG k).1 h)
theorem QN.ge (x : QN w qb rb base G p) : ∀ k, G k → base ≤ k := by
  obtain ⟨sv, mv, kv, vv, L, hx, hG⟩ := x.ex
  exact fun k h => hx.gek k ((hG k).1 h)
theorem QN.stay (x : QN w qb rb base G p) (hB : Below w.heap.size w w') : QGo w w' qb rb base G p := ⟨⟨G, x.below hB, fun _ h => Or.inl h⟩, kept_of_below hB _⟩
theorem QGo.trans {G1 : Nat → Prop} (h1 : ∀ k, G1 k → G k ∨ w.heap.size ≤ k) (k1 : Kept w w1 G) (h2 : QGo w1 w' qb rb base G1 p) : QGo w w' qb rb base G p := by
  obtain ⟨G2, hp, hG2⟩ := h2.ex
  refine ⟨⟨G2, hp, fun k hk => ?_⟩, k1.trans h2.kept (fun i hi e => ?_)⟩
  · rcases hG2 k hk with e | e
    · exact h1 k e
    · exact Or.inr (Nat.le_trans k1.size e)
  · rcases h1 i e with e | e
    · exact e
    · omega
theorem RQ.went (x : RQ w' qb rb base sv' mv' kv' vv' p' L') (hk : Kept w w' (qBl qb sv mv kv vv)) (hs : Moved w sv sv') (hm : Moved w mv mv') (hkk : Moved w kv kv') (hv : Moved w vv vv') : QGo w w' qb rb base (qBl qb sv mv kv vv) p' := by
  refine ⟨⟨_, x.qn, fun k hk => ?_⟩, hk⟩
  rcases hk with hk | hk | hk | hk | hk
  · exact Or.inl (Or.inl hk)
  · rcases hs k hk with e | e
    · exact Or.inl (Or.inr (Or.inl e))
    · exact Or.inr e
  · rcases hm k hk with e | e
    · exact Or.inl (Or.inr (Or.inr (Or.inl e)))
    · exact Or.inr e
  · rcases hkk k hk with e | e
    · exact Or.inl (Or.inr (Or.inr (Or.inr (Or.inl e))))
    · exact Or.inr e
  · rcases hv k hk with e | e
    · exact Or.inl (Or.inr (Or.inr (Or.inr (Or.inr e))))
    · exact Or.inr e
/-- The marks are another list. -/
theorem RQ.marks (x : RQ w qb rb base sv mv kv vv p L) {l : List (Nat × (Nat × Bool))} (hk : Kept w w1 (fun k => mv.ownBlock = some k)) (ho : w1.ownsRow base 98 3 mv' l.length (msV l)) (hm : Moved w mv mv') (hl : l.length ≤ 1000000) :
    (RQ (w1.setCell ⟨qb, 5, none⟩ mv') qb rb base sv mv' kv vv { p with ma := l } L ∧ Kept w (w1.setCell ⟨qb, 5, none⟩ mv') (qBl qb sv mv kv vv)) ∧ w1.cell? ⟨qb, 5, none⟩ = some mv ∧ w1.frozen? ⟨qb, 5, none⟩ = false ∧ qb < w1.heap.size := by
  obtain ⟨o1, o2, o3, o4⟩ := x.offq
  have hlt := x.lt
  have hkb : Kept w1 (w1.setCell ⟨qb, 5, none⟩ mv') (fun k => k = qb) := Kept.setCell _ _ _
  have hno : ∀ {v : Value}, v.ownBlock ≠ some qb → ∀ k, v.ownBlock = some k → ¬ (k = qb) := fun h k e e' => h (by rw [e, e'])
  have b1 := x.box.kept hk o2
  have hq1 : mv'.ownBlock ≠ some qb := fun e => by
    rcases hm qb e with e | e
    · exact o2 e
    · have := x.box.lt; omega
  have s1 := own_kept x.sl hk (fun k e e' => ((x.d k).1 e).2.1 e')
  have k1 := own_kept x.kl hk (fun k e e' => ((x.d k).2.1 e').2.1 e)
  have v1 := own_kept x.vl hk (fun k e e' => ((x.d k).2.1 e').2.2 e)
  refine ⟨⟨⟨b1.set 5 mv', own_kept s1 hkb (hno o1), own_kept ho hkb (hno hq1), own_kept k1 hkb (hno o3), own_kept v1 hkb (hno o4), x.srt, fun k => ⟨fun e => ?_, fun e => ?_, (x.d k).2.2⟩, x.ge, x.few.1, x.few.2.1, x.few.2.2.1, hl, x.few.2.2.2.2⟩, (hk.mono (fun k _ e => Or.inr (Or.inr (Or.inl e)))).trans hkb (fun _ _ e => Or.inl e)⟩, b1.cell 5 (by simp), b1.frozen 5, b1.lt⟩
  · obtain ⟨d1, d2, d3, d4⟩ := (x.d k).1 e
    refine ⟨d1, fun e' => ?_, d3, d4⟩
    rcases hm k e' with e' | e'
    · exact d2 e'
    · have := hlt k (Or.inr (Or.inl e)); omega
  · rcases hm k e with e' | e'
    · exact (x.d k).2.1 e'
    · refine ⟨fun e2 => ?_, fun e2 => ?_, fun e2 => ?_⟩
      · have := x.box.lt; omega
      · have := hlt k (Or.inr (Or.inr (Or.inr (Or.inl e2)))); omega
      · have := hlt k (Or.inr (Or.inr (Or.inr (Or.inr e2)))); omega
theorem msV_set (l : List (Nat × (Nat × Bool))) (i s r : Nat) (g : Bool) (hi : i < l.length) (hs : l[i].1 = s) : msV (l.set i (s, (r, g))) = ((msV l).set (i * 3 + 1) (.int .i64 (r : Int))).set (i * 3 + 2) (.bool g) := by
  induction l generalizing i with
  | nil => simp at hi
  | cons x l ih =>
    cases i with
    | zero =>
      simp only [List.getElem_cons_zero] at hs
      subst hs
      rfl
    | succ i =>
      have h := ih i (by simpa using hi) (by simpa using hs)
      have e1 : (i + 1) * 3 + 1 = i * 3 + 1 + 3 := by omega
      have e2 : (i + 1) * 3 + 2 = i * 3 + 2 + 3 := by omega
      rw [e1, e2]
      show m3V x ++ msV (l.set i (s, (r, g))) = ((m3V x ++ msV l).set (i * 3 + 1 + 3) _).set (i * 3 + 2 + 3) _
      rw [h]
      rfl
/-- One mark is written. -/
theorem RQ.mark (x : RQ w qb rb base sv mv kv vv p L) {i s : Nat} {m : Nat × Bool} {g cap n : Nat} (hi : p.ma[i]? = some (s, m)) (hv : mv = .slice (some ⟨g, 0, none⟩) n cap) (r' : Nat) (g' : Bool) :
    (RQ ((w.setCell ⟨g, i * 3 + 1, none⟩ (.int .i64 (r' : Int))).setCell ⟨g, i * 3 + 2, none⟩ (.bool g')) qb rb base sv mv kv vv { p with ma := p.ma.set i (s, (r', g')) } L ∧ Kept w ((w.setCell ⟨g, i * 3 + 1, none⟩ (.int .i64 (r' : Int))).setCell ⟨g, i * 3 + 2, none⟩ (.bool g')) (qBl qb sv mv kv vv)) ∧
    w.cell? ⟨g, i * 3 + 1, none⟩ = some (.int .i64 (m.1 : Int)) ∧ w.cell? ⟨g, i * 3 + 2, none⟩ = some (.bool m.2) ∧ w.frozen? ⟨g, i * 3 + 1, none⟩ = false ∧ w.frozen? ⟨g, i * 3 + 2, none⟩ = false ∧ g < w.heap.size ∧ g ≠ qb := by
  obtain ⟨hi', he⟩ := List.getElem?_eq_some_iff.1 hi
  obtain ⟨o1, o2, o3, o4⟩ := x.offq
  have hg : mv.ownBlock = some g := by rw [hv]; rfl
  have hgq : g ≠ qb := fun e => o2 (by rw [hg, e])
  obtain ⟨g2, cap2, hv2, _, hgl, _, hc, hf⟩ := ownc_cell x.ml (by omega)
  rw [hv] at hv2
  simp only [Value.slice.injEq, Option.some.injEq, Addr.mk.injEq] at hv2
  have eg : g = g2 := hv2.1.1
  subst eg
  have hat := msV_at p.ma i hi'
  rw [he] at hat
  have hk : Kept w ((w.setCell ⟨g, i * 3 + 1, none⟩ (.int .i64 (r' : Int))).setCell ⟨g, i * 3 + 2, none⟩ (.bool g')) (fun k => mv.ownBlock = some k) := (Kept.setCell w ⟨g, i * 3 + 1, none⟩ (.int .i64 (r' : Int))).trans (Kept.setCell _ ⟨g, i * 3 + 2, none⟩ (.bool g')) (fun _ _ e => e) |>.mono (fun k _ e => by
    have e' : k = g := e
    rw [hg, e'])
  have hml : ((w.setCell ⟨g, i * 3 + 1, none⟩ (.int .i64 (r' : Int))).setCell ⟨g, i * 3 + 2, none⟩ (.bool g')).ownsRow base 98 3 mv (p.ma.set i (s, (r', g'))).length (msV (p.ma.set i (s, (r', g')))) := by
    rw [List.length_set, msV_set p.ma i s r' g' hi' (by rw [he])]
    rcases x.ml.2 with ⟨h0, _⟩ | ⟨g3, cap3, cur, hv3, hb3, hg3, hn3, hm3, hs3, ht3⟩
    · rw [h0] at hg; cases hg
    · have e3 : g3 = g := by rw [hv3] at hg; simpa [Value.ownBlock] using hg
      subst e3
      have hs1 : (w.setCell ⟨g3, i * 3 + 1, none⟩ (.int .i64 (r' : Int))).heap[g3]? = some (.cells (cur.setIfInBounds (i * 3 + 1) (.int .i64 (r' : Int))) 98 (0, 0)) := heap_setCell_same w g3 _ _ _ _ hg3
      have hs2 := heap_setCell_same _ g3 (i * 3 + 2) _ _ (.bool g') hs1
      refine ⟨by rw [List.length_set, List.length_set]; exact x.ml.1, Or.inr ⟨g3, cap3, _, hv3, hb3, hs2, hn3, hm3, by simpa using hs3, ?_⟩⟩
      rw [Array.toList_setIfInBounds, Array.toList_setIfInBounds, List.take_set, List.take_set, ht3]
  refine ⟨⟨⟨x.box.kept hk o2, own_kept x.sl hk (fun k e e' => ((x.d k).1 e).2.1 e'), hml, own_kept x.kl hk (fun k e e' => ((x.d k).2.1 e').2.1 e), own_kept x.vl hk (fun k e e' => ((x.d k).2.1 e').2.2 e), x.srt, x.d, x.ge, x.few.1, x.few.2.1, x.few.2.2.1, by rw [List.length_set]; exact x.few.2.2.2.1, x.few.2.2.2.2⟩, hk.mono (fun k _ e => Or.inr (Or.inr (Or.inl e)))⟩, hc _ _ hat.2.1, hc _ _ hat.2.2, hf _, hf _, hgl, hgq⟩
/-- Put at a key that is there, or is not. -/
theorem putA_set {κ β : Type} [DecidableEq κ] {l : List (κ × β)} (hnd : (l.map (·.1)).Nodup) {i : Nat} {s : κ} {m v : β} (hi : l[i]? = some (s, m)) : putA l s v = l.set i (s, v) := by
  have hs : (getA l s).isSome = true := by
    unfold getA
    rw [Option.isSome_map, List.find?_isSome]
    exact ⟨_, List.mem_of_getElem? hi, by simp⟩
  unfold putA
  rw [if_pos hs]
  apply List.ext_getElem?
  intro j
  rw [List.getElem?_map, List.getElem?_set]
  obtain ⟨hi', he⟩ := List.getElem?_eq_some_iff.1 hi
  by_cases e : i = j
  · subst e
    rw [if_pos rfl, if_pos hi', hi]
    simp
  · rw [if_neg e]
    cases hj : l[j]? with
    | none => rfl
    | some y =>
      obtain ⟨hj', hej⟩ := List.getElem?_eq_some_iff.1 hj
      have hne : ¬ y.1 = s := by
        intro hc
        have hnd' : (l.map (·.1)).Pairwise (· ≠ ·) := hnd
        rw [List.pairwise_iff_getElem] at hnd'
        rcases Nat.lt_or_gt_of_ne e with h | h
        · have := hnd' i j (by simpa using hi') (by simpa using hj') h
          rw [List.getElem_map, List.getElem_map, he, hej] at this
          exact this hc.symm
        · have := hnd' j i (by simpa using hj') (by simpa using hi') h
          rw [List.getElem_map, List.getElem_map, he, hej] at this
          exact this hc
      rw [Option.map_some, if_neg hne]
theorem putA_new {κ β : Type} [DecidableEq κ] {l : List (κ × β)} {s : κ} {v : β} (h : getA l s = none) : putA l s v = l ++ [(s, v)] := by
  unfold putA
  rw [h]
  rfl
theorem putA_nodup {κ β : Type} [DecidableEq κ] {l : List (κ × β)} (hnd : (l.map (·.1)).Nodup) (s : κ) (v : β) : ((putA l s v).map (·.1)).Nodup := by
  unfold putA
  split
  · rw [List.map_map]
    have e : l.map ((fun x : κ × β => x.1) ∘ fun p => if p.1 = s then (s, v) else p) = l.map (·.1) := by
      apply List.map_congr_left
      intro p _
      simp only [Function.comp]
      split
      · next e => exact e.symm
      · rfl
    rw [e]
    exact hnd
  · next h =>
    have hn : getA l s = none := by simpa using h
    unfold getA at hn
    rw [Option.map_eq_none_iff, List.find?_eq_none] at hn
    rw [List.map_append, List.nodup_append]
    refine ⟨hnd, by simp, fun a ha b hb => ?_⟩
    simp only [List.map_cons, List.map_nil, List.mem_singleton] at hb
    subst hb
    obtain ⟨p, hp, rfl⟩ := List.mem_map.1 ha
    simpa using hn p hp
set_option maxRecDepth 20000 in
set_option maxHeartbeats 400000 in
theorem rnewp_any (M : Nat) (h1 : 1 ≤ M) (h2 : M ≤ 64) (rb base : Nat) (w : World) (hbase : base ≤ w.heap.size) :
    Calls Tryz.prog 7 #[.pointer (some ⟨rb, 0, none⟩), .int .i64 (M : Int)] w fun e w' => e = .returned (.pointer (some ⟨w.heap.size, 0, none⟩)) ∧ RQ w' w.heap.size rb base (.slice none 0 0) (.slice none 0 0) (.slice none 0 0) (.slice none 0 0) (PSt.new M) [] ∧ Below w.heap.size w w' := by
  go_enter Tryz.func7, Tryz.ntmps7
  go_wp2
  go_ret
  have hb := bel_alloc w (.cells #[.pointer (some ⟨rb, 0, none⟩), .int .i64 (M : Int), .slice none 0 0, .bool false, .int .u64 0, .slice none 0 0, .int .i64 1048576, .slice none 0 0, .slice none 0 0] 60)
  refine ⟨rfl, ⟨heap_alloc_new w _, ⟨rfl, Or.inl ⟨rfl, rfl⟩⟩, ⟨rfl, Or.inl ⟨rfl, rfl⟩⟩, ⟨rfl, Or.inl ⟨rfl, rfl⟩⟩, ⟨rfl, Or.inl ⟨rfl, rfl⟩⟩, ⟨List.Perm.refl _, List.Pairwise.nil⟩, fun k => ⟨(fun e => (by cases e)), (fun e => (by cases e)), (fun e => (by cases e)), (fun e => (by cases e))⟩, hbase, Nat.zero_le _, h1, h2, Nat.zero_le _, Nat.zero_le _⟩, hb⟩
set_option maxRecDepth 20000 in
set_option maxHeartbeats 400000 in
theorem rturn_any (x : RQ w qb rb base sv mv kv vv p L) (ht : p.turns < 1000000) :
    Calls Tryz.prog 19 #[.pointer (some ⟨qb, 0, none⟩)] w fun e w' => e = .returned (.tuple #[]) ∧ QGo w w' qb rb base (qBl qb sv mv kv vv) p.turn := by
  have c4 : w.cell? ⟨qb, 4, none⟩ = some (.int .u64 (p.turns : Int)) := x.box.cell 4 (by simp)
  have c5 : w.cell? ⟨qb, 5, none⟩ = some mv := x.box.cell 5 (by simp)
  have c7 : w.cell? ⟨qb, 7, none⟩ = some kv := x.box.cell 7 (by simp)
  have c8 : w.cell? ⟨qb, 8, none⟩ = some vv := x.box.cell 8 (by simp)
  have c2 : w.cell? ⟨qb, 2, none⟩ = some sv := x.box.cell 2 (by simp)
  have c3 : w.cell? ⟨qb, 3, none⟩ = some (.bool p.ov) := x.box.cell 3 (by simp)
  have f2 := x.box.frozen 2
  have f3 := x.box.frozen 3
  have f4 := x.box.frozen 4
  have f5 := x.box.frozen 5
  have f7 := x.box.frozen 7
  have f8 := x.box.frozen 8
  have hl := x.box.lt
  have HX : Hid (QGo w ((((((w.setCell ⟨qb, 4, none⟩ (.int .u64 ((p.turns : Int) + 1))).setCell ⟨qb, 5, none⟩ (.slice none 0 0)).setCell ⟨qb, 7, none⟩ (.slice none 0 0)).setCell ⟨qb, 8, none⟩ (.slice none 0 0)).setCell ⟨qb, 2, none⟩ (.slice none 0 0)).setCell ⟨qb, 3, none⟩ (.bool false)) qb rb base (qBl qb sv mv kv vv) p.turn) := by
    have b := (((((x.box.set 4 (.int .u64 ((p.turns : Int) + 1))).set 5 (.slice none 0 0)).set 7 (.slice none 0 0)).set 8 (.slice none 0 0)).set 2 (.slice none 0 0)).set 3 (.bool false)
    have hk : Kept w ((((((w.setCell ⟨qb, 4, none⟩ (.int .u64 ((p.turns : Int) + 1))).setCell ⟨qb, 5, none⟩ (.slice none 0 0)).setCell ⟨qb, 7, none⟩ (.slice none 0 0)).setCell ⟨qb, 8, none⟩ (.slice none 0 0)).setCell ⟨qb, 2, none⟩ (.slice none 0 0)).setCell ⟨qb, 3, none⟩ (.bool false)) (qBl qb sv mv kv vv) := by
      have hk1 : ∀ (W : World) (j : Nat) (v : Value), Kept W (W.setCell ⟨qb, j, none⟩ v) (qBl qb sv mv kv vv) := fun W j v => (Kept.setCell W ⟨qb, j, none⟩ v).mono (fun _ _ e => Or.inl e)
      exact (((((hk1 w 4 _).trans (hk1 _ 5 _) (fun _ _ e => e)).trans (hk1 _ 7 _) (fun _ _ e => e)).trans (hk1 _ 8 _) (fun _ _ e => e)).trans (hk1 _ 2 _) (fun _ _ e => e)).trans (hk1 _ 3 _) (fun _ _ e => e)
    have hm : ∀ v : Value, Moved w v (.slice none 0 0) := fun v k e => by cases e
    refine RQ.went (sv' := .slice none 0 0) (mv' := .slice none 0 0) (kv' := .slice none 0 0) (vv' := .slice none 0 0) (L' := []) ⟨b, ⟨rfl, Or.inl ⟨rfl, rfl⟩⟩, ⟨rfl, Or.inl ⟨rfl, rfl⟩⟩, ⟨rfl, Or.inl ⟨rfl, rfl⟩⟩, ⟨rfl, Or.inl ⟨rfl, rfl⟩⟩, ⟨List.Perm.refl _, List.Pairwise.nil⟩, fun k => ⟨(fun e => (by cases e)), (fun e => (by cases e)), (fun e => (by cases e)), (fun e => (by cases e))⟩, x.ge, Nat.zero_le _, x.few.2.1, x.few.2.2.1, Nat.zero_le _, Nat.zero_le _⟩ hk (hm _) (hm _) (hm _) (hm _)
  obtain ⟨a2, k2, hv2⟩ := ownc_form x.sl
  obtain ⟨a5, k5, hv5⟩ := ownc_form x.ml
  obtain ⟨a7, k7, hv7⟩ := ownc_form x.kl
  obtain ⟨a8, k8, hv8⟩ := ownc_form x.vl
  rw [hv2] at c2
  rw [hv5] at c5
  rw [hv7] at c7
  rw [hv8] at c8
  clear x hv2 hv5 hv7 hv8
  go_enter Tryz.func19, Tryz.ntmps19
  go_wp2
  go_end0
  exact ⟨rfl, HX.out⟩
end
end Go.Proofs.YtfonlolgkaobcaaGreatDoor

namespace Go.Proofs.YtfonlolgkaobcaaGreatDoor
open Go.RowKit

theorem Tryz.infoMark : (Tryz.prog.info? 98).map (fun i => (i.zero, i.size, i.bytes)) = some (some (.agg #[.int .u64 0, .int .i64 0, .bool false]), 3, 24) := by kernel_rfl
theorem m3V_one (e : Nat × (Nat × Bool)) : ∀ u ∈ m3V e, u.oneCell' = true := by
  intro u hu
  simp only [m3V, List.mem_cons, List.not_mem_nil, or_false] at hu
  rcases hu with rfl | rfl | rfl <;> rfl
theorem sr_mark (w : World) (s r : Nat) (g : Bool) (T : TypeId) : Sr (w.alloc (.cells #[.int .u64 (s : Int), .int .i64 (r : Int), .bool g] T)) (.slice (some ⟨w.heap.size, 0, none⟩) 1 1) 3 1 (m3V (s, (r, g))) := by
  have h := heap_alloc_new w (.cells #[.int .u64 (s : Int), .int .i64 (r : Int), .bool g] T)
  refine ⟨rfl, Or.inr ⟨⟨w.heap.size, 0, none⟩, 1, rfl, fun j u hu => ?_⟩, m3V_one _⟩
  rw [Addr.add_at, Nat.zero_add, cell_of_row _ _ _ _ _ _ h]
  simpa [m3V] using hu
section
variable {w w' w1 : World} {qb rb base ra rc rt : Nat} {sv mv kv vv lv : Value} {p : PSt} {L : List ((Int × Nat) × Nat)} {h : HSt} {M : List Pl}
/-- What a longer list of marks makes of it. -/
theorem RQ.more (x : RQ w qb rb base sv mv kv vv p L) (s r : Nat) (g : Bool) (hl : p.ma.length < 1000000) {w0 : World} (hb : Below w.heap.size w w0) {mv' : Value} (ho : w1.ownsRow base 98 3 mv' (p.ma.length + 1) (msV p.ma ++ m3V (s, (r, g)))) (hk : Kept w0 w1 (fun k => mv.ownBlock = some k)) (hm : Moved w0 mv mv') :
    (RQ (w1.setCell ⟨qb, 5, none⟩ mv') qb rb base sv mv' kv vv { p with ma := p.ma ++ [(s, (r, g))] } L ∧ Kept w (w1.setCell ⟨qb, 5, none⟩ mv') (qBl qb sv mv kv vv) ∧ Moved w mv mv') ∧ w1.cell? ⟨qb, 5, none⟩ = some mv ∧ w1.frozen? ⟨qb, 5, none⟩ = false ∧ qb < w1.heap.size := by
  have e1 : msV p.ma ++ m3V (s, (r, g)) = msV (p.ma ++ [(s, (r, g))]) := by rw [msV_app]; rfl
  have e2 : p.ma.length + 1 = (p.ma ++ [(s, (r, g))]).length := by simp
  rw [e1, e2] at ho
  obtain ⟨⟨h1, h2⟩, h3⟩ := (x.below hb).marks hk ho hm (by simp; omega)
  refine ⟨⟨h1, (kept_of_below hb _).trans h2 (fun _ _ => id), fun k e => ?_⟩, h3⟩
  rcases hm k e with e | e
  · exact Or.inl e
  · exact Or.inr (Nat.le_trans hb.size e)
set_option maxRecDepth 20000 in
set_option maxHeartbeats 1000000 in
theorem rblacken_any (x : RQ w qb rb base sv mv kv vv p L) (y : RX w rb ra rc rt lv h M) (s : Nat) (hl : p.ma.length < 1000000) :
    Calls Tryz.prog 14 #[.pointer (some ⟨qb, 0, none⟩), .int .u64 (s : Int)] w fun e w' => e = .returned (.tuple #[]) ∧ QGo w w' qb rb base (qBl qb sv mv kv vv) (p.blacken h s) := by
  have c0 : w.cell? ⟨qb, 0, none⟩ = some (.pointer (some ⟨rb, 0, none⟩)) := x.box.cell 0 (by simp)
  have c5 : w.cell? ⟨qb, 5, none⟩ = some mv := x.box.cell 5 (by simp)
  have hF := rfind_any x s
  have hG := rget_any y s
  have hql := x.box.lt
  have hbs : base ≤ w.heap.size := by have := x.ge; omega
  have HGet : Hid (getC h.cs s = (getP M s).map (·.o)) := by
    have := getP_o M s
    rw [y.cs] at this
    exact this
  have HS : Hid (QGo w w qb rb base (qBl qb sv mv kv vv) p) := x.qn.stay (Below.refl _ _)
  have HM : Hid (∀ w1 mv', w1.ownsRow base 98 3 mv' (p.ma.length + 1) (msV p.ma ++ m3V (s, (0, false))) → Kept (w.alloc (.cells #[.int .u64 (s : Int), .int .i64 0, .bool false] 98)) w1 (fun k => mv.ownBlock = some k) → Moved (w.alloc (.cells #[.int .u64 (s : Int), .int .i64 0, .bool false] 98)) mv mv' →
      QGo w (w1.setCell ⟨qb, 5, none⟩ mv') qb rb base (qBl qb sv mv kv vv) { p with ma := p.ma ++ [(s, (0, false))] } ∧ w1.cell? ⟨qb, 5, none⟩ = some mv ∧ w1.frozen? ⟨qb, 5, none⟩ = false ∧ qb < w1.heap.size) := fun w1 mv' ho hk hm => by
    obtain ⟨⟨h1, h2, h3⟩, h4⟩ := x.more s 0 false hl (bel_alloc w _) ho hk hm
    exact ⟨h1.went h2 (Moved.refl _ _) h3 (Moved.refl _ _) (Moved.refl _ _), h4⟩
  have HO : Hid (∀ o, (w.alloc o).ownsRow base 98 3 mv p.ma.length (msV p.ma)) := fun o => (x.below (bel_alloc w o)).ml
  obtain ⟨ao, cap, hmv⟩ := ownc_form x.ml
  obtain ⟨i, hi, hz0, hz1, hz2⟩ := info_parts Tryz.infoMark
  have hml := x.few.2.2.2.1
  obtain ⟨p', hp'⟩ : ∃ p', p' = p.blacken h s := ⟨_, rfl⟩
  have HE0 : Hid (getC h.cs s = none → p' = p) := fun e => by rw [hp']; unfold PSt.blacken; rw [e, if_neg (by simp)]
  have HE1 : Hid (∀ m, getA p.ma s = some m → p' = p) := fun m e => by rw [hp']; unfold PSt.blacken; rw [e, if_neg (by simp)]
  have HE2 : Hid ((getC h.cs s).isSome = true → getA p.ma s = none → p' = { p with ma := p.ma ++ [(s, (0, false))] }) := fun e1 e2 => by rw [hp']; unfold PSt.blacken; rw [if_pos ⟨by rw [e2]; rfl, e1⟩, putA_new e2]
  rw [← hp']
  clear x y hp'
  cases hp : getP M s with
  | none =>
    rw [hp] at hG
    have e1 : getC h.cs s = none := by rw [HGet.out, hp]; rfl
    have HE : Hid _ := hidden (HE0.out e1)
    unfold ptrOf at hG
    clear hp e1 HGet HM HO hF HE0 HE1 HE2
    go_enter Tryz.func14, Tryz.ntmps14
    go_wp2_with (go_at_call 41; refine hG.mono ?_; rintro e _ ⟨rfl, rfl⟩)
    go_end0
    exact ⟨rfl, by rw [HE.out]; exact HS.out⟩
  | some pl =>
    rw [hp] at hG
    have e1 : (getC h.cs s).isSome = true := by rw [HGet.out, hp]; rfl
    have HI : Hid _ := hidden e1
    unfold ptrOf at hG
    clear hp e1 HGet HE0
    go_enter Tryz.func14, Tryz.ntmps14
    go_wp2_with fail
    refine hG.mono ?_
    rintro e _ ⟨rfl, rfl⟩
    clear hG
    go_wp2_with fail
    refine hF.mono ?_
    rintro e _ ⟨rfl, he⟩
    clear hF
    unfold FoundAt at he
    rcases he with ⟨j, m, g, cap', rfl, _, h1, h2⟩ | ⟨rfl, h1⟩
    · have hg := found_get h1 h2
      have HE : Hid _ := hidden (HE1.out _ hg)
      clear h1 h2 hg HM HO HE1 HE2
      go_wp2
      go_end0
      exact ⟨rfl, by rw [HE.out]; exact HS.out⟩
    · have hg := found_no h1
      have HE : Hid _ := hidden (HE2.out HI.out hg)
      clear h1 hg HE1 HE2
      subst hmv
      go_wp2_with (at_builtin; refine wpList_append_sr rfl (.tmp 21) (.tmp 24) 55 rfl 98 i _ 3 24 Tryz.underlying55 hi hz0 hz1 hz2 rfl (by omega) base _ p.ma.length (msV p.ma) rfl (HO.out _) _ 1 (m3V (s, (0, false))) rfl (sr_mark _ s 0 false _) (by omega) (by omega) (by simp; omega) ?_; intro v1 w1 ho1 hk1 hm1; obtain ⟨q1, q2, q3, q4⟩ := HM.out _ _ ho1 hk1 hm1; have HQ : Hid _ := hidden q1; obtain ⟨ao1, cap1, hv1⟩ := ownc_form ho1; subst hv1; clear q1 ho1 hk1 hm1 HM HO)
      go_end0
      exact ⟨rfl, by rw [HE.out]; exact HQ.out⟩
end
end Go.Proofs.YtfonlolgkaobcaaGreatDoor

namespace Go.Proofs.YtfonlolgkaobcaaGreatDoor
open Go.RowKit

section
variable {w w' : World} {qb rb base : Nat} {sv mv kv vv : Value} {p : PSt} {L : List ((Int × Nat) × Nat)}
theorem delA_step {l : List (Nat × (Nat × Bool))} {s j : Nat} (hj : j < l.length) : delA (l.take (j + 1)) s = delA (l.take j) s ++ (if l[j].1 = s then [] else [l[j]]) := by
  unfold delA
  rw [List.take_succ_eq_append_getElem hj, List.filter_append]
  congr 1
  by_cases e : l[j].1 = s
  · simp [e]
  · simp [e]
/-- The rest of the marks, in memory of its own. -/
structure FR (w0 w : World) (B : Nat) (v : Value) (l : List (Nat × (Nat × Bool))) : Prop where
  own : w.ownsRow B 98 3 v l.length (msV l)
  bel : Below B w0 w
  le : B ≤ w.heap.size
set_option maxRecDepth 20000 in
set_option maxHeartbeats 2000000 in
theorem rforget_any (x : RQ w qb rb base sv mv kv vv p L) (s : Nat) :
    Calls Tryz.prog 16 #[.pointer (some ⟨qb, 0, none⟩), .int .u64 (s : Int)] w fun e w' => e = .returned (.tuple #[]) ∧ QGo w w' qb rb base (qBl qb sv mv kv vv) (p.forget s) := by
  have hql := x.box.lt
  have hbs : base ≤ w.heap.size := by have := x.ge; omega
  have hml := x.few.2.2.2.1
  obtain ⟨ao, cap, hmv⟩ := ownc_form x.ml
  have HC : Hid (∀ W : World, Below w.heap.size w W → W.cell? ⟨qb, 5, none⟩ = some mv ∧ ∀ i, i < p.ma.length → ∃ g, ao = some ⟨g, 0, none⟩ ∧ g < W.heap.size ∧ W.cell? ⟨g, i * 3, none⟩ = some (.int .u64 ((p.ma[i]?.getD (0, (0, false))).1 : Int)) ∧ W.cell? ⟨g, i * 3 + 1, none⟩ = some (.int .i64 ((p.ma[i]?.getD (0, (0, false))).2.1 : Int)) ∧ W.cell? ⟨g, i * 3 + 2, none⟩ = some (.bool (p.ma[i]?.getD (0, (0, false))).2.2)) := fun W hb => by
    have y := x.below hb
    refine ⟨y.box.cell 5 (by simp), fun i hi => ?_⟩
    obtain ⟨g, cap', e, _, h2, _, h3, _⟩ := ownc_cell y.ml (by omega)
    rw [hmv] at e
    simp only [Value.slice.injEq] at e
    have hat := msV_at p.ma i hi
    rw [List.getElem?_eq_getElem hi]
    exact ⟨g, e.1, h2, h3 _ _ hat.1, h3 _ _ hat.2.1, h3 _ _ hat.2.2⟩
  have HF : Hid (∀ W v, FR w W w.heap.size v (delA p.ma s) → QGo w (W.setCell ⟨qb, 5, none⟩ v) qb rb base (qBl qb sv mv kv vv) (p.forget s) ∧ W.cell? ⟨qb, 5, none⟩ = some mv ∧ W.frozen? ⟨qb, 5, none⟩ = false ∧ qb < W.heap.size) := fun W v hf => by
    have hm : Moved w mv v := fun j hj => Or.inr (ownc_lt hf.own j hj).1
    have mono3 : W.ownsRow base 98 3 v (delA p.ma s).length (msV (delA p.ma s)) := by
      refine ⟨hf.own.1, ?_⟩
      rcases hf.own.2 with h1 | ⟨g, cap, cur, h0, h2, h3⟩
      · exact Or.inl h1
      · exact Or.inr ⟨g, cap, cur, h0, Nat.le_trans hbs h2, h3⟩
    obtain ⟨⟨q1, q2⟩, q3⟩ := x.marks (kept_of_below hf.bel _) mono3 hm (Nat.le_trans (List.length_filter_le _ _) hml)
    exact ⟨q1.went q2 (Moved.refl _ _) hm (Moved.refl _ _) (Moved.refl _ _), q3⟩
  obtain ⟨i0, hi0, hz0, hz1, hz2⟩ := info_parts Tryz.infoMark
  subst hmv
  clear x
  go_enter Tryz.func16, Tryz.ntmps16
  go_wp2
  go_loopw [4, 5] (fun v t wr => ∃ (j : Nat), j ≤ p.ma.length ∧ t = .int .i64 (j : Int) ∧ FR w wr w.heap.size v (delA (p.ma.take j) s)) (fun _ t _ => p.ma.length - (intOf t).toNat)
  case atStart => exact ⟨0, Nat.zero_le _, rfl, ⟨rfl, Or.inl ⟨rfl, rfl⟩⟩, Below.refl _ _, Nat.le_refl _⟩
  case round =>
    obtain ⟨j, hj, rfl, hf⟩ := hrel
    obtain ⟨c5, hcell⟩ := HC.out wr hf.bel
    obtain ⟨ao2, cap2, hv2⟩ := ownc_form hf.own
    subst hv2
    by_cases hlt : (j : Int) < (p.ma.length : Int)
    · have hjl : j < p.ma.length := by omega
      obtain ⟨g, rfl, hgl, d0, d1, d2⟩ := hcell j hjl
      have hst := delA_step (s := s) hjl
      rw [List.getElem?_eq_getElem hjl] at d0 d1 d2
      simp only [Option.getD_some] at d0 d1 d2
      have hdl : (delA (p.ma.take j) s).length ≤ 1000000 := by
        have h1 := List.length_filter_le (fun q : Nat × (Nat × Bool) => decide (q.1 ≠ s)) (p.ma.take j)
        rw [List.length_take] at h1
        unfold delA
        omega
      have HL : Hid (j + 1 ≤ p.ma.length) := hjl
      have hwz := hf.le
      have HS : Hid _ := hidden hst
      have HFR : Hid _ := hidden hf
      clear hst hf hcell
      generalize p.ma[j] = mk at *
      clear hjl
      obtain ⟨ms, mr, mg⟩ := mk
      simp only at d0 d1 d2
      by_cases hms : ms = s
      · subst hms
        have HE : Hid (delA (p.ma.take (j + 1)) ms = delA (p.ma.take j) ms) := by
          have h := HS.out
          rw [if_pos rfl, List.append_nil] at h
          exact h
        clear HS
        generalize delA (p.ma.take j) ms = lj at *
        generalize lj.length = nj at *
        generalize p.ma.length = nm at *
        go_wp2
        go_roundw
        case rel => exact ⟨j + 1, HL.out, by go_num, by rw [HE.out]; exact HFR.out⟩
        case measure => have := HL.out; simp [intOf]; omega
      · have hne : ((ms : Int) == (s : Int)) = false := by rw [beq_eq_false_iff_ne]; omega
        have HE : Hid (delA (p.ma.take (j + 1)) s = delA (p.ma.take j) s ++ [(ms, (mr, mg))]) := by
          have h := HS.out
          rw [if_neg hms] at h
          exact h
        have HOW : Hid (∀ o, (wr.alloc o).ownsRow w.heap.size 98 3 (.slice ao2 (delA (p.ma.take j) s).length cap2) (delA (p.ma.take j) s).length (msV (delA (p.ma.take j) s))) := fun o => own_kept HFR.out.own (kept_of_below (bel_alloc _ o) (fun _ => False)) (fun _ _ => id)
        have HNX : Hid (∀ w1 v1 o, w1.ownsRow w.heap.size 98 3 v1 ((delA (p.ma.take j) s).length + 1) (msV (delA (p.ma.take j) s) ++ m3V (ms, (mr, mg))) → Kept (wr.alloc o) w1 (fun k => (Value.slice ao2 (delA (p.ma.take j) s).length cap2).ownBlock = some k) → FR w w1 w.heap.size v1 (delA (p.ma.take (j + 1)) s)) := fun w1 v1 o ho hk => by
          have hb : Below w.heap.size w (wr.alloc o) := HFR.out.bel.trans ((bel_alloc wr o).mono HFR.out.le)
          refine ⟨?_, hb.trans (hk.below (by have := HFR.out.le; simp; omega) (fun i hi e => by have := (ownc_lt HFR.out.own i e).1; omega)), by have h1 := hk.size; have h2 := HFR.out.le; simp at h1; omega⟩
          rw [HE.out, List.length_append, msV_app]
          exact ho
        clear HS HE
        generalize hlj : delA (p.ma.take j) s = lj at *
        clear hlj
        go_wp2_with (at_builtin; refine wpList_append_sr rfl (.tmp 25) (.tmp 33) 55 rfl 98 i0 _ 3 24 Tryz.underlying55 hi0 hz0 hz1 hz2 rfl (by omega) w.heap.size _ lj.length (msV lj) rfl (HOW.out _) _ 1 (m3V (ms, (mr, mg))) rfl (sr_mark wr ms mr mg _) (by omega) (by omega) (by simp; omega) ?_; intro v1 w1 ho1 hk1 hm1; have HN1 : Hid _ := hidden (HNX.out _ _ _ ho1 hk1); clear ho1 hk1 hm1)
        go_roundw
        case rel => exact ⟨j + 1, HL.out, by go_num, HN1.out⟩
        case measure => have := HL.out; simp [intOf]; omega
    · have hje : p.ma.take j = p.ma := List.take_of_length_le (by omega)
      rw [hje] at hf ⊢
      obtain ⟨q1, q2, q3, q4⟩ := HF.out _ _ hf
      have HQ : Hid _ := hidden q1
      clear q1 hf hje hcell HF HC
      go_wp2
      go_end0
      exact ⟨rfl, HQ.out⟩
end
end Go.Proofs.YtfonlolgkaobcaaGreatDoor

