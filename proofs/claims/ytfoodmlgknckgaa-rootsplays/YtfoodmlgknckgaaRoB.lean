/- Get, Set. -/
import Derived.Test.YtfoodmlgknckgaaRoA
namespace Go.Proofs.Ytfoodmlgknckgaa
open Go.RowKit

section
variable {w : World} {rb tb cap K : Nat} {gs : List Nat} {S : List Rw}
set_option maxRecDepth 20000 in
set_option maxHeartbeats 400000 in
theorem get_no (x : RX w rb tb cap gs K S) (m s : Int) (h : hasB S m s = false) :
    Calls Try.prog 17 #[.pointer (some ⟨rb, 0, none⟩), .int .i64 m, .int .i64 s] w fun e w' => e = .returned (.tuple #[.agg #[.int .i64 0, .int .u64 0], .bool false]) ∧ Below w.heap.size w w' := by
  have hH := fun o => has_any (x.below (bel_alloc w o)) m s
  rw [h] at hH
  clear h x
  go_enter Try.func17, Try.ntmps17
  go_wp2_with (go_at_call 22; refine (hH _).mono ?_; rintro e _ ⟨rfl, rfl⟩)
  exact bodyPost_ret (v := .tuple #[.agg #[.int .i64 0, .int .u64 0], .bool false]) (by simp [results, Try.results17, go_sem]) rfl ⟨rfl, bel_alloc _ _⟩
set_option maxRecDepth 20000 in
set_option maxHeartbeats 400000 in
theorem get_ok (x : RX w rb tb cap gs K S) (i j : Nat) (hi : i < S.length) (hj : j < S[i].length) :
    Calls Try.prog 17 #[.pointer (some ⟨rb, 0, none⟩), .int .i64 (i : Int), .int .i64 (j : Int)] w fun e w' => e = .returned (.tuple #[.agg #[.int .i64 S[i][j].1, .int .u64 (S[i][j].2 : Int)], .bool true]) ∧ Below w.heap.size w w' := by
  have hH := fun o => has_any (x.below (bel_alloc w o)) (i : Int) (j : Int)
  rw [hasB_at hi hj] at hH
  obtain ⟨g, hg, c1, hr, hl⟩ := x.at i hi
  obtain ⟨e0, e1⟩ := idsV_at S[i] j hj
  have d0 := hr.at _ _ e0
  have d1 := hr.at _ _ e1
  have c0 := x.box
  have l0 := cell_lt c0
  have l1 := cell_lt c1
  have l2 := hr.lt
  have hf := x.few
  unfold maxLen at hf
  have hjK : j < K := by omega
  generalize S[i][j] = y at *
  clear x e0 e1 hr hl hg hj
  have hiN := hi
  clear hi
  generalize S.length = n at *
  go_enter Try.func17, Try.ntmps17
  go_wp2_with (go_at_call 22; refine (hH _).mono ?_; rintro e _ ⟨rfl, rfl⟩)
  exact bodyPost_ret (v := .tuple #[.agg #[.int .i64 y.1, .int .u64 (y.2 : Int)], .bool true]) (by simp [results, Try.results17, go_sem]) rfl ⟨rfl, bel_alloc _ _⟩
theorem get_any (x : RX w rb tb cap gs K S) (m s : Int) :
    Calls Try.prog 17 #[.pointer (some ⟨rb, 0, none⟩), .int .i64 m, .int .i64 s] w fun e w' => e = .returned (.tuple #[.agg #[.int .i64 (getR S m s).1.1, .int .u64 ((getR S m s).1.2 : Int)], .bool (getR S m s).2]) ∧ Below w.heap.size w w' := by
  cases h : hasB S m s with
  | false =>
    rw [getR_no h]
    exact get_no x m s h
  | true =>
    obtain ⟨i, j, rfl, rfl, hi, hj⟩ := hasB_nat h
    rw [getR_at hi hj]
    exact get_ok x i j hi hj

/-- What became of roots that were written. -/
structure RGo (w w' : World) (rb tb cap : Nat) (gs : List Nat) (K : Nat) (S' : List Rw) : Prop where
  x : RX w' rb tb cap gs K S'
  k : Kept w w' (fun k => k ∈ gs)

set_option maxRecDepth 20000 in
set_option maxHeartbeats 400000 in
theorem set_hasno (x : RX w rb tb cap gs K S) (m s : Int) (a : Int) (n : Nat) (h : hasB S m s = false) :
    Calls Try.prog 9 #[.pointer (some ⟨rb, 0, none⟩), .int .i64 m, .int .i64 s, .agg #[.int .i64 a, .int .u64 (n : Int)]] w fun e w' => e = .returned (.bool false) ∧ Below w.heap.size w w' := by
  have hH := fun o => has_any (x.below (bel_alloc w o)) m s
  rw [h] at hH
  clear h x
  go_enter Try.func9, Try.ntmps9
  go_wp2_with (go_at_call 22; refine (hH _).mono ?_; rintro e _ ⟨rfl, rfl⟩)
  go_ret
  exact ⟨rfl, bel_alloc _ _⟩
set_option maxRecDepth 20000 in
set_option maxHeartbeats 400000 in
theorem set_badno (x : RX w rb tb cap gs K S) (m s : Int) (a : Int) (n : Nat) (h : hasB S m s = true) (hr : rightI (a, n) = false) :
    Calls Try.prog 9 #[.pointer (some ⟨rb, 0, none⟩), .int .i64 m, .int .i64 s, .agg #[.int .i64 a, .int .u64 (n : Int)]] w fun e w' => e = .returned (.bool false) ∧ Below w.heap.size w w' := by
  have hH := fun o => has_any (x.below (bel_alloc w o)) m s
  have hR := fun W => right_any a n W
  rw [h] at hH
  rw [hr] at hR
  clear h x hr
  go_enter Try.func9, Try.ntmps9
  go_wp2_with (first
    | (go_at_call 22; refine (hH _).mono ?_; rintro e _ ⟨rfl, rfl⟩)
    | (go_at_call 23; refine (hR _).mono ?_; rintro e w2 ⟨rfl, hb2⟩))
  go_ret
  exact ⟨rfl, (bel_alloc _ _).trans (hb2.mono (bel_alloc _ _).size)⟩
set_option maxRecDepth 20000 in
set_option maxHeartbeats 400000 in
theorem set_ok (x : RX w rb tb cap gs K S) (i j : Nat) (hi : i < S.length) (hj : j < S[i].length) (a : Int) (n : Nat) (hr : rightI (a, n) = true) :
    Calls Try.prog 9 #[.pointer (some ⟨rb, 0, none⟩), .int .i64 (i : Int), .int .i64 (j : Int), .agg #[.int .i64 a, .int .u64 (n : Int)]] w fun e w' => e = .returned (.bool true) ∧ RGo w w' rb tb cap gs K (S.set i (S[i].set j (a, n))) := by
  have hH := fun o => has_any (x.below (bel_alloc w o)) (i : Int) (j : Int)
  rw [hasB_at hi hj] at hH
  have hR := fun W => right_any a n W
  rw [hr] at hR
  clear hr
  have hSx := fun W (y : RX W rb tb cap gs K S) g (hg : gs[i]? = some g) => y.set hi hj hg (a, n)
  obtain ⟨S', hS⟩ : ∃ S', S' = S.set i (S[i].set j (a, n)) := ⟨_, rfl⟩
  rw [← hS] at hSx ⊢
  clear hS
  go_enter Try.func9, Try.ntmps9
  go_wp2_with (first
    | (go_at_call 22; refine (hH _).mono ?_; rintro e _ ⟨rfl, rfl⟩)
    | (go_at_call 23; refine (hR _).mono ?_; rintro e w2 ⟨rfl, hb2⟩))
  have q0 : Row (w.alloc (.cells #[.int .i64 a, .int .u64 (n : Int)] 30)) w.heap.size 30 [.int .i64 a, .int .u64 (n : Int)] := heap_alloc_new w _
  have q := q0.below hb2
  have b0 := q.cell 0 (by simp)
  have b1 := q.cell 1 (by simp)
  simp only [List.getElem_cons_succ, List.getElem_cons_zero] at b0 b1
  have hB := (bel_alloc w (.cells #[.int .i64 a, .int .u64 (n : Int)] 30)).trans (hb2.mono (bel_alloc _ _).size)
  have x2 := x.below hB
  have hz := hB.size
  clear hH hR q q0 hb2 x
  obtain ⟨g, hg, c1, hr, hl⟩ := x2.at i hi
  have e0 := idsV_len S[i]
  have d0 := hr.cell (j * 2) (by omega)
  have d1 := hr.cell (j * 2 + 1) (by omega)
  have f0 := hr.frozen
  have c0 := x2.box
  have hf := x2.few
  unfold maxLen at hf
  have HX : Hid _ := hidden (hSx _ x2 g hg)
  have HB : Hid _ := hidden hB
  have hjK : j < K := by omega
  have hiN := hi
  generalize (idsV S[i])[j * 2] = y0 at *
  generalize (idsV S[i])[j * 2 + 1] = y1 at *
  clear x2 hr hl hg hB e0 hj hi hSx
  generalize S.length = N at *
  go_region
  go_wp2
  go_ret
  refine ⟨rfl, ?_⟩
  obtain ⟨h1, h2⟩ := HX.out
  have hk : Kept w w2 (fun k => k ∈ gs) := kept_of_below HB.out _
  exact ⟨h1.kept (Kept.drew _) (fun _ _ => id), (hk.trans h2 (fun _ _ e => e)).trans (Kept.drew _) (fun _ _ e => e.elim)⟩
theorem set_any (x : RX w rb tb cap gs K S) (m s : Int) (a : Int) (n : Nat) :
    Calls Try.prog 9 #[.pointer (some ⟨rb, 0, none⟩), .int .i64 m, .int .i64 s, .agg #[.int .i64 a, .int .u64 (n : Int)]] w fun e w' => e = .returned (.bool (setB S m s (a, n))) ∧ RGo w w' rb tb cap gs K (setS S m s (a, n)) := by
  have hno : ∀ w', Below w.heap.size w w' → RGo w w' rb tb cap gs K S := fun w' hb => ⟨x.below hb, kept_of_below hb _⟩
  cases h : hasB S m s with
  | false =>
    have e : setB S m s (a, n) = false := by unfold setB; rw [h]; rfl
    rw [e, setS_no e]
    exact (set_hasno x m s a n h).mono (fun _ _ ⟨h1, h2⟩ => ⟨h1, hno _ h2⟩)
  | true =>
    cases hr : rightI (a, n) with
    | false =>
      have e : setB S m s (a, n) = false := by unfold setB; rw [h, hr]; rfl
      rw [e, setS_no e]
      exact (set_badno x m s a n h hr).mono (fun _ _ ⟨h1, h2⟩ => ⟨h1, hno _ h2⟩)
    | true =>
      have e : setB S m s (a, n) = true := by unfold setB; rw [h, hr]; rfl
      obtain ⟨i, j, rfl, rfl, hi, hj⟩ := hasB_nat h
      rw [e, setS_at hi hj hr]
      exact set_ok x i j hi hj a n hr
end

end Go.Proofs.Ytfoodmlgknckgaa
