/- Mark, Met, Waiting, Over, Turns. -/
import Derived.Test.YtbgaejjoomnklaaDoorPaA
namespace Go.Proofs.YtbgaejjoomnklaaDoor
open Go.RowKit

section
variable {w : World} {pb hb base sb mb tb : Nat} {v : Value} {p : PSt} {F : Nat → Prop} {h : HSt}
set_option maxRecDepth 20000 in
set_option maxHeartbeats 1000000 in
theorem mark_any (x : PX w pb hb base sb mb tb v p) (y : HP w hb F h) (s : Nat) (hs : s < 18446744073709551616) :
    Calls Tryd.prog 13 #[.pointer (some ⟨pb, 0, none⟩), .int .u64 (s : Int)] w fun e w' => e = .returned (.tuple #[.int .i64 ((markR h p s).1 : Int), .bool (markR h p s).2.1, .bool (markR h p s).2.2]) ∧ Below w.heap.size w w' := by
  have c3 := x.c3
  have hl := x.look s
  cases hm : getA p.ma s with
  | none =>
    have e : markR h p s = (0, false, false) := by
      unfold markR
      rw [hm]
      cases getC h.cs s <;> rfl
    rw [e]
    have e2 : markD p s = (0, false) := by unfold markD; rw [hm]; rfl
    rw [hm, e2] at hl
    simp only [Option.isSome_none] at hl
    clear x y e hm e2
    go_enter Tryd.func13, Tryd.ntmps13
    go_wp2_with fail
    go_ret3
    exact ⟨rfl, bel_alloc _ _⟩
  | some m =>
    obtain ⟨r, g⟩ := m
    have e2 : markD p s = (r, g) := by unfold markD; rw [hm]; rfl
    rw [hm, e2] at hl
    simp only [Option.isSome_some] at hl
    have hP := fun W (hB : Below w.heap.size w W) => phas_any (x.below hB) (y.below hB) s hs
    have e : markR h p s = if (getC h.cs s).isSome then (r, g, true) else (0, false, false) := by
      unfold markR
      rw [hm]
      cases getC h.cs s <;> rfl
    rw [e]
    generalize (getC h.cs s).isSome = bo at *
    have hA : ∀ o, Below w.heap.size w (w.alloc o) := fun o => bel_alloc w o
    clear x y e hm e2
    cases bo with
    | false =>
      go_enter Tryd.func13, Tryd.ntmps13
      go_wp2_with (go_at_call 33; refine (hP _ (hA _)).mono ?_; rintro e w1 ⟨rfl, hb1⟩)
      go_ret3
      exact ⟨rfl, (hA _).trans (hb1.mono (by simp))⟩
    | true =>
      have HN : Hid (∀ o w1, Below (w.alloc o).heap.size (w.alloc o) w1 → ∀ i, w1.cell? ⟨w.heap.size, i, none⟩ = (w.alloc o).cell? ⟨w.heap.size, i, none⟩) := fun o w1 hb i => hb.cell (p := ⟨w.heap.size, i, none⟩) (by simp)
      go_enter Tryd.func13, Tryd.ntmps13
      go_wp2_with (go_at_call 33; refine (hP _ (hA _)).mono ?_; rintro e w1 ⟨rfl, hb1⟩; have d0 := HN.out _ _ hb1 0; have d1 := HN.out _ _ hb1 1; simp at d0 d1; have HB : Hid _ := hidden ((hA _).trans (hb1.mono (by simp))); clear hb1 hP hA HN)
      go_quiet (fail)
      go_wp2
      go_ret3
      exact ⟨rfl, HB.out.trans ((below_drewN0 _ _).mono HB.out.size)⟩
set_option maxRecDepth 20000 in
set_option maxHeartbeats 1000000 in
theorem met_any (x : PX w pb hb base sb mb tb v p) (a : Int) (n : Nat) :
    Calls Tryd.prog 15 #[.pointer (some ⟨pb, 0, none⟩), .agg #[.int .i64 a, .int .u64 (n : Int)]] w fun e w' => e = .returned (.tuple #[.int .i64 ((metR p (a, n)).1 : Int), .bool (metR p (a, n)).2]) ∧ Below w.heap.size w w' := by
  have c4 := fun W (hB : Below w.heap.size w W) => (x.below hB).c4
  have hl := fun W (hB : Below w.heap.size w W) => (x.below hB).lookT a n
  generalize metR p (a, n) = r at *
  obtain ⟨r, g⟩ := r
  have hB : ∀ o n, Below w.heap.size w ((w.alloc o).drewN n) := fun o n => (bel_alloc w o).trans ((below_drewN0 _ _).mono (by simp))
  have c4' := fun o n => c4 _ (hB o n)
  have hl' := fun o n => hl _ (hB o n)
  have c5 := fun o => c4 _ (bel_alloc w o)
  have hl5 := fun o => hl _ (bel_alloc w o)
  clear x c4 hl
  go_enter Tryd.func15, Tryd.ntmps15
  go_wp2
  go_quiet (fail)
  go_wp2
  go_ret2
  exact ⟨rfl, hB _ _⟩
set_option maxRecDepth 20000 in
set_option maxHeartbeats 400000 in
theorem pturns_any (x : PX w pb hb base sb mb tb v p) :
    Calls Tryd.prog 17 #[.pointer (some ⟨pb, 0, none⟩)] w fun e w' => e = .returned (.int .u64 (p.turns : Int)) ∧ w = w' := by
  have c1 := x.c1
  clear x
  go_enter Tryd.func17, Tryd.ntmps17
  go_wp2
  go_ret
  exact ⟨rfl, rfl⟩
set_option maxRecDepth 20000 in
set_option maxHeartbeats 400000 in
theorem waiting_any (x : PX w pb hb base sb mb tb v p) :
    Calls Tryd.prog 21 #[.pointer (some ⟨pb, 0, none⟩)] w fun e w' => e = .returned (.int .i64 (p.stk.length : Int)) ∧ w = w' := by
  have c2 := x.c2
  have hL := lenU_any x.sk
  rw [List.length_map] at hL
  clear x
  go_enter Tryd.func21, Tryd.ntmps21
  go_wp2_with fail
  refine hL.mono ?_
  rintro e _ ⟨rfl, rfl⟩
  go_wp2
  go_ret
  exact ⟨rfl, rfl⟩
set_option maxRecDepth 20000 in
set_option maxHeartbeats 400000 in
theorem pover_any (x : PX w pb hb base sb mb tb v p) :
    Calls Tryd.prog 22 #[.pointer (some ⟨pb, 0, none⟩)] w fun e w' => e = .returned (.bool p.ov) ∧ w = w' := by
  have c2 := x.c2
  have hL := overU_any x.sk
  clear x
  go_enter Tryd.func22, Tryd.ntmps22
  go_wp2_with fail
  refine hL.mono ?_
  rintro e _ ⟨rfl, rfl⟩
  go_wp2
  go_ret
  exact ⟨rfl, rfl⟩
end

end Go.Proofs.YtbgaejjoomnklaaDoor
