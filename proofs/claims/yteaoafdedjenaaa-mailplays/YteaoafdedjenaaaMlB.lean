/- New, Len, Room of a box. -/
import Derived.Test.YteaoafdedjenaaaMlA
import Derived.Deep.QuietTactic
import Derived.BigQuiet
namespace Go.Proofs.Yteaoafdedjenaaa
open Go.RowKit Go.Conc

theorem below_drewN0 (w : World) (n : Nat) : Below w.heap.size w (w.drewN n) := ⟨rfl, rfl, rfl, Nat.le_refl _, fun _ _ => rfl⟩

theorem info_bytes {P : Program} {t : TypeId} {n : Nat} (h : (P.info? t).map (·.bytes) = some n) : ∃ i, P.info? t = some i ∧ i.bytes = n := by
  obtain ⟨i, hi, hb⟩ := Option.map_eq_some_iff.1 h
  exact ⟨i, hi, hb⟩

theorem mkcI (n : Nat) (h2 : n ≤ 16) (w : World) : (Instr.makeChan 47 (.int .i64 (n : Int))).run Try.prog w = .ok (.chan (some w.heap.size)) (w.alloc (.chan n #[] false 0 0 false)) := by
  obtain ⟨i, hi, hb⟩ := info_bytes (P := Try.prog) (t := 3) (n := 8) (by kernel_rfl)
  exact run_makeChan (P := Try.prog) (w := w) Try.underlying47 hi .i64 n (by omega) (by rw [hb]; omega)

set_option maxRecDepth 20000 in
theorem newI_ok (n : Nat) (h1 : 1 ≤ n) (h2 : n ≤ 16) (w : World) :
    Calls Try.prog 7 #[.int .i64 (n : Int)] w fun e w' => e = .returned (.tuple #[bp (w.heap.size + 1), .int .i64 0]) ∧ BX w' 49 (w.heap.size + 1) w.heap.size n [] ∧ Below w.heap.size w w' ∧ w'.heap.size = w.heap.size + 2 := by
  have hmc := mkcI n h2
  go_enter Try.func7, Try.ntmps7
  go_wp2
  go_ret2
  refine ⟨by simp, ⟨?_, 0, 0, ?_⟩, ((Below.refl _ _).alloc (Nat.le_refl _) _).alloc (by simp) _, by simp⟩
  · have := heap_alloc_new (w.alloc (.chan n #[] false 0 0 false)) (.cells #[.chan (some w.heap.size)] 49 (0, 0))
    rw [World.size_alloc] at this
    exact this
  · rw [Below.heap_alloc _ _ _ (by simp)]
    exact heap_alloc_new w _

set_option maxRecDepth 20000 in
theorem newI_no (n : Int) (h : n < 1 ∨ 16 < n) (w : World) :
    Calls Try.prog 7 #[.int .i64 n] w fun e w' => e = .returned (.tuple #[.pointer none, .int .i64 1]) ∧ w = w' := by
  by_cases h1 : n < 1
  · go_enter Try.func7, Try.ntmps7
    go_wp2
    go_ret2
    exact ⟨rfl, rfl⟩
  · have h2 : 16 < n := by omega
    go_enter Try.func7, Try.ntmps7
    go_wp2
    go_ret2
    exact ⟨rfl, rfl⟩

set_option maxRecDepth 20000 in
theorem lenI_any (bx c cap : Nat) (q : List Value) (w : World) (h : BX w 49 bx c cap q) :
    Calls Try.prog 17 #[bp bx] w fun e w' => e = .returned (.int .i64 (q.length : Int)) ∧ w = w' := by
  have hcell := h.cell
  obtain ⟨s, r, hc⟩ := h.ch
  have hlen := fun ty => run_len_chan (P := Try.prog) 47 ty Try.underlying47 hc
  go_enter Try.func17, Try.ntmps17
  go_wp2
  go_ret
  exact ⟨by simp, rfl⟩

set_option maxRecDepth 20000 in
set_option maxHeartbeats 1000000 in
theorem roomI_any (bx c cap : Nat) (q : List Value) (w : World) (h : BX w 49 bx c cap q) (hq : q.length ≤ cap) (hcap : cap ≤ 16) :
    Calls Try.prog 18 #[bp bx] w fun e w' => e = .returned (.int .i64 ((cap : Int) - (q.length : Int))) ∧ ∃ n, w' = w.drewN n := by
  have hcell := h.cell
  obtain ⟨s, r, hc⟩ := h.ch
  have hlen := fun n ty => run_len_chan (P := Try.prog) (w := w.drewN n) 47 ty Try.underlying47 hc
  have hcp := fun n ty => run_cap_chan (P := Try.prog) (w := w.drewN n) 47 ty Try.underlying47 hc
  have hw : IntKind.i64.wrap ((cap : Int) - (q.length : Int)) = (cap : Int) - (q.length : Int) := by
    rw [IntKind.wrap_i64]; omega
  have hs : (q.toArray.size : Int) = (q.length : Int) := by simp
  go_enter Try.func18, Try.ntmps18
  go_wp2
  go_quiet (fail)
  go_wp2
  go_ret
  exact ⟨by simp, _, rfl⟩

theorem mkcS (n : Nat) (h2 : n ≤ 16) (w : World) : (Instr.makeChan 50 (.int .i64 (n : Int))).run Try.prog w = .ok (.chan (some w.heap.size)) (w.alloc (.chan n #[] false 0 0 false)) := by
  obtain ⟨i, hi, hb⟩ := info_bytes (P := Try.prog) (t := 9) (n := 16) (by kernel_rfl)
  exact run_makeChan (P := Try.prog) (w := w) Try.underlying50 hi .i64 n (by omega) (by rw [hb]; omega)

set_option maxRecDepth 20000 in
theorem newS_ok (n : Nat) (h1 : 1 ≤ n) (h2 : n ≤ 16) (w : World) :
    Calls Try.prog 8 #[.int .i64 (n : Int)] w fun e w' => e = .returned (.tuple #[bp (w.heap.size + 1), .int .i64 0]) ∧ BX w' 52 (w.heap.size + 1) w.heap.size n [] ∧ Below w.heap.size w w' ∧ w'.heap.size = w.heap.size + 2 := by
  have hmc := mkcS n h2
  go_enter Try.func8, Try.ntmps8
  go_wp2
  go_ret2
  refine ⟨by simp, ⟨?_, 0, 0, ?_⟩, ((Below.refl _ _).alloc (Nat.le_refl _) _).alloc (by simp) _, by simp⟩
  · have := heap_alloc_new (w.alloc (.chan n #[] false 0 0 false)) (.cells #[.chan (some w.heap.size)] 52 (0, 0))
    rw [World.size_alloc] at this
    exact this
  · rw [Below.heap_alloc _ _ _ (by simp)]
    exact heap_alloc_new w _

set_option maxRecDepth 20000 in
theorem newS_no (n : Int) (h : n < 1 ∨ 16 < n) (w : World) :
    Calls Try.prog 8 #[.int .i64 n] w fun e w' => e = .returned (.tuple #[.pointer none, .int .i64 1]) ∧ w = w' := by
  by_cases h1 : n < 1
  · go_enter Try.func8, Try.ntmps8
    go_wp2
    go_ret2
    exact ⟨rfl, rfl⟩
  · have h2 : 16 < n := by omega
    go_enter Try.func8, Try.ntmps8
    go_wp2
    go_ret2
    exact ⟨rfl, rfl⟩

set_option maxRecDepth 20000 in
theorem lenS_any (bx c cap : Nat) (q : List Value) (w : World) (h : BX w 52 bx c cap q) :
    Calls Try.prog 21 #[bp bx] w fun e w' => e = .returned (.int .i64 (q.length : Int)) ∧ w = w' := by
  have hcell := h.cell
  obtain ⟨s, r, hc⟩ := h.ch
  have hlen := fun ty => run_len_chan (P := Try.prog) 50 ty Try.underlying50 hc
  go_enter Try.func21, Try.ntmps21
  go_wp2
  go_ret
  exact ⟨by simp, rfl⟩

set_option maxRecDepth 20000 in
set_option maxHeartbeats 1000000 in
theorem roomS_any (bx c cap : Nat) (q : List Value) (w : World) (h : BX w 52 bx c cap q) (hq : q.length ≤ cap) (hcap : cap ≤ 16) :
    Calls Try.prog 13 #[bp bx] w fun e w' => e = .returned (.int .i64 ((cap : Int) - (q.length : Int))) ∧ ∃ n, w' = w.drewN n := by
  have hcell := h.cell
  obtain ⟨s, r, hc⟩ := h.ch
  have hlen := fun n ty => run_len_chan (P := Try.prog) (w := w.drewN n) 50 ty Try.underlying50 hc
  have hcp := fun n ty => run_cap_chan (P := Try.prog) (w := w.drewN n) 50 ty Try.underlying50 hc
  have hw : IntKind.i64.wrap ((cap : Int) - (q.length : Int)) = (cap : Int) - (q.length : Int) := by
    rw [IntKind.wrap_i64]; omega
  have hs : (q.toArray.size : Int) = (q.length : Int) := by simp
  go_enter Try.func13, Try.ntmps13
  go_wp2
  go_quiet (fail)
  go_wp2
  go_ret
  exact ⟨by simp, _, rfl⟩

end Go.Proofs.Yteaoafdedjenaaa
