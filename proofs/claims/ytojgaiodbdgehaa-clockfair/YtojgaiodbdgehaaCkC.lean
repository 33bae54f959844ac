/- Slices of numbers, and Fair. -/
import Derived.Test.YtojgaiodbdgehaaCkB
namespace Go.Proofs.Ytojgaiodbdgehaa
open Go.RowKit

/-- The slice value v holds the numbers l, each of kind K. -/
def Ns (K : IntKind) (w : World) (v : Value) (l : List Nat) : Prop :=
  ∃ ao cap, v = .slice ao l.length cap ∧ (l.length ≤ cap ∧ (ao = none → cap = 0)) ∧ (l ≠ [] → ∃ b off, ao = some ⟨b, off, none⟩ ∧ b < w.heap.size ∧ ∀ i (hi : i < l.length), w.cell? ⟨b, off + i, none⟩ = some (.int K (l[i] : Int)))

theorem Ns.nil (K : IntKind) (w : World) : Ns K w (.slice none 0 0) [] := ⟨none, 0, rfl, ⟨Nat.zero_le _, fun _ => rfl⟩, fun h => absurd rfl h⟩
theorem Ns.below {K : IntKind} {w w' : World} {v : Value} {l : List Nat} (h : Ns K w v l) (hb : Below w.heap.size w w') : Ns K w' v l := by
  obtain ⟨ao, cap, rfl, hc, hx⟩ := h
  refine ⟨ao, cap, rfl, hc, fun hl => ?_⟩
  obtain ⟨b, off, rfl, hlt, hs⟩ := hx hl
  exact ⟨b, off, rfl, Nat.lt_of_lt_of_le hlt hb.size, fun i hi => (hb.cell (p := ⟨b, off + i, none⟩) hlt).trans (hs i hi)⟩

def okB (u d b : Nat) : Bool := decide (u - d ≤ b) && decide (b ≤ u + d)
def fairB (u d : Nat) (l : List Nat) : Bool := decide (0 < u) && decide (u ≤ 1048576) && decide (d < u) && l.all (okB u d)
theorem fairB_no {u d : Nat} {l : List Nat} (h : ¬ (0 < u ∧ u ≤ 1048576 ∧ d < u)) : fairB u d l = false := by
  unfold fairB
  by_cases h1 : 0 < u
  · by_cases h2 : u ≤ 1048576
    · have h3 : ¬ d < u := fun h3 => h ⟨h1, h2, h3⟩
      simp [h3]
    · simp [h2]
  · simp [h1]
theorem fairB_yes {u d : Nat} {l : List Nat} (h : d < u) (h2 : u ≤ 1048576) : fairB u d l = l.all (okB u d) := by
  unfold fairB
  have h1 : 0 < u := by omega
  simp [h, h1, h2]
theorem all_take_ok {f : Nat → Bool} {l : List Nat} {k : Nat} (hk : k < l.length) (h : (l.take k).all f = true) (h2 : f l[k] = true) : (l.take (k + 1)).all f = true := by
  rw [List.take_succ_eq_append_getElem hk, List.all_append, h]
  simp [h2]
theorem all_take_no {f : Nat → Bool} {l : List Nat} {k : Nat} (hk : k < l.length) (h2 : f l[k] = false) : l.all f = false := by
  rw [List.all_eq_false]
  exact ⟨l[k], List.getElem_mem hk, by simp [h2]⟩

set_option maxRecDepth 20000 in
set_option maxHeartbeats 400000 in
theorem fair_any (u d : Nat) (v : Value) (l : List Nat) (w : World) (hv : Ns .u64 w v l) (hl : l.length ≤ 140737488355328) :
    Calls Try.prog 12 #[.int .u64 (u : Int), .int .u64 (d : Int), v] w fun e w' => e = .returned (.bool (fairB u d l)) ∧ w = w' := by
  obtain ⟨ao, cap, rfl, hc, hx⟩ := hv
  by_cases hu : 1048576 < u
  · rw [fairB_no (by omega)]
    go_enter Try.func12, Try.ntmps12
    go_wp2
    go_ret
    exact ⟨rfl, rfl⟩
  · by_cases hd : u ≤ d
    · rw [fairB_no (by omega)]
      go_enter Try.func12, Try.ntmps12
      go_wp2
      go_ret
      exact ⟨rfl, rfl⟩
    · rw [fairB_yes (by omega) (by omega)]
      go_enter Try.func12, Try.ntmps12
      go_wp2
      go_loop [18] (fun i => ∃ k : Nat, k ≤ l.length ∧ i = .int .i64 k ∧ (l.take k).all (okB u d) = true) (fun i => l.length - (intOf i).toNat)
      case atStart => exact ⟨0, Nat.zero_le _, rfl, rfl⟩
      case round =>
        obtain ⟨k, hk, rfl, hall⟩ := hrel
        have HA : Hid ((l.take k).all (okB u d) = true) := hall
        clear hall
        by_cases hlt : k < l.length
        · obtain ⟨b, off, rfl, _, hseg⟩ := hx (by intro e; subst e; simp at hlt)
          have hcell := hseg k hlt
          have HN : Hid (okB u d l[k] = false → l.all (okB u d) = false) := fun h => all_take_no hlt h
          have HY : Hid (okB u d l[k] = true → (l.take (k + 1)).all (okB u d) = true) := fun h => all_take_ok hlt HA.out h
          clear hseg hx
          generalize l[k] = x at *
          go_wp2_with fail
          rw [show (u : Int) - (d : Int) = ((u - d : Nat) : Int) by omega, show (u : Int) + (d : Int) = ((u + d : Nat) : Int) by omega]
          refine (side_any x (u - d) (u + d) _).mono ?_
          rintro e w' ⟨rfl, rfl⟩
          by_cases h1 : x < u - d
          · rw [show sideN x (u - d) (u + d) = 0 by unfold sideN; rw [if_pos h1]]
            go_wp2
            go_ret
            exact ⟨congrArg (fun x => Ending.returned (.bool x)) (HN.out (by unfold okB; rw [decide_eq_false (by omega)]; rfl)).symm, rfl⟩
          · by_cases h2 : u + d < x
            · rw [show sideN x (u - d) (u + d) = 2 by unfold sideN; rw [if_neg h1, if_pos h2]]
              go_wp2
              go_ret
              exact ⟨congrArg (fun x => Ending.returned (.bool x)) (HN.out (by unfold okB; rw [decide_eq_false (p := x ≤ u + d) (by omega)]; simp)).symm, rfl⟩
            · rw [show sideN x (u - d) (u + d) = 1 by unfold sideN; rw [if_neg h1, if_neg h2]]
              go_wp2
              go_round
              case rel => exact ⟨k + 1, by omega, by go_num, HY.out (by unfold okB; rw [decide_eq_true (by omega), decide_eq_true (by omega)]; rfl)⟩
              case measure => simp [intOf]; omega
        · have hkl : k = l.length := by omega
          have HE : Hid (l.all (okB u d) = true) := by
            show _ = _
            have := HA.out
            rwa [hkl, List.take_length] at this
          clear hkl
          go_wp2
          go_ret
          exact ⟨congrArg (fun x => Ending.returned (.bool x)) HE.out.symm, rfl⟩

set_option maxRecDepth 20000 in
set_option maxHeartbeats 400000 in
theorem refFair_any (u d : Nat) (v : Value) (l : List Nat) (w : World) (hv : Ns .u64 w v l) (hl : l.length ≤ 140737488355328) :
    Calls Try.prog 15 #[.int .u64 (u : Int), .int .u64 (d : Int), v] w fun e w' => e = .returned (.bool (fairB u d l)) ∧ w = w' := by
  obtain ⟨ao, cap, rfl, hc, hx⟩ := hv
  by_cases h0 : u = 0
  · subst h0
    rw [fairB_no (by omega)]
    go_enter Try.func15, Try.ntmps15
    go_wp2
    go_ret
    exact ⟨rfl, rfl⟩
  have t0 : ((u : Int) == 0) = false := by rw [beq_eq_false_iff_ne]; omega
  by_cases hu : 1048576 < u
  · rw [fairB_no (by omega)]
    go_enter Try.func15, Try.ntmps15
    go_wp2
    go_ret
    exact ⟨rfl, rfl⟩
  · by_cases hd : u ≤ d
    · rw [fairB_no (by omega)]
      go_enter Try.func15, Try.ntmps15
      go_wp2
      go_ret
      exact ⟨rfl, rfl⟩
    · rw [fairB_yes (by omega) (by omega)]
      go_enter Try.func15, Try.ntmps15
      go_wp2
      go_loop [7] (fun i => ∃ k : Nat, k ≤ l.length ∧ i = .int .i64 k ∧ (l.take k).all (okB u d) = true) (fun i => l.length - (intOf i).toNat)
      case atStart => exact ⟨0, Nat.zero_le _, rfl, rfl⟩
      case round =>
        obtain ⟨k, hk, rfl, hall⟩ := hrel
        have HA : Hid ((l.take k).all (okB u d) = true) := hall
        clear hall
        by_cases hlt : k < l.length
        · obtain ⟨b, off, rfl, _, hseg⟩ := hx (by intro e; subst e; simp at hlt)
          have hcell := hseg k hlt
          have HN : Hid (okB u d l[k] = false → l.all (okB u d) = false) := fun h => all_take_no hlt h
          have HY : Hid (okB u d l[k] = true → (l.take (k + 1)).all (okB u d) = true) := fun h => all_take_ok hlt HA.out h
          clear hseg hx
          generalize l[k] = x at *
          by_cases h1 : (x : Int) < (u : Int) - (d : Int)
          · go_wp2
            go_ret
            exact ⟨congrArg (fun x => Ending.returned (.bool x)) (HN.out (by unfold okB; rw [decide_eq_false (by omega)]; rfl)).symm, rfl⟩
          · by_cases h2 : (u : Int) + (d : Int) < x
            · go_wp2
              go_ret
              exact ⟨congrArg (fun x => Ending.returned (.bool x)) (HN.out (by unfold okB; rw [decide_eq_false (p := x ≤ u + d) (by omega)]; simp)).symm, rfl⟩
            · go_wp2
              go_round
              case rel => exact ⟨k + 1, by omega, by go_num, HY.out (by unfold okB; rw [decide_eq_true (by omega), decide_eq_true (by omega)]; rfl)⟩
              case measure => simp [intOf]; omega
        · have hkl : k = l.length := by omega
          have HE : Hid (l.all (okB u d) = true) := by
            show _ = _
            have := HA.out
            rwa [hkl, List.take_length] at this
          clear hkl
          go_wp2
          go_ret
          exact ⟨congrArg (fun x => Ending.returned (.bool x)) HE.out.symm, rfl⟩

end Go.Proofs.Ytojgaiodbdgehaa
