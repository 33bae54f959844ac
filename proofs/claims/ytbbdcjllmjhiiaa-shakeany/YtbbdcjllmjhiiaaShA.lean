/- Lists of Bools: has, enter, full; the plain all, Is. -/
import Derived.Test.YtbbdcjllmjhiiaaShM
namespace Go.Proofs.Ytbbdcjllmjhiiaa
open Go.RowKit

/-- A list of Bools in a block. -/
def BL (w : World) (g N : Nat) (l : List Bool) : Prop := Row w g 4 (l.map Value.bool) ∧ l.length = N
theorem BL.cell {w : World} {g N : Nat} {l : List Bool} (h : BL w g N l) (i : Nat) (hi : i < l.length) : w.cell? ⟨g, i, none⟩ = some (.bool l[i]) := by
  have := h.1.cell i (by simpa using hi)
  simpa using this

set_option maxRecDepth 20000 in
set_option maxHeartbeats 400000 in
theorem index_any {w : World} {g N : Nat} {l : List Bool} (h : BL w g N l) (hN : N ≤ 5) :
    Calls Try.prog 30 #[.slice (some ⟨g, 0, none⟩) N N, .bool false] w fun e w' => ∃ r : Int, e = .returned (.int .i64 r) ∧ ((offB l = true ∧ 0 ≤ r) ∨ (offB l = false ∧ r < 0)) ∧ w = w' := by
  have hg := h.1.lt
  have HH : Hid _ := hidden h
  have HL : Hid _ := hidden h.2
  clear h
  go_enter Try.func30, Try.ntmps30
  go_wp2
  go_loopw [5, 8] (fun _ i wr => ∃ k : Nat, k ≤ N ∧ i = .int .i64 (k : Int) ∧ w = wr ∧ offB (l.take k) = false) (fun _ i _ => N - (intOf i).toNat)
  case atStart => exact ⟨0, Nat.zero_le _, rfl, rfl, rfl⟩
  case round =>
    obtain ⟨k, hk, rfl, rfl, hf⟩ := hrel
    have HF : Hid _ := hidden hf
    clear hf
    by_cases hlt : (k : Int) < (N : Int)
    · have hkl : k < l.length := by have := HL.out; omega
      have hc := HH.out.cell k hkl
      have hs : l.take (k + 1) = l.take k ++ [l[k]] := List.take_succ_eq_append_getElem hkl
      have hmem : l[k] ∈ l := List.getElem_mem hkl
      have HS : Hid _ := hidden hs
      have HM : Hid _ := hidden hmem
      clear hs hmem
      generalize l[k] = b at *
      clear hkl
      cases b with
      | true =>
        go_wp2
        go_roundw
        case rel => exact ⟨k + 1, by omega, by go_num, trivial, by
          have h1 := HS.out
          have h2 := (offB_no _).1 HF.out
          rw [h1, offB_no, List.mem_append]
          simp [h2]⟩
        case measure => simp [intOf]; omega
      | false =>
        go_wp2
        go_ret
        exact ⟨(k : Int), rfl, Or.inl ⟨(offB_iff _).2 HM.out, by omega⟩, rfl⟩
    · go_wp2
      go_ret
      refine ⟨-1, rfl, Or.inr ⟨?_, by omega⟩, rfl⟩
      have h1 := HF.out
      have e : l.take k = l := List.take_of_length_le (by have := HL.out; omega)
      rwa [e] at h1
set_option maxRecDepth 20000 in
set_option maxHeartbeats 400000 in
theorem full_any {w : World} {g N : Nat} {l : List Bool} (h : BL w g N l) (hN : N ≤ 5) :
    Calls Try.prog 28 #[.slice (some ⟨g, 0, none⟩) N N] w fun e w' => e = .returned (.bool (fullB l)) ∧ w = w' := by
  have hI : Calls Try.prog 29 #[.slice (some ⟨g, 0, none⟩) N N, .bool false] w fun e w' => e = .returned (.bool (offB l)) ∧ w = w' := by
    have hI := index_any h hN
    clear h
    go_enter Try.func29, Try.ntmps29
    go_wp2_with fail
    refine hI.mono ?_
    rintro e _ ⟨r, rfl, hr, rfl⟩
    rcases hr with ⟨h1, h2⟩ | ⟨h1, h2⟩
    · have HC : Hid _ := hidden h1
      clear h1
      go_wp2
      go_ret
      exact ⟨by rw [HC.out]; rfl, rfl⟩
    · have h3 : decide (0 ≤ r) = false := by simpa using h2
      have HC : Hid _ := hidden h1
      clear h1
      go_wp2
      go_ret
      exact ⟨by rw [HC.out]; rfl, rfl⟩
  unfold fullB
  clear h
  generalize offB l = b at *
  go_enter Try.func28, Try.ntmps28
  go_wp2_with fail
  refine hI.mono ?_
  rintro e _ ⟨rfl, rfl⟩
  go_wp2
  go_ret
  exact ⟨rfl, rfl⟩
set_option maxRecDepth 20000 in
set_option maxHeartbeats 400000 in
theorem has_any (g N : Nat) (m : Int) (w : World) :
    Calls Try.prog 23 #[.slice (some ⟨g, 0, none⟩) N N, .int .i64 m] w fun e w' => e = .returned (.bool (decide (0 ≤ m ∧ m < (N : Int)))) ∧ w = w' := by
  go_enter Try.func23, Try.ntmps23
  by_cases h1 : 0 ≤ m
  · by_cases h2 : m < (N : Int)
    · rw [decide_eq_true (And.intro h1 h2)]
      go_wp2
      go_ret
      exact ⟨rfl, rfl⟩
    · rw [decide_eq_false (fun h => h2 h.2)]
      go_wp2
      go_ret
      exact ⟨rfl, rfl⟩
  · rw [decide_eq_false (fun h => h1 h.1)]
    go_wp2
    go_ret
    exact ⟨rfl, rfl⟩
set_option maxRecDepth 20000 in
set_option maxHeartbeats 400000 in
theorem enter_no {w : World} {g N : Nat} {l : List Bool} (h : BL w g N l) (m : Int) (hm : newB l m = false) :
    Calls Try.prog 27 #[.slice (some ⟨g, 0, none⟩) N N, .int .i64 m] w fun e w' => e = .returned (.bool false) ∧ w = w' := by
  have hH := has_any g N m w
  by_cases h1 : 0 ≤ m ∧ m < (N : Int)
  · obtain ⟨i, rfl⟩ := Int.eq_ofNat_of_zero_le h1.1
    rw [decide_eq_true h1] at hH
    have hi : i < l.length := by have := h.2; omega
    rw [newB_at hi] at hm
    have hb : l[i] = true := by simpa using hm
    have hc := h.cell i hi
    rw [hb] at hc
    have hlt := h1.2
    have hg := h.1.lt
    clear h1 h hm hb hi
    go_enter Try.func27, Try.ntmps27
    go_wp2_with (go_at_call 23; refine hH.mono ?_; rintro e _ ⟨rfl, rfl⟩)
    go_ret
    exact ⟨rfl, rfl⟩
  · rw [decide_eq_false h1] at hH
    clear h1 h hm
    go_enter Try.func27, Try.ntmps27
    go_wp2_with (go_at_call 23; refine hH.mono ?_; rintro e _ ⟨rfl, rfl⟩)
    go_ret
    exact ⟨rfl, rfl⟩
theorem newB_nat {l : List Bool} {m : Int} (h : newB l m = true) : ∃ i : Nat, m = (i : Int) ∧ ∃ hi : i < l.length, l[i] = false := by
  unfold newB at h
  simp only [Bool.and_eq_true, decide_eq_true_eq, Bool.not_eq_true'] at h
  obtain ⟨⟨h1, h2⟩, h3⟩ := h
  obtain ⟨i, rfl⟩ := Int.eq_ofNat_of_zero_le h1
  have hi : i < l.length := by omega
  refine ⟨i, rfl, hi, ?_⟩
  simpa [hi] using h3
set_option maxRecDepth 20000 in
set_option maxHeartbeats 400000 in
theorem enter_ok {w : World} {g N : Nat} {l : List Bool} (h : BL w g N l) (i : Nat) (hi : i < l.length) (hf : l[i] = false) :
    Calls Try.prog 27 #[.slice (some ⟨g, 0, none⟩) N N, .int .i64 (i : Int)] w fun e w' => e = .returned (.bool true) ∧ w' = w.setCell ⟨g, i, none⟩ (.bool true) := by
  have hH := has_any g N (i : Int) w
  have hlt : (i : Int) < (N : Int) := by have := h.2; omega
  rw [decide_eq_true ⟨by omega, hlt⟩] at hH
  have hc := h.cell i hi
  rw [hf] at hc
  have hfr := h.1.frozen i
  have hg := h.1.lt
  clear h hi hf
  go_enter Try.func27, Try.ntmps27
  go_wp2_with (go_at_call 23; refine hH.mono ?_; rintro e _ ⟨rfl, rfl⟩)
  go_ret
  exact ⟨rfl, rfl⟩
set_option maxRecDepth 20000 in
set_option maxHeartbeats 400000 in
theorem rall_any {w : World} {g N : Nat} {l : List Bool} (h : BL w g N l) (hN : N ≤ 5) :
    Calls Try.prog 26 #[.slice (some ⟨g, 0, none⟩) N N] w fun e w' => e = .returned (.bool (fullB l)) ∧ w = w' := by
  have hg := h.1.lt
  have HH : Hid _ := hidden h
  have HL : Hid _ := hidden h.2
  clear h
  go_enter Try.func26, Try.ntmps26
  go_wp2
  go_loopw [3] (fun i wr => ∃ k : Nat, k ≤ N ∧ i = .int .i64 (k : Int) ∧ w = wr ∧ offB (l.take k) = false) (fun i _ => N - (intOf i).toNat)
  case atStart => exact ⟨0, Nat.zero_le _, rfl, rfl, rfl⟩
  case round =>
    obtain ⟨k, hk, rfl, rfl, hf⟩ := hrel
    have HF : Hid _ := hidden hf
    clear hf
    by_cases hlt : (k : Int) < (N : Int)
    · have hkl : k < l.length := by have := HL.out; omega
      have hc := HH.out.cell k hkl
      have hs : l.take (k + 1) = l.take k ++ [l[k]] := List.take_succ_eq_append_getElem hkl
      have hmem : l[k] ∈ l := List.getElem_mem hkl
      have HS : Hid _ := hidden hs
      have HM : Hid _ := hidden hmem
      clear hs hmem
      generalize l[k] = b at *
      clear hkl
      cases b with
      | true =>
        go_wp2
        go_roundw
        case rel => exact ⟨k + 1, by omega, by go_num, trivial, by
          have h1 := HS.out
          have h2 := (offB_no _).1 HF.out
          rw [h1, offB_no, List.mem_append]
          simp [h2]⟩
        case measure => simp [intOf]; omega
      | false =>
        go_wp2
        go_ret
        refine ⟨?_, rfl⟩
        have e : fullB l = false := by
          unfold fullB
          rw [(offB_iff _).2 HM.out]
          rfl
        rw [e]
        rfl
    · go_wp2
      go_ret
      have h1 := HF.out
      have e : l.take k = l := List.take_of_length_le (by have := HL.out; omega)
      rw [e] at h1
      refine ⟨?_, rfl⟩
      unfold fullB
      rw [h1]
      rfl
set_option maxRecDepth 20000 in
set_option maxHeartbeats 400000 in
theorem is_any {w : World} {g N : Nat} {l : List Bool} (h : BL w g N l) (m : Int) :
    Calls Try.prog 19 #[.slice (some ⟨g, 0, none⟩) N N, .int .i64 m] w fun e w' => e = .returned (.bool (isB l m)) ∧ w = w' := by
  by_cases h1 : 0 ≤ m
  · by_cases h2 : m < (N : Int)
    · obtain ⟨i, rfl⟩ := Int.eq_ofNat_of_zero_le h1
      have hi : i < l.length := by have := h.2; omega
      have hc := h.cell i hi
      rw [isB_at hi]
      have hg := h.1.lt
      generalize l[i] = b at *
      clear h hi
      go_enter Try.func19, Try.ntmps19
      go_wp2
      go_ret
      exact ⟨rfl, rfl⟩
    · rw [isB_off (Or.inr (by have := h.2; omega))]
      clear h
      go_enter Try.func19, Try.ntmps19
      go_wp2
      go_ret
      exact ⟨rfl, rfl⟩
  · rw [isB_off (Or.inl (by omega))]
    clear h
    go_enter Try.func19, Try.ntmps19
    go_wp2
    go_ret
    exact ⟨rfl, rfl⟩

end Go.Proofs.Ytbbdcjllmjhiiaa
