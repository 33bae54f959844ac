/- ClockTicks: the walk. -/
import Derived.Test.YtojgaiodbdgehaaCkC
namespace Go.Proofs.Ytojgaiodbdgehaa
open Go.RowKit

theorem tickE_arg {n b : Nat} (h : 4294967295 < b) : tickE n b = 1 := by unfold tickE; rw [if_pos h]
theorem tickE_full {n b : Nat} (h : ¬ 4294967295 < b) (h2 : 4611686018427387904 - n < b) : tickE n b = 7 := by unfold tickE; rw [if_neg h, if_pos h2]
theorem tickE_ok {n b : Nat} (h : ¬ 4294967295 < b) (h2 : ¬ 4611686018427387904 - n < b) : tickE n b = 0 := by unfold tickE; rw [if_neg h, if_neg h2]
theorem tickN_arg {n b : Nat} (h : 4294967295 < b) : tickN n b = n := by unfold tickN; rw [if_pos h]
theorem tickN_full {n b : Nat} (h : ¬ 4294967295 < b) (h2 : 4611686018427387904 - n < b) : tickN n b = n := by unfold tickN; rw [if_neg h, if_pos h2]
theorem tickN_ok {n b : Nat} (h : ¬ 4294967295 < b) (h2 : ¬ 4611686018427387904 - n < b) : tickN n b = n + b := by unfold tickN; rw [if_neg h, if_neg h2]

set_option maxRecDepth 20000 in
set_option maxHeartbeats 1000000 in
theorem clockTicks_no (s : Nat) (v : Value) (w : World) (hs : 4611686018427387904 < s) (hv : ∃ a n c, v = .slice a n c) :
    Calls Try.prog 4 #[.int .u64 (s : Int), v] w fun e w' => e = .returned (.bool true) ∧ Below w.heap.size w w' := by
  obtain ⟨a, n, c, rfl⟩ := hv
  go_enter Try.func4, Try.ntmps4
  go_wp2_with fail
  refine (new_no s hs w).mono ?_
  rintro e w1 ⟨rfl, rfl⟩
  go_wp2_with fail
  refine (cknown_any w).mono ?_
  rintro e w2 ⟨rfl, hb2⟩
  go_wp2
  go_ret
  exact ⟨rfl, hb2⟩

set_option maxRecDepth 20000 in
set_option maxHeartbeats 1000000 in
theorem clockTicks_any (s : Nat) (v : Value) (l : List Nat) (w : World) (hs : s ≤ 4611686018427387904) (hv : Ns .u64 w v l) (hl : l.length ≤ 140737488355328) :
    Calls Try.prog 4 #[.int .u64 (s : Int), v] w fun e w' => e = .returned (.bool true) ∧ Below w.heap.size w w' := by
  obtain ⟨ao, cap, rfl, hc, hx⟩ := hv
  go_enter Try.func4, Try.ntmps4
  go_wp2_with fail
  refine (new_ok s hs w).mono ?_
  rintro e w1 ⟨rfl, hc1, hb1, hs1⟩
  go_wp2_with fail
  refine (cknown_any w1).mono ?_
  rintro e w2 ⟨rfl, hb2⟩
  have hc2 := hc1.below hb2
  have hz2 := hb2.size
  have hB2 : Below w.heap.size w w2 := hb1.trans (hb2.mono (by omega))
  clear hc1 hb1 hb2
  go_wp2
  generalize hG : w.heap.size = gb at *
  go_loopw [7, 8] (fun now i wr => ∃ (k n : Nat), k ≤ l.length ∧ i = .int .i64 (k : Int) ∧ now = .int .u64 (n : Int) ∧ CK wr gb n ∧ Below gb w wr) (fun _ i _ => l.length - (intOf i).toNat)
  case atStart => exact ⟨0, s, Nat.zero_le _, rfl, rfl, hc2, hB2⟩
  case round =>
    obtain ⟨k, n, hk, rfl, rfl, hck, hbr⟩ := hrel
    have hn := hck.le
    have hsz := hck.size
    by_cases hlt : k < l.length
    · obtain ⟨blk, off, rfl, hblk, hat⟩ := hx (by intro e; subst e; simp at hlt)
      have a0 := (hbr.cell (p := ⟨blk, off + k, none⟩) (by simp; omega)).trans (hat k hlt)
      clear hat hx
      generalize l[k] = x at *
      have HT := tick_any gb n x wr hck
      by_cases h1 : 4294967295 < x
      · rw [tickE_arg h1, tickN_arg h1] at HT
        go_wp2_with fail
        refine HT.mono ?_
        rintro e w3 ⟨rfl, hc3, hk3⟩
        have b0 := hc3.c0
        go_wp2_with fail
        refine (now_any gb n w3 hc3).mono ?_
        rintro e w4 ⟨rfl, rfl⟩
        go_wp2
        go_roundw
        case rel => exact ⟨k + 1, n, by omega, by go_num, rfl, hc3, hbr.trans (hk3.below (by omega) (fun i hi e => by omega))⟩
        case measure => simp [intOf]; omega
      · by_cases h2 : 4611686018427387904 - n < x
        · rw [tickE_full h1 h2, tickN_full h1 h2] at HT
          go_wp2_with fail
          refine HT.mono ?_
          rintro e w3 ⟨rfl, hc3, hk3⟩
          have b0 := hc3.c0
          go_wp2_with fail
          refine (now_any gb n w3 hc3).mono ?_
          rintro e w4 ⟨rfl, rfl⟩
          go_wp2
          go_roundw
          case rel => exact ⟨k + 1, n, by omega, by go_num, rfl, hc3, hbr.trans (hk3.below (by omega) (fun i hi e => by omega))⟩
          case measure => simp [intOf]; omega
        · rw [tickE_ok h1 h2, tickN_ok h1 h2] at HT
          go_wp2_with fail
          refine HT.mono ?_
          rintro e w3 ⟨rfl, hc3, hk3⟩
          have b0 := hc3.c0
          go_wp2_with fail
          refine (now_any gb (n + x) w3 hc3).mono ?_
          rintro e w4 ⟨rfl, rfl⟩
          go_wp2
          go_roundw
          case rel => exact ⟨k + 1, n + x, by omega, by go_num, by go_num, hc3, hbr.trans (hk3.below (by omega) (fun i hi e => by omega))⟩
          case measure => simp [intOf]; omega
    · go_wp2_with fail
      refine (now_any gb n wr hck).mono ?_
      rintro e w4 ⟨rfl, rfl⟩
      go_wp2
      go_ret
      exact ⟨rfl, hG ▸ hbr⟩

theorem clockTicks_all (s : Nat) (v : Value) (l : List Nat) (w : World) (hv : Ns .u64 w v l) (hl : l.length ≤ 140737488355328) :
    Calls Try.prog 4 #[.int .u64 (s : Int), v] w fun e w' => e = .returned (.bool true) ∧ Below w.heap.size w w' := by
  by_cases hs : s ≤ 4611686018427387904
  · exact clockTicks_any s v l w hs hv hl
  · refine clockTicks_no s v w (by omega) ?_
    obtain ⟨a, c, rfl, _⟩ := hv
    exact ⟨_, _, _, rfl⟩

end Go.Proofs.Ytojgaiodbdgehaa
