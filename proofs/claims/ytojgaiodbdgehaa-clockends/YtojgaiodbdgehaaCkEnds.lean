/- ClockEnds: the walk. -/
import Derived.Test.YtojgaiodbdgehaaCkTicks
namespace Go.Proofs.Ytojgaiodbdgehaa
open Go.RowKit

set_option maxRecDepth 20000 in
set_option maxHeartbeats 1000000 in
theorem clockEnds_any (a : Nat) (v : Value) (l : List Nat) (w : World) (ha : a < 4294967296) (hv : Ns .u32 w v l) (hb : ∀ x ∈ l, x < 4294967296) (hl : l.length ≤ 140737488355328) :
    Calls Try.prog 5 #[.int .u32 (a : Int), v] w fun e w' => e = .returned (.bool true) ∧ Below w.heap.size w w' := by
  obtain ⟨ao, cap, rfl, hc, hx⟩ := hv
  obtain ⟨s, hs⟩ : ∃ s, s = 4611686018427387904 - a := ⟨_, rfl⟩
  go_enter Try.func5, Try.ntmps5
  go_wp2_with fail
  rw [show (4611686018427387904 : Int) - (a : Int) = (s : Int) by omega]
  refine (new_ok s (by omega) w).mono ?_
  rintro e w1 ⟨rfl, hc1, hb1, hs1⟩
  go_wp2_with fail
  refine (cknown_any w1).mono ?_
  rintro e w2 ⟨rfl, hb2⟩
  have hc2 := hc1.below hb2
  have hz2 := hb2.size
  have hB2 : Below w.heap.size w w2 := hb1.trans (hb2.mono (by omega))
  clear hc1 hb1 hb2 hs
  go_wp2
  generalize hG : w.heap.size = gb at *
  go_loopw [7] (fun i wr => ∃ (k n : Nat), k ≤ l.length ∧ i = .int .i64 (k : Int) ∧ CK wr gb n ∧ Below gb w wr) (fun i _ => l.length - (intOf i).toNat)
  case atStart => exact ⟨0, s, Nat.zero_le _, rfl, hc2, hB2⟩
  case round =>
    obtain ⟨k, n, hk, rfl, hck, hbr⟩ := hrel
    have hn := hck.le
    have hsz := hck.size
    by_cases hlt : k < l.length
    · obtain ⟨blk, off, rfl, hblk, hat⟩ := hx (by intro e; subst e; simp at hlt)
      have a0 := (hbr.cell (p := ⟨blk, off + k, none⟩) (by simp; omega)).trans (hat k hlt)
      have hxb := hb _ (List.getElem_mem hlt)
      have hne : blk ≠ gb := by omega
      clear hat hx hb
      generalize l[k] = x at *
      have h1 : ¬ 4294967295 < x := by omega
      have HT := tick_any gb n x wr hck
      by_cases h2 : 4611686018427387904 - n < x
      · rw [tickE_full h1 h2, tickN_full h1 h2] at HT
        go_wp2_with fail
        refine (now_any gb n wr hck).mono ?_
        rintro e w4 ⟨rfl, rfl⟩
        go_wp2_with fail
        refine HT.mono ?_
        rintro e w3 ⟨rfl, hc3, hk3⟩
        have a1 := (World.cell?_of_block (a := ⟨blk, off + k, none⟩) (hk3.block blk (by omega) hne)).trans a0
        go_wp2_with fail
        refine (now_any gb n w3 hc3).mono ?_
        rintro e w4 ⟨rfl, rfl⟩
        go_wp2_with fail
        refine (now_any gb n w3 hc3).mono ?_
        rintro e w4 ⟨rfl, rfl⟩
        go_wp2_with fail
        refine (now_any gb n w3 hc3).mono ?_
        rintro e w4 ⟨rfl, rfl⟩
        go_wp2
        go_roundw
        case rel => exact ⟨k + 1, n, by omega, by go_num, hc3, hbr.trans (hk3.below (by omega) (fun i hi e => by omega))⟩
        case measure => simp [intOf]; omega
      · rw [tickE_ok h1 h2, tickN_ok h1 h2] at HT
        go_wp2_with fail
        refine (now_any gb n wr hck).mono ?_
        rintro e w4 ⟨rfl, rfl⟩
        go_wp2_with fail
        refine HT.mono ?_
        rintro e w3 ⟨rfl, hc3, hk3⟩
        have a1 := (World.cell?_of_block (a := ⟨blk, off + k, none⟩) (hk3.block blk (by omega) hne)).trans a0
        go_wp2_with fail
        refine (now_any gb (n + x) w3 hc3).mono ?_
        rintro e w4 ⟨rfl, rfl⟩
        go_wp2_with fail
        refine (now_any gb (n + x) w3 hc3).mono ?_
        rintro e w4 ⟨rfl, rfl⟩
        go_wp2
        go_roundw
        case rel => exact ⟨k + 1, n + x, by omega, by go_num, hc3, hbr.trans (hk3.below (by omega) (fun i hi e => by omega))⟩
        case measure => simp [intOf]; omega
    · go_wp2
      go_ret
      exact ⟨rfl, hG ▸ hbr⟩

end Go.Proofs.Ytojgaiodbdgehaa
