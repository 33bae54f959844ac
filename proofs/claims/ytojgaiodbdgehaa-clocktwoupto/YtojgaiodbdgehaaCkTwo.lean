/- ClockTwo: the walk. -/
import Derived.Test.YtojgaiodbdgehaaCkTicks
namespace Go.Proofs.Ytojgaiodbdgehaa
open Go.RowKit

set_option maxRecDepth 20000 in
set_option maxHeartbeats 1000000 in
theorem clockTwo_any (a b : Nat) (v : Value) (l : List Nat) (w : World) (ha : a < 4294967296) (hb' : b < 4294967296) (hv : Ns .u32 w v l) (hb : ∀ x ∈ l, x < 4294967296) (hl : l.length ≤ 1048576) :
    Calls Try.prog 6 #[.int .u32 (a : Int), .int .u32 (b : Int), v] w fun e w' => e = .returned (.bool true) ∧ Below w.heap.size w w' := by
  obtain ⟨ao, cap, rfl, hc, hx⟩ := hv
  go_enter Try.func6, Try.ntmps6
  go_wp2_with fail
  refine (new_ok a (by omega) w).mono ?_
  rintro e w1 ⟨rfl, hc1, hb1, hs1⟩
  go_wp2_with fail
  refine (new_ok b (by omega) w1).mono ?_
  rintro e w2 ⟨rfl, hd2, hb2, hs2⟩
  have hc2 := hc1.below hb2
  rw [hs1] at hd2
  go_wp2_with fail
  refine (cknown_any w2).mono ?_
  rintro e w3 ⟨rfl, hb3⟩
  have hc3 := hc2.below hb3
  have hd3 := hd2.below hb3
  have hz3 := hb3.size
  have hB3 : Below w.heap.size w w3 := (hb1.trans (hb2.mono (by omega))).trans (hb3.mono (by omega))
  clear hc1 hb1 hb2 hc2 hd2 hb3
  go_wp2
  generalize hG : w.heap.size = gb at *
  go_loopw [11, 12] (fun sum i wr => ∃ (k n : Nat), k ≤ l.length ∧ n ≤ 4294967296 + k * 4294967296 ∧ i = .int .i64 (k : Int) ∧ sum = .int .u64 (n : Int) ∧ CK wr gb n ∧ CK wr (gb + 1) b ∧ Below gb w wr) (fun _ i _ => l.length - (intOf i).toNat)
  case atStart => exact ⟨0, a, Nat.zero_le _, by omega, rfl, rfl, hc3, hd3, hB3⟩
  case round =>
    obtain ⟨k, n, hk, hnk, rfl, rfl, hck, hdk, hbr⟩ := hrel
    have hn := hck.le
    have hsz := hck.size
    have hne2 : gb + 1 ≠ gb := by omega
    by_cases hlt : k < l.length
    · obtain ⟨blk, off, rfl, hblk, hat⟩ := hx (by intro e; subst e; simp at hlt)
      have a0 := (hbr.cell (p := ⟨blk, off + k, none⟩) (by simp; omega)).trans (hat k hlt)
      have hxb := hb _ (List.getElem_mem hlt)
      have hne : blk ≠ gb := by omega
      clear hat hx hb
      generalize l[k] = x at *
      have h1 : ¬ 4294967295 < x := by omega
      have h2 : ¬ 4611686018427387904 - n < x := by omega
      have HT := tick_any gb n x wr hck
      rw [tickE_ok h1 h2, tickN_ok h1 h2] at HT
      go_wp2_with fail
      refine HT.mono ?_
      rintro e w3 ⟨rfl, hc3, hk3⟩
      have a1 := (World.cell?_of_block (a := ⟨blk, off + k, none⟩) (hk3.block blk (by omega) hne)).trans a0
      go_wp2
      go_roundw
      case rel => exact ⟨k + 1, n + x, by omega, by omega, by go_num, by go_num, hc3, hdk.keep hk3 hne2, hbr.trans (hk3.below (by omega) (fun i hi e => by omega))⟩
      case measure => simp [intOf]; omega
    · go_wp2_with fail
      refine (now_any gb n wr hck).mono ?_
      rintro e w4 ⟨rfl, rfl⟩
      go_wp2_with fail
      refine (now_any (gb + 1) b wr hdk).mono ?_
      rintro e w4 ⟨rfl, rfl⟩
      go_wp2
      go_ret
      exact ⟨rfl, hG ▸ hbr⟩

end Go.Proofs.Ytojgaiodbdgehaa
