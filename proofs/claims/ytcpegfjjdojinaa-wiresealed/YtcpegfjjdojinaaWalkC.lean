/- Seals: call by call. -/
import Derived.Test.YtcpegfjjdojinaaWalkB
namespace Go.Proofs.Ytcpegfjjdojinaa
open Go.RowKit

/-- What a seal's block holds when k bytes of the sum are laid. -/
def sealRow (l : List UInt8) (k : Nat) : List Value := (l ++ (sumBytes (crc l)).take k).map bv ++ List.replicate (4 - k) (.int .u8 0)
theorem length_sealRow (l : List UInt8) (k : Nat) (hk : k ≤ 4) : (sealRow l k).length = l.length + 4 := by
  simp [sealRow, length_sumBytes]; omega

theorem sealRow_zero (l : List UInt8) : splice (List.replicate (l.length + 4) (Value.int .u8 0)) 0 (l.map bv) = sealRow l 0 := by
  simp [splice, sealRow]
theorem sealRow_four (l : List UInt8) : sealRow l 4 = (l ++ sumBytes (crc l)).map bv := by
  simp [sealRow, sumBytes]
theorem sealRow_step (l : List UInt8) (k : Nat) (hk : k < 4) (x : Int) (hx : x = (crc l / 256 ^ k % 256 : Nat)) : (sealRow l k).set (l.length + k) (.int .u8 x) = sealRow l (k + 1) := by
  subst hx
  rcases (show k = 0 ∨ k = 1 ∨ k = 2 ∨ k = 3 by omega) with rfl | rfl | rfl | rfl <;>
    simp [sealRow, sumBytes, List.replicate, bv, UInt8.toNat_ofNat']
theorem sealRow_cell {w : World} {g : Nat} {l : List UInt8} {k : Nat} {t : TypeId} (hk : k < 4) (hg : w.heap[g]? = some (.cells (sealRow l k).toArray t (0, 0))) : w.cell? ⟨g, l.length + k, none⟩ = some (.int .u8 0) := by
  rw [cell_of_row w g _ _ _ _ hg]
  rcases (show k = 0 ∨ k = 1 ∨ k = 2 ∨ k = 3 by omega) with rfl | rfl | rfl | rfl <;>
    simp [sealRow, sumBytes, List.replicate]

theorem shift_byte (c k : Nat) (hk : k < 4) : (c : Int) / 2 ^ (8 * k) % 256 = ((c / 256 ^ k % 256 : Nat) : Int) := by
  rcases (show k = 0 ∨ k = 1 ∨ k = 2 ∨ k = 3 by omega) with rfl | rfl | rfl | rfl <;> simp

set_option maxHeartbeats 400000 in
theorem seal_any (v : Value) (l : List UInt8) (w : World) (hv : Bs w v l) (hl : l.length ≤ 140737488355000) :
    Calls Try.prog 24 #[v] w fun e w' => e = .returned (.slice (some ⟨w.heap.size, 0, none⟩) (l.length + 4) (l.length + 4)) ∧
      w'.heap[w.heap.size]? = some (.cells ((l ++ sumBytes (crc l)).map bv).toArray 5 (0, 0)) ∧ Below w.heap.size w w' ∧ w.heap.size < w'.heap.size := by
  have hv0 := hv
  obtain ⟨ao, cap, rfl, hc, hx⟩ := hv
  obtain ⟨i, hi, hz0, hz1, hz2⟩ := info_parts Try.infoByte
  have hsz : (Try.prog.info? 5).map (·.size) = some 1 := by rw [hi]; simp [hz1]
  have hcs := crc_lt l
  go_enter Try.func24, Try.ntmps24
  go_wp2_with (first
    | (at_make; refine wpList_make_row _ rfl _ _ 29 rfl 5 i _ Try.underlying29 hi hz0 hz1 rfl _ _ _ _ (l.length + 4) rfl rfl (by omega) (by omega) (by rw [hz2]; omega) (by unfold maxLen; omega) ?_; intro w1 hg1 hb1 hlt1)
    | (refine wpList_copy_splice rfl (.tmp 10) (.tmp 11) 29 29 rfl 5 Try.underlying29 hsz _ ao (l.length + 4) (l.length + 4) l.length cap rfl rfl w.heap.size 0 (List.replicate (l.length + 4) (.int .u8 0)) 5 hg1 (l.map bv) (len_min l 4) (fun hp => ⟨rfl, src_of hx hb1 hp⟩) (len_fit l 4 _) (bv_oneCell l) w.heap.size w hb1 (Nat.le_refl _) ?_; intro w2 hg2 hb2)
    | (go_at_call 52; refine (sum_any _ l _ (hv0.below hb2) (by omega)).mono ?_; rintro e w' ⟨rfl, rfl⟩))
  have hg2' := hg2.out
  rw [sealRow_zero] at hg2'
  have hb2' := hb2
  generalize hG : w.heap.size = G at *
  clear hg2 hb2 hg1 hb1 hlt1 hx hv0 hi hsz hz0 hz1 hz2
  go_loopw [15] (fun i wr => ∃ k : Nat, k ≤ 4 ∧ i = .int .i64 k ∧ wr.heap[G]? = some (.cells (sealRow l k).toArray 5 (0, 0)) ∧ Below G w wr) (fun i _ => 4 - (intOf i).toNat)
  case atStart => exact ⟨0, by omega, rfl, hg2', hb2'⟩
  case round =>
    obtain ⟨k, hk, rfl, hrow, hbl⟩ := hrel
    by_cases hlt : k < 4
    · have hcell := sealRow_cell hlt hrow
      have hfz := frozen_of_row wr G (l.length + k) _ _ hrow
      go_wp2
      go_roundw
      case rel =>
        refine ⟨k + 1, by omega, by go_num, ?_, hbl.setCell (Nat.le_refl _) _⟩
        rw [heap_setCell_same wr G (l.length + k) _ _ _ hrow, shift_byte (crc l) k hlt]
        have := sealRow_step l k hlt _ rfl
        rw [← this]
        simp
      case measure => simp [intOf]; omega
    · have hk4 : k = 4 := by omega
      subst hk4
      go_wp2
      go_ret
      rw [sealRow_four] at hrow
      subst hG
      exact ⟨rfl, hrow, hbl, (Array.getElem?_eq_some_iff.1 hrow).1⟩

theorem seal_bs {w : World} {g : Nat} {t : TypeId} {l : List UInt8} (hg : w.heap[g]? = some (.cells ((l ++ sumBytes (crc l)).map bv).toArray t (0, 0))) : Bs w (.slice (some ⟨g, 0, none⟩) (l.length + 4) (l.length + 4)) (l ++ sumBytes (crc l)) := by
  have h := Bs.ofBlock (l := l ++ sumBytes (crc l)) hg (List.take_of_length_le (by simp)) (Nat.le_refl _)
  rwa [show (l ++ sumBytes (crc l)).length = l.length + 4 by simp [length_sumBytes]] at h

end Go.Proofs.Ytcpegfjjdojinaa
