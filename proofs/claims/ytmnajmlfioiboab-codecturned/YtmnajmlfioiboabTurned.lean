/- CodecTurned: the walk. -/
import Derived.Test.YtmnajmlfioiboabWalkG
import Derived.Test.YtmnajmlfioiboabWalkD
import Derived.Deep.RegionWith
import Derived.Deep.DrawnRows
namespace Go.Proofs.Ytmnajmlfioiboab
open Go.RowKit
attribute [local go_sem ↓] Go.wp_at_zero Go.wp_at_succ

theorem turn_byte (c : UInt8) (p : Nat) (hp : p < 255) : ∃ u : UInt8, bits .xor .u8 (c.toNat : Int) (IntKind.u8.wrap (IntKind.i64.wrap (1 + (p : Int)))) = (u.toNat : Int) ∧ u ≠ c := by
  have hc := c.toNat_lt
  have e : IntKind.u8.wrap (IntKind.i64.wrap (1 + (p : Int))) = ((1 + p : Nat) : Int) := by
    rw [IntKind.wrap_i64, IntKind.wrap_u8']
    omega
  have hx : c.toNat ^^^ (1 + p) < 2 ^ 8 := Nat.xor_lt_two_pow (by omega) (by omega)
  refine ⟨UInt8.ofNat (c.toNat ^^^ (1 + p)), ?_, ?_⟩
  · rw [e, u8_xor_nat _ _ (by omega) (by omega), UInt8.toNat_ofNat', Nat.mod_eq_of_lt (by omega)]
  · intro h
    have h1 := congrArg UInt8.toNat h
    rw [UInt8.toNat_ofNat', Nat.mod_eq_of_lt (by omega)] at h1
    have h2 : c.toNat ^^^ (1 + p) = c.toNat ^^^ 0 := by rw [h1, Nat.xor_zero]
    have := xor_left_cancel h2
    omega

theorem turned_sum (l : List UInt8) (k : Nat) (u : UInt8) (hk : k < (l ++ sumBytes (crc l)).length) (hu : u ≠ (l ++ sumBytes (crc l))[k]) :
    ∃ m x0 x1 x2 x3, (l ++ sumBytes (crc l)).set k u = m ++ [x0, x1, x2, x3] ∧ sumOf x0 x1 x2 x3 ≠ crc m ∧ m.length = l.length := by
  have hs := sumOf_sumBytes (crc l) (crc_lt l)
  by_cases h : k < l.length
  · refine ⟨l.set k u, _, _, _, _, by rw [List.set_append, if_pos h]; rfl, ?_, by simp⟩
    rw [hs]
    rw [List.getElem_append_left h] at hu
    exact fun e => crc_set_ne l k u h (fun e => hu e.symm) e.symm
  · have hk4 : k < l.length + 4 := by simpa [length_sumBytes] using hk
    rw [List.getElem_append_right (by omega)] at hu
    rcases (show k - l.length = 0 ∨ k - l.length = 1 ∨ k - l.length = 2 ∨ k - l.length = 3 by omega) with e | e | e | e
    all_goals
      refine ⟨l, _, _, _, _, by rw [List.set_append, if_neg h, e]; rfl, ?_, rfl⟩
      intro h2
      rw [← hs] at h2
      have h3 := sumOf_inj h2
      simp only [e, sumBytes, List.getElem_cons_zero, List.getElem_cons_succ] at hu
      simp_all

set_option maxRecDepth 20000 in
set_option maxHeartbeats 1000000 in
theorem turned_any (v : Value) (l : List UInt8) (at' by' : Int) (w : World) (hv : Bs w v l) (hl : l.length ≤ 140737488355000) :
    Calls Try.prog 5 #[v, .int .i64 at', .int .i64 by'] w fun e w' => e = .returned (.bool true) ∧ Below w.heap.size w w' := by
  have hv0 := hv
  obtain ⟨ao, cap, rfl, hc, hx⟩ := hv
  clear hx
  have hk := pickN_lt at' (l.length + 4) (by omega)
  have hd := pickN_lt by' 255 (by omega)
  go_enter Try.func5, Try.ntmps5
  go_wp2_with (first
    | (go_at_call 16; refine (seal_any _ l _ hv0 hl).mono ?_; rintro e w1 ⟨rfl, hg1, hb1, hlt1⟩)
    | (go_at_call 7; refine (known_any _).mono ?_; rintro e w2 ⟨rfl, hb2⟩; have hg2 := (hb2.block _ hlt1).trans hg1)
    | (go_at_call 8; refine (pick_any at' (l.length + 4) (by omega) (by omega) _).mono ?_; rintro e w3 ⟨rfl, rfl⟩))
  generalize hK : pickN at' (l.length + 4) = k at *
  have HK : Hid _ := hK
  clear hK
  have hlen : (l ++ sumBytes (crc l)).length = l.length + 4 := by simp [length_sumBytes]
  have hkl : k < (l ++ sumBytes (crc l)).length := by omega
  have hcell : w2.cell? ⟨w.heap.size, k, none⟩ = some (.int .u8 ((l ++ sumBytes (crc l))[k].toNat : Int)) := by
    rw [cell_of_row w2 _ k _ _ _ hg2]
    simp [List.getElem?_eq_getElem hkl, bv, -List.map_append]
  have hfz := frozen_of_row w2 w.heap.size k _ _ hg2
  have hbyte := (l ++ sumBytes (crc l))[k].toNat_lt
  generalize hC : (l ++ sumBytes (crc l))[k] = c at *
  obtain ⟨u, hu, hne⟩ := turn_byte c (pickN by' 255) hd
  obtain ⟨m, x0, x1, x2, x3, hset, hbad, hml⟩ := turned_sum l k u hkl (by rw [hC]; exact hne)
  have HS : Hid _ := hset
  have HB : Hid _ := hbad
  have HL : Hid _ := hml
  clear hC hset hbad hml hne hkl
  have HG : Hid _ := hg2
  clear hg2 hg1 hlen hd HK
  have hk1 : (0 : Int) ≤ (k : Int) := by omega
  have hk2 : (k : Int) < (l.length : Int) + 4 := by omega
  go_region_with (go_at_call 8; refine (pick_any by' 255 (by omega) (by omega) _).mono ?_; rintro e w' ⟨rfl, rfl⟩)
  all_goals
    have hgW : (w2.setCell ⟨w.heap.size, k, none⟩ (.int .u8 (u.toNat : Int))).drew.heap[w.heap.size]? = some (.cells ((m ++ [x0, x1, x2, x3]).map bv).toArray 5 (0, 0)) := by
      rw [← HS.out]
      show (w2.setCell ⟨w.heap.size, k, none⟩ (.int .u8 (u.toNat : Int))).heap[w.heap.size]? = _
      rw [heap_setCell_same w2 w.heap.size k _ _ _ HG.out, List.map_set]
      simp [bv]
    have hbW : Below w.heap.size w (w2.setCell ⟨w.heap.size, k, none⟩ (.int .u8 (u.toNat : Int))).drew := ((hb1.trans (hb2.mono (by omega))).setCell (Nat.le_refl _) _).drew
    generalize (w2.setCell ⟨w.heap.size, k, none⟩ (.int .u8 (u.toNat : Int))).drew = W at *
    have hBs : Bs W (.slice (some ⟨w.heap.size, 0, none⟩) (l.length + 4) (l.length + 4)) (m ++ [x0, x1, x2, x3]) := by
      have e : l.length + 4 = (m ++ [x0, x1, x2, x3]).length := by have := HL.out; simp [this]
      rw [e]
      exact Bs.ofBlock hgW (List.take_of_length_le (by simp)) (Nat.le_refl _)
    have hml : m.length ≤ 140737488355000 := by have := HL.out; omega
    clear hgW hu hcell hfz HS HG HL hb1 hb2 hlt1 hv0
    go_wp2_with (go_at_call 14; refine (unseal_bad _ m x0 x1 x2 x3 _ hBs hml HB.out).mono ?_; rintro e w' ⟨rfl, rfl⟩)
    go_ret
    exact ⟨rfl, hbW⟩

end Go.Proofs.Ytmnajmlfioiboab
