/- CodecCut: the walk. -/
import Derived.Test.YtmnajmlfioiboaaLaid
import Derived.Test.YtmnajmlfioiboaaCutMath
import Derived.Test.YtmnajmlfioiboaaWalkF
namespace Go.Proofs.Ytmnajmlfioiboaa
open Go.RowKit

set_option maxRecDepth 20000 in
set_option maxHeartbeats 2000000 in
theorem cut_any (v : Value) (ds : List LayD) (cut : Int) (w : World) (hv : Lays w v ds) (hl : (layAll ds).length + 20 ≤ 140737488355328) (hn : ds.length ≤ 140737488355328) :
    Calls Try.prog 8 #[v, .int .i64 cut] w fun e w' => e = .returned (.bool true) ∧ Below w.heap.size w w' := by
  obtain ⟨ao, cap, rfl, hx⟩ := id hv
  by_cases h0 : (layAll ds).length = 0
  · have t0 : (((layAll ds).length : Int) == 0) = true := by rw [beq_iff_eq]; omega
    clear h0
    go_enter Try.func8, Try.ntmps8
    go_wp2_with (first
      | (go_at_call 27; refine (laid_any _ ds _ hv hl hn).mono ?_; rintro e w1 ⟨k1, hk1, rfl, hg1, hb1⟩)
      | (go_at_call 16; refine (known_any _).mono ?_; rintro e w3 ⟨rfl, hb3⟩))
    go_ret
    exact ⟨rfl, hb1.trans (hb3.mono hb1.size)⟩
  · have t0 : (((layAll ds).length : Int) == 0) = false := by rw [beq_eq_false_iff_ne]; omega
    have hc := pickN_lt cut (layAll ds).length (by omega)
    generalize hC : pickN cut (layAll ds).length = c at *
    have HC : Hid (pickN cut (layAll ds).length = c) := hC
    clear hC
    go_enter Try.func8, Try.ntmps8
    go_wp2_with (first
      | (go_at_call 27; refine (laid_any _ ds _ hv hl hn).mono ?_; rintro e w1 ⟨k1, hk1, rfl, hg1, hb1⟩)
      | (go_at_call 16; refine (known_any _).mono ?_; rintro e w2 ⟨rfl, hb2⟩)
      | (go_at_call 19; refine (pick_any cut (layAll ds).length (by omega) (by omega) _).mono ?_; rintro e w' ⟨rfl, rfl⟩; rw [HC.out])
      | (go_at_call 9; refine (newReader_any _ ((layAll ds).take c) _ (((Bs.ofBlock hg1 (List.take_of_length_le (by simp)) (Nat.le_refl _)).below hb2).pre c (by omega)) (by simp; omega)).mono ?_; rintro e w3 ⟨rb, hrb, rfl, hr3, hb3⟩))
    have z1 := hb1.size
    have z2 := hb2.size
    have z3 := hb3.size
    have hB3 : Below w.heap.size w w3 := (hb1.trans (hb2.mono z1)).trans (hb3.mono (by omega))
    clear hb1 hb2 hb3 hg1 hv
    go_loopw [7] (fun i wr => ∃ k p e : Nat, k ≤ ds.length ∧ i = .int .i64 k ∧ RD wr rb w2.heap.size ((layAll ds).take c) p e ∧ Good ds k p e ∧ Below w.heap.size w wr) (fun i _ => ds.length - (intOf i).toNat)
    case atStart => exact ⟨0, 0, 0, Nat.zero_le _, rfl, hr3, Or.inl ⟨rfl, rfl⟩, hB3⟩
    case round =>
      obtain ⟨k, p, e, hk, rfl, hrd, hgood, hbr⟩ := hrel
      by_cases hlt : k < ds.length
      · obtain ⟨blk, off, rfl, hblk, hat⟩ := hx (by intro e; subst e; simp at hlt)
        have hle := layAll_step_le ds k hlt
        have ha := (hat k hlt).below hbr hblk
        have a0 := ha.c0
        obtain ⟨tv, a3w, ht0⟩ := (hat k hlt).c3
        have a3 := (hbr.cell (p := ⟨blk, off + k * 4 + 3, none⟩) hblk).trans a3w
        have hdn := ha.n
        have zr := hbr.size
        clear a3w hat hx hr3 hB3 ha
        have GB := fun h => good_byte (c := c) hlt h hgood
        have GN := fun h => good_num (c := c) hlt h hdn hgood
        have GT := fun h h2 => good_text (c := c) hlt h h2 hrd.le hgood
        have G1 : Hid _ := GB
        have G2 : Hid _ := GN
        have G3 : Hid _ := GT
        clear GB GN GT hgood
        generalize ds[k] = d at *
        rcases pick3 d.what with h0 | h0 | h0
        · have HP : Hid (pickN d.what 3 = 0) := h0
          clear h0 ht0 a3
          go_wp2_with (first
            | (go_at_call 19; refine (pick_any d.what 3 (by omega) (by omega) _).mono ?_; rintro e w' ⟨rfl, rfl⟩; rw [HP.out])
            | (go_at_call 10; refine (rbyte_any _ rb _ _ p e 255 hrd).mono ?_; rintro e w4 ⟨rfl, hto⟩))
          go_roundw
          case rel => exact ⟨k + 1, _, _, by omega, by go_num, hto.rd, G1.out HP.out, hbr.trans (hto.bel (by omega) (by omega))⟩
          case measure => simp [intOf]; omega
        · have HP : Hid (pickN d.what 3 = 1) := h0
          clear h0 ht0 a3
          go_wp2_with (first
            | (go_at_call 19; refine (pick_any d.what 3 (by omega) (by omega) _).mono ?_; rintro e w' ⟨rfl, rfl⟩; rw [HP.out])
            | (go_at_call 11; refine (rnum_any _ rb _ _ p e 18446744073709551615 hrd).mono ?_; rintro e w4 ⟨rfl, hto⟩))
          go_roundw
          case rel => exact ⟨k + 1, _, _, by omega, by go_num, hto.rd, G2.out HP.out, hbr.trans (hto.bel (by omega) (by omega))⟩
          case measure => simp [intOf]; omega
        · have HP : Hid (pickN d.what 3 = 2) := h0
          have htl : d.t.length ≤ 140737488355328 := by rw [layOne_text h0, List.length_append] at hle; omega
          obtain ⟨ta, tc, hte, hrest⟩ := id ht0
          subst hte
          clear h0 ht0 hrest hle
          go_wp2_with (first
            | (go_at_call 19; refine (pick_any d.what 3 (by omega) (by omega) _).mono ?_; rintro e w' ⟨rfl, rfl⟩; rw [HP.out])
            | (go_at_call 12; refine (rtext_nat _ rb _ _ p e d.t.length (by omega) hrd).mono ?_; rintro e w4 ⟨v4, rfl, hn4, hto⟩))
          go_roundw
          case rel => exact ⟨k + 1, _, _, by omega, by go_num, hto.rd, G3.out HP.out (by omega), hbr.trans (hto.bel (by omega) (by omega))⟩
          case measure => simp [intOf]; omega
      · have hkl : k = ds.length := by omega
        rw [hkl] at hgood
        have E := good_end hc hrd.le hgood
        have zr := hbr.size
        clear hkl hx hr3 hB3 hgood
        go_wp2_with (go_at_call 13; have q := rend_any wr rb _ _ _ e hrd; rw [E] at q; refine q.mono ?_; clear q; rintro e w4 ⟨rfl, hto⟩)
        go_ret
        exact ⟨rfl, hbr.trans (hto.bel (by omega) (by omega))⟩

end Go.Proofs.Ytmnajmlfioiboaa
