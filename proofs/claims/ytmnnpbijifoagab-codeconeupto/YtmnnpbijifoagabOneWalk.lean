/- CodecOne: the walk. -/
import Derived.Test.YtmnnpbijifoagabOne
namespace Go.Proofs.Ytmnnpbijifoagab
open Go.RowKit

set_option maxRecDepth 20000 in
set_option maxHeartbeats 4000000 in
theorem one_any (v u : Value) (L : List UInt8) (zs : List Int) (w : World) (hv : Bs w v L) (hu : Nums w u zs) (hl : L.length ≤ 100000000) (hn : zs.length ≤ 100000000) :
    Calls Try.prog 8 #[v, u] w fun e w' => e = .returned (.bool true) ∧ Below w.heap.size w w' := by
  obtain ⟨ao, cap, rfl, hc, hx⟩ := id hv
  obtain ⟨uo, ucap, rfl, hy⟩ := id hu
  obtain ⟨i, hi, hz0, hz1, hz2⟩ := info_parts Try.infoLay
  go_enter Try.func8, Try.ntmps8
  go_wp2_with (first
    | (go_at_call 26; refine (newReader_any _ L _ hv (by omega)).mono ?_; rintro e w1 ⟨rb, hrb, rfl, hr1, hb1⟩)
    | (go_at_call 19; refine (known_any _).mono ?_; rintro e w2 ⟨rfl, hb2⟩; have hr2 := hr1.below hb2))
  have z1 := hb1.size
  have z2 := hb2.size
  have hB2 : Below w.heap.size w w2 := hb1.trans (hb2.mono z1)
  have s1 := hr1.size
  clear hb1 hb2 hr1 hx
  generalize hG : w.heap.size = gb at *
  go_loopw [6, 7] (fun q i wr => ∃ (k p e : Nat) (qs : List (LayD × Value)), k ≤ zs.length ∧ i = .int .i64 (k : Int) ∧ Got wr w2.heap.size rb gb q k qs L p e ∧ Code e ∧ w2.heap.size ≤ wr.heap.size ∧ Below gb w wr) (fun _ i _ => zs.length - (intOf i).toNat)
  case atStart => exact ⟨0, 0, 0, [], Nat.zero_le _, rfl, ⟨World.ownsRow_nil _ _ _ _, rfl, hr2, Same.start L, by omega, fun _ h => by simp at h⟩, Or.inl rfl, Nat.le_refl _, hB2⟩
  case round =>
    obtain ⟨k, p, e, qs, hk, rfl, hgot, hcode, hsz, hbr⟩ := hrel
    have HC : Hid (Code e) := hcode
    clear hcode
    obtain ⟨qo, qn, qc, hqe⟩ := own_slice hgot.own
    subst hqe
    have hrd := hgot.rd
    have hrs := hrd.size
    by_cases hlt : k < zs.length
    · obtain ⟨blk, off, rfl, hblk, hat⟩ := hy (by intro e; subst e; simp at hlt)
      have a0 := (hbr.cell (p := ⟨blk, off + k, none⟩) (by simp; omega)).trans (hat k hlt)
      clear hat hy
      generalize zs[k] = z at *
      rcases pick3 z with h0 | h0 | h0
      · have HP : Hid (pickN z 3 = 0) := h0
        have HGot : Hid (Got wr w2.heap.size rb gb (.slice qo qn qc) k qs L p e) := hgot
        obtain ⟨x, hxb⟩ := rByte_u8 L p e 255
        have HX : Hid ((rByte L p e 255).1 = x.toNat) := hxb
        clear h0 hgot hxb
        go_wp2_with (first
          | (go_at_call 16; refine (pick_any z 3 (by omega) (by omega) _).mono ?_; rintro e w' ⟨rfl, rfl⟩; rw [HP.out])
          | (go_at_call 27; have q := rbyte_any (wr.alloc (.cells #[.int .i64 0, .int .u8 0, .int .u64 0, .slice none 0 0] 47)) rb _ L p e 255 (hrd.below ((Below.refl _ _).alloc (Nat.le_refl _) _)); rw [HX.out] at q; refine q.mono ?_; clear q; rintro e4 w4 ⟨rfl, hto⟩; obtain ⟨b0, b1, b2, b3, bf⟩ := four_cells (hto.box hrs) 1; have hw4 : wr.heap.size < w4.heap.size := by { have := hto.kept.size; simp at this; omega })
          | (at_builtin; refine wpList_append_own_at _ rfl (.tmp 46) (.tmp 48) 43 rfl w2.heap.size 47 i (.agg #[.int .i64 0, .int .u8 0, .int .u64 0, .slice none 0 0]) 4 48 Try.underlying43 hi hz0 hz1 hz2 rfl (by omega) (.slice qo qn qc) k (qs.flatMap oneCells) rfl (HGot.out.own5 hto) ⟨w4.heap.size, 0, none⟩ 1 1 (oneCells (⟨0, x, 0, []⟩, .slice none 0 0)) rfl rfl (cell_four_set _ _ _ _ _ _ _ _) (oneCells_one rfl) (by simp only [maxLen]; omega) (by omega) (by simp; omega) ?_; intro v6 w6 hown6 hgrow6 _ _))
        obtain ⟨hgot6, hb6⟩ := HGot.out.next (B := gb) (d := ⟨0, x, 0, []⟩) hto (HGot.out.same.byte (show pickN 0 3 = 0 by decide) (by rw [HX.out]; simp)) (by simp) (Lone.nil _ _) hown6 hgrow6 (by omega)
        go_roundw
        case rel => exact ⟨k + 1, _, _, _, by omega, by go_num, hgot6, rByte_code HC.out, by have := hb6.size; omega, hbr.trans hb6⟩
        case measure => simp [intOf]; omega
      · have HP : Hid (pickN z 3 = 1) := h0
        have HGot : Hid (Got wr w2.heap.size rb gb (.slice qo qn qc) k qs L p e) := hgot
        clear h0 hgot
        go_wp2_with (first
          | (go_at_call 16; refine (pick_any z 3 (by omega) (by omega) _).mono ?_; rintro e w' ⟨rfl, rfl⟩; rw [HP.out])
          | (go_at_call 28; refine (rnum_any (wr.alloc (.cells #[.int .i64 1, .int .u8 0, .int .u64 0, .slice none 0 0] 47)) rb _ L p e 18446744073709551615 (hrd.below ((Below.refl _ _).alloc (Nat.le_refl _) _))).mono ?_; rintro e4 w4 ⟨rfl, hto⟩; obtain ⟨b0, b1, b2, b3, bf⟩ := four_cells (hto.box hrs) 2; have hw4 : wr.heap.size < w4.heap.size := by { have := hto.kept.size; simp at this; omega })
          | (at_builtin; refine wpList_append_own_at _ rfl (.tmp 46) (.tmp 48) 43 rfl w2.heap.size 47 i (.agg #[.int .i64 0, .int .u8 0, .int .u64 0, .slice none 0 0]) 4 48 Try.underlying43 hi hz0 hz1 hz2 rfl (by omega) (.slice qo qn qc) k (qs.flatMap oneCells) rfl (HGot.out.own5 hto) ⟨w4.heap.size, 0, none⟩ 1 1 (oneCells (⟨1, 0, (rNum L p e 18446744073709551615).1, []⟩, .slice none 0 0)) rfl rfl (cell_four_set _ _ _ _ _ _ _ _) (oneCells_one rfl) (by simp only [maxLen]; omega) (by omega) (by simp; omega) ?_; intro v6 w6 hown6 hgrow6 _ _))
        obtain ⟨hgot6, hb6⟩ := HGot.out.next (B := gb) (d := ⟨1, 0, (rNum L p e 18446744073709551615).1, []⟩) hto (HGot.out.same.num (show pickN 1 3 = 1 by decide) rfl) (rNum_lt _ _ _ _) (Lone.nil _ _) hown6 hgrow6 (by omega)
        go_roundw
        case rel => exact ⟨k + 1, _, _, _, by omega, by go_num, hgot6, rNum_code HC.out, by have := hb6.size; omega, hbr.trans hb6⟩
        case measure => simp [intOf]; omega
      · have HP : Hid (pickN z 3 = 2) := h0
        have HGot : Hid (Got wr w2.heap.size rb gb (.slice qo qn qc) k qs L p e) := hgot
        clear h0 hgot
        go_wp2_with (first
          | (go_at_call 16; refine (pick_any z 3 (by omega) (by omega) _).mono ?_; rintro e w' ⟨rfl, rfl⟩; rw [HP.out])
          | (go_at_call 29; refine (rtext_nat (wr.alloc (.cells #[.int .i64 2, .int .u8 0, .int .u64 0, .slice none 0 0] 47)) rb _ L p e L.length (by omega) (hrd.below ((Below.refl _ _).alloc (Nat.le_refl _) _))).mono ?_; rintro e4 w4 ⟨v4, rfl, hn4, hto⟩; have htx := hn4.lone (rb := rb) (by simp; omega); obtain ⟨to4, tn4, tc4, htv⟩ := NewBs.form hn4; subst htv; clear hn4; obtain ⟨b0, b1, b2, b3, bf⟩ := four_cells (hto.box hrs) 3; have hw4 : wr.heap.size < w4.heap.size := by { have := hto.kept.size; simp at this; omega })
          | (at_builtin; refine wpList_append_own_at _ rfl (.tmp 46) (.tmp 48) 43 rfl w2.heap.size 47 i (.agg #[.int .i64 0, .int .u8 0, .int .u64 0, .slice none 0 0]) 4 48 Try.underlying43 hi hz0 hz1 hz2 rfl (by omega) (.slice qo qn qc) k (qs.flatMap oneCells) rfl (HGot.out.own5 hto) ⟨w4.heap.size, 0, none⟩ 1 1 (oneCells (⟨2, 0, 0, (rText L p e L.length).1⟩, .slice to4 tn4 tc4)) rfl rfl (cell_four_set _ _ _ _ _ _ _ _) (oneCells_one htx.oneCell) (by simp only [maxLen]; omega) (by omega) (by simp; omega) ?_; intro v6 w6 hown6 hgrow6 _ _))
        obtain ⟨hgot6, hb6⟩ := HGot.out.next (B := gb) (d := ⟨2, 0, 0, (rText L p e L.length).1⟩) hto (HGot.out.same.text (show pickN 2 3 = 2 by decide) rfl) (by simp) (htx) hown6 hgrow6 (by omega)
        go_roundw
        case rel => exact ⟨k + 1, _, _, _, by omega, by go_num, hgot6, rText_code HC.out, by have := hb6.size; omega, hbr.trans hb6⟩
        case measure => simp [intOf]; omega
    · have hdr := hgot.still (RTo.ofBelow hrd ((Below.refl _ _).drew))
      have bd : Below gb w wr.drew := hbr.drew
      have kb := hv.later1
      rw [hG] at kb
      have ML : Hid (gb ≤ rb) := by have := hrb; exact Nat.le_of_lt this
      clear hy hgot
      have hcd := rEnd_code (L := L) (p := p) HC.out
      rcases hcd with hz | hz | hz | hz
      · have HL : Hid (layAll (qs.map Prod.fst) = L) := hdr.same.last hz
        have HZ : Hid (rEnd L p e = 0) := hz
        have hlen := hdr.len
        clear hz
        go_wp2
        go_region_held (fun W => Below gb w W) (assumption) (first
          | (go_at_call 30; have q := rend_any wr.drew rb _ L p e hdr.rd; rw [HZ.out] at q; refine q.mono ?_; clear q; rintro e4 w4 ⟨rfl, hto⟩; have b4 : Below gb w w4 := bd.trans (hto.bel ML.out (by have := bd.size; omega)); have g4 := hdr.still hto)
          | (go_at_call 31; have q := laid_any _ (qs.map Prod.fst) w4 g4.lays (by rw [HL.out]; omega) (by rw [List.length_map]; omega); rw [HL.out] at q; refine q.mono ?_; clear q; rintro e5 w5 ⟨k5, hk5, rfl, hg5, hb5⟩; have b5 : Below gb w w5 := b4.trans (hb5.mono (by have := b4.size; omega)); have k5s := (Bs.ofBlock (l := L) hg5 (List.take_of_length_le (by simp)) (Nat.le_refl _)).later1; have br := Below.refl w5.heap.size w5))
        all_goals
          go_wp2
          go_ret
          exact ⟨rfl, by rw [hG]; exact b5⟩
      · have HZ : Hid (rEnd L p e = 20) := hz
        clear hz kb
        go_wp2
        first
          | go_region_held (fun W => Below gb w W) (assumption) ((go_at_call 30; have q := rend_any wr.drew rb _ L p e hdr.rd; rw [HZ.out] at q; refine q.mono ?_; clear q; rintro e4 w4 ⟨rfl, hto⟩; have b4 : Below gb w w4 := bd.trans (hto.bel ML.out (by have := bd.size; omega))))
          | fail
        all_goals
          go_wp2
          go_ret
          exact ⟨rfl, by rw [hG]; exact b4⟩
      · have HZ : Hid (rEnd L p e = 21) := hz
        clear hz kb
        go_wp2
        first
          | go_region_held (fun W => Below gb w W) (assumption) ((go_at_call 30; have q := rend_any wr.drew rb _ L p e hdr.rd; rw [HZ.out] at q; refine q.mono ?_; clear q; rintro e4 w4 ⟨rfl, hto⟩; have b4 : Below gb w w4 := bd.trans (hto.bel ML.out (by have := bd.size; omega))))
          | fail
        all_goals
          go_wp2
          go_ret
          exact ⟨rfl, by rw [hG]; exact b4⟩
      · have HZ : Hid (rEnd L p e = 22) := hz
        clear hz kb
        go_wp2
        first
          | go_region_held (fun W => Below gb w W) (assumption) ((go_at_call 30; have q := rend_any wr.drew rb _ L p e hdr.rd; rw [HZ.out] at q; refine q.mono ?_; clear q; rintro e4 w4 ⟨rfl, hto⟩; have b4 : Below gb w w4 := bd.trans (hto.bel ML.out (by have := bd.size; omega))))
          | fail
        all_goals
          go_wp2
          go_ret
          exact ⟨rfl, by rw [hG]; exact b4⟩

end Go.Proofs.Ytmnnpbijifoagab
