/- CodecBack: the walk. -/
import Derived.Test.YtmnajmlfioiboaaLaid
import Derived.Test.YtmnajmlfioiboaaLayRead
import Derived.Test.YtmnajmlfioiboaaWalkF
import Derived.Deep.RegionHeld
namespace Go.Proofs.Ytmnajmlfioiboaa
open Go.RowKit

theorem layAll_split (ds : List LayD) (k : Nat) (hk : k < ds.length) : (layAll ds).drop (layAll (ds.take k)).length = layOne ds[k] ++ layAll (ds.drop (k + 1)) := by
  have e : layAll ds = layAll (ds.take k) ++ (layOne ds[k] ++ layAll (ds.drop (k + 1))) := by
    rw [← layAll_cons, ← List.drop_eq_getElem_cons hk, ← layAll_append, List.take_append_drop]
  conv => lhs; rw [e]
  rw [List.drop_left]

/-- A cell that lies below the Reader stays as it is. -/
theorem RTo.cell {w w' : World} {rb g : Nat} {L : List UInt8} {p e : Nat} (h : RTo w w' rb g L p e) {b o : Nat} (hb : b < rb) (hs : b < w.heap.size) : w'.cell? ⟨b, o, none⟩ = w.cell? ⟨b, o, none⟩ :=
  World.cell?_of_block (a := ⟨b, o, none⟩) (h.kept.block b hs (by omega))

theorem text_apart {w : World} {ta : Option Addr} {n tc rb : Nat} {t : List UInt8} {W : World} (h : t ≠ [] → ∃ b off, ta = some ⟨b, off, none⟩ ∧ b < w.heap.size) (hrb : w.heap.size ≤ rb) : ∀ k, t ≠ [] → (Value.slice ta n tc).ownBlock = some k → k < W.heap.size → ¬ (k = rb) := by
  intro k hne hk _ e
  obtain ⟨b, off, rfl, hlt⟩ := h hne
  simp only [Value.ownBlock, Option.some.injEq] at hk
  omega

set_option maxRecDepth 20000 in
set_option maxHeartbeats 2000000 in
theorem back_any (v : Value) (ds : List LayD) (w : World) (hv : Lays w v ds) (hl : (layAll ds).length + 20 ≤ 140737488355328) (hn : ds.length ≤ 140737488355328) :
    Calls Try.prog 7 #[v] w fun e w' => e = .returned (.bool true) ∧ Below w.heap.size w w' := by
  obtain ⟨ao, cap, rfl, hx⟩ := id hv
  go_enter Try.func7, Try.ntmps7
  go_wp2_with (first
    | (go_at_call 27; refine (laid_any _ ds _ hv hl hn).mono ?_; rintro e w1 ⟨k1, hk1, rfl, hg1, hb1⟩)
    | (go_at_call 9; refine (newReader_any _ (layAll ds) _ (Bs.ofBlock hg1 (List.take_of_length_le (by simp)) (Nat.le_refl _)) (by omega)).mono ?_; rintro e w2 ⟨rb, hrb, rfl, hr2, hb2⟩)
    | (go_at_call 16; refine (known_any _).mono ?_; rintro e w3 ⟨rfl, hb3⟩; have hr3 := hr2.below hb3))
  have z1 := hb1.size
  have z2 := hb2.size
  have z3 := hb3.size
  have hB3 : Below w.heap.size w w3 := (hb1.trans (hb2.mono z1)).trans (hb3.mono (by omega))
  clear hb1 hb2 hb3 hg1 hr2 hv
  go_loopw [4] (fun i wr => ∃ k : Nat, k ≤ ds.length ∧ i = .int .i64 k ∧ RD wr rb w1.heap.size (layAll ds) (layAll (ds.take k)).length 0 ∧ Below w.heap.size w wr) (fun i _ => ds.length - (intOf i).toNat)
  case atStart => exact ⟨0, Nat.zero_le _, rfl, hr3, hB3⟩
  case round =>
    obtain ⟨k, hk, rfl, hrd, hbr⟩ := hrel
    by_cases hlt : k < ds.length
    · obtain ⟨blk, off, rfl, hblk, hat⟩ := hx (by intro e; subst e; simp at hlt)
      have hle := layAll_step_le ds k hlt
      have HT : Hid (layAll (ds.take (k + 1)) = layAll (ds.take k) ++ layOne ds[k]) := layAll_take ds k hlt
      have HD : Hid ((layAll ds).drop (layAll (ds.take k)).length = layOne ds[k] ++ layAll (ds.drop (k + 1))) := layAll_split ds k hlt
      have ha := (hat k hlt).below hbr hblk
      have a0 := ha.c0
      obtain ⟨tv, a3w, ht0⟩ := (hat k hlt).c3
      have a3 := (hbr.cell (p := ⟨blk, off + k * 4 + 3, none⟩) hblk).trans a3w
      have ht := ht0.below hbr
      clear a3w hat hx hr3 hB3
      generalize ds[k] = d at *
      have zr := hbr.size
      have hdr : RD wr.drew rb w1.heap.size (layAll ds) (layAll (ds.take k)).length 0 := hrd.below ((Below.refl _ _).drew)
      rcases pick3 d.what with h0 | h0 | h0
      · have a1 := ha.c1
        have a1d : wr.drew.cell? ⟨blk, off + k * 4 + 1, none⟩ = some (.int .u8 (d.b.toNat : Int)) := a1
        rw [layOne_byte h0] at hle
        have HL : Hid (layOne d = [d.b]) := layOne_byte h0
        have HP : Hid (pickN d.what 3 = 0) := h0
        have E : Hid (rByte (layAll ds) (layAll (ds.take k)).length 0 d.b.toNat = (d.b.toNat, (layAll (ds.take k)).length + 1, 0)) := rByte_lay (by rw [HD.out, HL.out]) (Nat.le_refl _)
        clear h0 a3 ht ha ht0
        go_wp2_with (go_at_call 19; refine (pick_any d.what 3 (by omega) (by omega) _).mono ?_; rintro e w' ⟨rfl, rfl⟩; rw [HP.out])
        go_region_held (fun W => W.cell? ⟨blk, off + k * 4 + 1, none⟩ = some (.int .u8 (d.b.toNat : Int))) (assumption) (first
          | (go_at_call 10; have q := rbyte_any wr.drew rb _ _ _ 0 d.b.toNat hdr; rw [E.out] at q; refine q.mono ?_; clear q; rintro e w4 ⟨rfl, hto⟩; have hc4 : w4.cell? ⟨blk, off + k * 4 + 1, none⟩ = some (.int .u8 (d.b.toNat : Int)) := (hto.cell (by omega) (by simp; omega)).trans a1d))
        go_wp2
        go_roundw
        case rel =>
          refine ⟨k + 1, by omega, by go_num, ?_, hbr.drew.trans (hto.bel (by omega) (by simp; omega))⟩
          rw [HT.out, HL.out, List.length_append]
          exact hto.rd
        case measure => simp [intOf]; omega
      · have a2 := ha.c2
        have hdn := ha.n
        have a2d : wr.drew.cell? ⟨blk, off + k * 4 + 2, none⟩ = some (.int .u64 (d.n : Int)) := a2
        rw [layOne_num h0] at hle
        have HL : Hid (layOne d = numB d.n) := layOne_num h0
        have HP : Hid (pickN d.what 3 = 1) := h0
        have E : Hid (rNum (layAll ds) (layAll (ds.take k)).length 0 d.n = (d.n, (layAll (ds.take k)).length + (numB d.n).length, 0)) := rNum_lay (r := layAll (ds.drop (k + 1))) (by rw [HD.out, HL.out]) hdn (Nat.le_refl _)
        clear h0 a3 ht ha ht0
        go_wp2_with (go_at_call 19; refine (pick_any d.what 3 (by omega) (by omega) _).mono ?_; rintro e w' ⟨rfl, rfl⟩; rw [HP.out])
        go_region_held (fun W => W.cell? ⟨blk, off + k * 4 + 2, none⟩ = some (.int .u64 (d.n : Int))) (assumption) (first
          | (go_at_call 11; have q := rnum_any wr.drew rb _ _ _ 0 d.n hdr; rw [E.out] at q; refine q.mono ?_; clear q; rintro e w4 ⟨rfl, hto⟩; have hc4 : w4.cell? ⟨blk, off + k * 4 + 2, none⟩ = some (.int .u64 (d.n : Int)) := (hto.cell (by omega) (by simp; omega)).trans a2d))
        go_wp2
        go_roundw
        case rel =>
          refine ⟨k + 1, by omega, by go_num, ?_, hbr.drew.trans (hto.bel (by omega) (by simp; omega))⟩
          rw [HT.out, HL.out, List.length_append]
          exact hto.rd
        case measure => simp [intOf]; omega
      · obtain ⟨ta, tc, hte, hrest⟩ := id ht
        subst hte
        have a3d : wr.drew.cell? ⟨blk, off + k * 4 + 3, none⟩ = some (.slice ta d.t.length tc) := a3
        have hs0 := (ht.below ((Below.refl _ _).drew)).str (P := Try.prog) 24 9 5 Try.underlying24 Try.underlying5 Try.underlying9
        rw [layOne_text h0] at hle
        have HL : Hid (layOne d = numB d.t.length ++ d.t) := layOne_text h0
        have HP : Hid (pickN d.what 3 = 2) := h0
        have htl : d.t.length ≤ 140737488355328 := by rw [List.length_append] at hle; omega
        have E : Hid (rText (layAll ds) (layAll (ds.take k)).length 0 d.t.length = (d.t, (layAll (ds.take k)).length + (numB d.t.length ++ d.t).length, 0)) := rText_lay (r := layAll (ds.drop (k + 1))) (by rw [HD.out, HL.out]) (by omega) (Nat.le_refl _)
        have HTb : Hid (Bs wr.drew (.slice ta d.t.length tc) d.t) := ht.below ((Below.refl _ _).drew)
        have HTo : Hid (d.t ≠ [] → ∃ b off, ta = some ⟨b, off, none⟩ ∧ b < w.heap.size) := fun hne => by
          obtain ⟨_, _, e, _, h0x⟩ := ht0
          cases e
          obtain ⟨b, off, e, hlt, _⟩ := h0x hne
          exact ⟨b, off, e, hlt⟩
        clear h0 ha ht hrest hle ht0
        go_wp2_with (go_at_call 19; refine (pick_any d.what 3 (by omega) (by omega) _).mono ?_; rintro e w' ⟨rfl, rfl⟩; rw [HP.out])
        go_region_held (fun W => W.cell? ⟨blk, off + k * 4 + 3, none⟩ = some (.slice ta d.t.length tc) ∧ (convert 24 9 (.slice ta d.t.length tc)).run Try.prog W = .ok (.string ⟨d.t.toArray⟩) W) (exact ⟨by assumption, by assumption⟩) (first
          | (go_at_call 12; have q := rtext_nat wr.drew rb _ _ _ 0 d.t.length (by omega) hdr; rw [E.out] at q; refine q.mono ?_; clear q; rintro e w4 ⟨v4, rfl, hn4, hto⟩; have hc4 : w4.cell? ⟨blk, off + k * 4 + 3, none⟩ = some (.slice ta d.t.length tc) := (hto.cell (by omega) (by simp; omega)).trans a3d; have hs4 := (Bs.kept HTb.out hto.kept (text_apart HTo.out (by omega))).str (P := Try.prog) 24 9 5 Try.underlying24 Try.underlying5 Try.underlying9; have hs5 := hn4.bs.str (P := Try.prog) 24 9 5 Try.underlying24 Try.underlying5 Try.underlying9))
        go_wp2
        go_roundw
        case rel =>
          refine ⟨k + 1, by omega, by go_num, ?_, hbr.drew.trans (hto.bel (by omega) (by simp; omega))⟩
          rw [HT.out, HL.out, List.length_append]
          exact hto.rd
        case measure => simp [intOf]; omega
    · have hkl : k = ds.length := by omega
      rw [hkl, List.take_length] at hrd
      have E : rEnd (layAll ds) (layAll ds).length 0 = 0 := by simp [rEnd]
      clear hkl hx hr3 hB3
      go_wp2_with (go_at_call 13; have q := rend_any wr rb _ _ _ 0 hrd; rw [E] at q; refine q.mono ?_; clear q; rintro e w4 ⟨rfl, hto⟩)
      go_ret
      exact ⟨rfl, hbr.trans (hto.bel (by omega) (by have := hbr.size; omega))⟩

end Go.Proofs.Ytmnajmlfioiboaa
