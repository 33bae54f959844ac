/- CodecKnown: the walk. -/
import Derived.Test.YtmnajmlfioiboaaWalkJ
import Derived.Test.YtmnajmlfioiboaaWalkF
import Derived.Test.YtmnajmlfioiboaaWalkD
namespace Go.Proofs.Ytmnajmlfioiboaa
open Go.RowKit

theorem kn1 : rByte [7, 172, 2, 2, 97, 98] 0 0 9 = (7, 1, 0) := by decide +kernel
theorem kn2 : rNum [7, 172, 2, 2, 97, 98] 1 0 300 = (300, 3, 0) := by decide +kernel
theorem kn3 : rText [7, 172, 2, 2, 97, 98] 3 0 5 = ([97, 98], 6, 0) := by decide +kernel
theorem kn4 : rEnd [7, 172, 2, 2, 97, 98] 6 0 = 0 := by decide +kernel
theorem kn5 : rNum [128, 0] 0 0 9 = (0, 0, 21) := by decide +kernel
theorem kn6 : rEnd [128, 0] 0 21 = 21 := by decide +kernel
theorem kn7 : rNum [172, 2] 0 0 299 = (0, 0, 22) := by decide +kernel
theorem kn8 : rEnd [172, 2] 0 22 = 22 := by decide +kernel
theorem kn9 : crc [] = 0 := by decide +kernel

set_option maxRecDepth 20000 in
set_option maxHeartbeats 1000000 in
theorem codecKnown_any (w : World) : Calls Try.prog 3 #[] w fun e w' => e = .returned (.bool true) ∧ Below w.heap.size w w' := by
  have kc := fun (w : World) (C : Array Value) (n c : Nat) => Lib.run_convert_bytes_const (P := Try.prog) w 24 5 C n c Try.underlying24 Try.underlying5
  go_enter Try.func3, Try.ntmps3
  go_wp2_with fail
  refine (newReader_any _ [7, 172, 2, 2, 97, 98] _ (Bs.const w [7, 172, 2, 2, 97, 98] _ _ _ _ (by rfl) (by rfl)) (by simp)).mono ?_
  rintro e w1 ⟨rb, hrb, rfl, hr1, hb1⟩
  go_wp2_with fail
  have k := rbyte_any w1 rb _ _ 0 0 9 hr1
  rw [kn1] at k
  refine k.mono ?_
  clear k
  rintro e w2 ⟨rfl, ht2⟩
  go_wp2_with fail
  have k := rnum_any w2 rb _ _ 1 0 300 ht2.rd
  rw [kn2] at k
  refine k.mono ?_
  clear k
  rintro e w3 ⟨rfl, ht3⟩
  go_wp2_with fail
  have k := rtext_any w3 rb _ _ 3 0 5 ht3.rd (by decide)
  rw [show (5 : Int).toNat = 5 from rfl, kn3] at k
  refine k.mono ?_
  clear k
  rintro e w4 ⟨v4, rfl, hn4, ht4⟩
  have hstr := hn4.bs.str (P := Try.prog) 24 9 5 Try.underlying24 Try.underlying5 Try.underlying9
  go_wp2_with fail
  have k := rend_any w4 rb _ _ 6 0 ht4.rd
  rw [kn4] at k
  refine k.mono ?_
  clear k
  rintro e w5 ⟨rfl, ht5⟩
  have hB5 : Below w.heap.size w w5 := by
    have z1 := hb1.size
    have z2 := ht2.kept.size
    have z3 := ht3.kept.size
    have z4 := ht4.kept.size
    simp at z1
    have hb := ((Below.refl w.heap.size w).alloc (Nat.le_refl _) (Obj.cells #[.int .u8 7, .int .u8 172, .int .u8 2, .int .u8 2, .int .u8 97, .int .u8 98] 5 (6, 7))).trans (hb1.mono (by simp))
    simp at hrb
    exact (((hb.trans (ht2.bel (by omega) (by omega))).trans (ht3.bel (by omega) (by omega))).trans (ht4.bel (by omega) (by omega))).trans (ht5.bel (by omega) (by omega))
  clear ht5 ht4 ht3 ht2 hr1 hb1 hstr hn4
  go_wp2_with fail
  refine (newReader_any _ [128, 0] _ (Bs.const w5 [128, 0] _ _ _ _ (by rfl) (by rfl)) (by simp)).mono ?_
  rintro e w6 ⟨ra, hra, rfl, hr6, hb6⟩
  go_wp2_with fail
  refine (newReader_any _ [172, 2] _ (Bs.const w6 [172, 2] _ _ _ _ (by rfl) (by rfl)) (by simp)).mono ?_
  rintro e w7 ⟨rc, hrc, rfl, hr7, hb7⟩
  have hs6 := hr6.size
  have hr6' := hr6.below ((Below.refl _ _).alloc (Nat.le_refl _) (Obj.cells #[.int .u8 172, .int .u8 2] 5))
  have hr8 := hr6'.below hb7
  have z5 := hB5.size
  have z6 := hb6.size
  have z7 := hb7.size
  simp at z6 z7 hra hrc
  have hB7 : Below w.heap.size w w7 := ((hB5.alloc (by omega) (Obj.cells #[.int .u8 128, .int .u8 0] 5)).trans (hb6.mono (by simp; omega))).trans (((Below.refl _ _).alloc (by omega) (Obj.cells #[.int .u8 172, .int .u8 2] 5)).trans (hb7.mono (by simp; omega)))
  clear hr6 hr6' hb6 hb7
  go_wp2_with fail
  have k := rnum_any w7 ra _ _ 0 0 9 hr8
  rw [kn5] at k
  refine k.mono ?_
  clear k
  rintro e w8 ⟨rfl, ht8⟩
  go_wp2_with fail
  have k := rend_any w8 ra _ _ 0 21 ht8.rd
  rw [kn6] at k
  refine k.mono ?_
  clear k
  rintro e w9 ⟨rfl, ht9⟩
  have hc9 := ht9.other (ht8.other hr7 (by omega) (by simp; omega)) (by omega) (by simp; omega)
  go_wp2_with fail
  have k := rnum_any w9 rc _ _ 0 0 299 hc9
  rw [kn7] at k
  refine k.mono ?_
  clear k
  rintro e w10 ⟨rfl, ht10⟩
  go_wp2_with fail
  have k := rend_any w10 rc _ _ 0 22 ht10.rd
  rw [kn8] at k
  refine k.mono ?_
  clear k
  rintro e w11 ⟨rfl, ht11⟩
  have z8 := ht8.kept.size
  have z9 := ht9.kept.size
  have z10 := ht10.kept.size
  have z11 := ht11.kept.size
  have hB11 : Below w.heap.size w w11 := ((((hB7.trans (ht8.bel (by omega) (by omega))).trans (ht9.bel (by omega) (by omega))).trans (ht10.bel (by omega) (by omega))).trans (ht11.bel (by omega) (by omega)))
  clear ht8 ht9 ht10 ht11 hc9 hr7 hr8
  go_wp2_with fail
  refine (seal_any _ [97] _ (Bs.const w11 [97] _ _ _ _ (by rfl) (by rfl)) (by simp)).mono ?_
  rintro e w12 ⟨rfl, hg12, hb12, hlt12⟩
  have hz : (w11.alloc (Obj.cells #[.int .u8 97] 5 (1, 2))).heap.size = w11.heap.size + 1 := by simp
  have hs12 : Bs w12 (.slice (some ⟨w11.heap.size + 1, 0, none⟩) 5 5) ([97] ++ sumBytes (crc [97])) := by
    have := seal_bs hg12
    rw [hz] at this
    exact this
  clear hz
  go_wp2_with fail
  refine (unseal_sealed _ [97] _ hs12 (by simp)).mono ?_
  rintro e w13 ⟨rfl, hg13, hb13, hlt13⟩
  go_wp2_with fail
  refine (unseal_short _ [97, 98, 99] _ (Bs.const w13 [97, 98, 99] _ _ _ _ (by rfl) (by rfl)) (by simp)).mono ?_
  rintro e w14 ⟨rfl, rfl⟩
  go_wp2_with fail
  refine (known_any _).mono ?_
  rintro e w15 ⟨rfl, hb15⟩
  go_wp2_with fail
  refine (sum_any (.slice none 0 0) [] w15 (Bs.nil _) (by simp)).mono ?_
  rintro e w16 ⟨rfl, rfl⟩
  rw [kn9]
  have hu13 : Bs w13 (.slice (some ⟨w12.heap.size, 0, none⟩) 1 1) [97] := Bs.ofBlock (l := [97]) hg13 rfl (Nat.le_refl _)
  have hu15 := (hu13.below ((Below.refl _ _).alloc (Nat.le_refl _) (Obj.cells #[.int .u8 97, .int .u8 98, .int .u8 99] 5 (3, 4)))).below hb15
  have hstr := hu15.str (P := Try.prog) 24 9 5 Try.underlying24 Try.underlying5 Try.underlying9
  have z12 := hb12.size
  have z13 := hb13.size
  simp at z12
  have hBe : Below w.heap.size w w15 := ((((hB11.alloc (by omega) (Obj.cells #[.int .u8 97] 5 (1, 2))).trans (hb12.mono (by simp; omega))).trans (hb13.mono (by omega))).alloc (by omega) (Obj.cells #[.int .u8 97, .int .u8 98, .int .u8 99] 5 (3, 4))).trans (hb15.mono (by simp; omega))
  clear hu13 hu15 hb12 hb13 hb15 hg12 hg13 hs12
  go_wp2
  go_ret
  exact ⟨rfl, hBe⟩

end Go.Proofs.Ytmnajmlfioiboaa
