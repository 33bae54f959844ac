/- The plain Num: its walk. -/
import Derived.Test.YtiepbjgcghedeaaWalkE
namespace Go.Proofs.Ytiepbjgcghedeaa
open Go.RowKit

theorem Bs.one' (w : World) (x : UInt8) (t : TypeId) (z : Int) (hz : z = (x.toNat : Int)) : Bs (w.alloc (.cells #[.int .u8 z] t)) (.slice (some ⟨w.heap.size, 0, none⟩) 1 1) [x] := by
  subst hz
  exact Bs.one w x t

set_option maxRecDepth 20000 in
set_option maxHeartbeats 1000000 in
theorem refNum_any (N : Nat) (hN : N < 18446744073709551616) (w : World) :
    Calls Try.prog 70 #[.int .u64 (N : Int)] w fun e w' => ∃ v, e = .returned v ∧ w'.ownsRow w.heap.size 5 1 v (numB N).length ((numB N).map bv) ∧ Below w.heap.size w w' := by
  obtain ⟨i, hi, hz0, hz1, hz2⟩ := info_parts Try.infoByte
  go_enter Try.func70, Try.ntmps70
  go_wp2
  go_loopw [0, 3] (fun n out wr => ∃ (m f : Nat) (pre : List UInt8), n = .int .u64 (m : Int) ∧ m < 18446744073709551616 ∧ m < 128 ^ (f + 1) ∧ pre ++ numF f m = numB N ∧ wr.ownsRow w.heap.size 5 1 out pre.length (pre.map bv) ∧ Below w.heap.size w wr) (fun n _ _ => (intOf n).toNat)
  case atStart => exact ⟨N, 9, [], rfl, hN, by omega, rfl, World.ownsRow_nil _ _ _ _, Below.refl _ _⟩
  case round =>
    obtain ⟨m, f, pre, rfl, hm, hmf, hpre, hown, hbr⟩ := hrel
    have hzr := hbr.size
    have hlen : pre.length < 100 := by
      have h1 := length_numB N
      have h3 := congrArg List.length hpre
      simp only [List.length_append] at h3
      omega
    obtain ⟨ao, n0, c0, hv⟩ := own_form hown
    subst hv
    by_cases hlt : m < 128
    · have HP : Hid (pre ++ numF f m = numB N) := hpre
      have HM : Hid (m < 128 ^ (f + 1)) := hmf
      clear hpre hmf
      go_wp2_with (at_builtin; refine wpList_append_bs rfl (.tmp 15) (.tmp 18) 29 rfl w.heap.size 5 i Try.underlying29 hi hz0 hz1 hz2 (.slice ao n0 c0) pre.length pre rfl rfl (hown.alloc _) _ rfl [UInt8.ofNat m] (Bs.one' wr (UInt8.ofNat m) _ _ (byte_last m hlt)) ((by simp; omega)) ((by simp; omega)) ?_; intro v2 w2 hown2 hk2 hmv2)
      go_ret
      have e := HP.out
      rw [numF_last f m hlt] at e
      rw [e] at hown2
      refine ⟨v2, rfl, hown2, hbr.trans (((Below.refl _ _).alloc hzr _).trans (own_below (hown.alloc _) hk2 (by simp; omega)))⟩
    · obtain ⟨f, rfl⟩ : ∃ f', f = f' + 1 := by
        cases f with
        | zero => omega
        | succ f => exact ⟨f, rfl⟩
      have HP : Hid (pre ++ numF (f + 1) m = numB N) := hpre
      have HM : Hid (m < 128 ^ (f + 1 + 1)) := hmf
      clear hpre hmf
      go_wp2_with (at_builtin; refine wpList_append_bs rfl (.tmp 6) (.tmp 11) 29 rfl w.heap.size 5 i Try.underlying29 hi hz0 hz1 hz2 (.slice ao n0 c0) pre.length pre rfl rfl (hown.alloc _) _ rfl [UInt8.ofNat (m % 128 + 128)] (Bs.one' wr (UInt8.ofNat (m % 128 + 128)) _ _ (byte_more m)) ((by simp; omega)) ((by simp; omega)) ?_; intro v2 w2 hown2 hk2 hmv2)
      go_roundw
      case rel =>
        refine ⟨m / 128, f, pre ++ [UInt8.ofNat (m % 128 + 128)], by go_num, by omega, ?_, ?_, hown2, hbr.trans (((Below.refl _ _).alloc hzr _).trans (own_below (hown.alloc _) hk2 (by simp; omega)))⟩
        · have := HM.out
          rw [Nat.pow_succ] at this
          omega
        · have e := HP.out
          rw [numF_more f m hlt] at e
          rw [← e, List.append_assoc]; rfl
      case measure => simp [intOf]; omega

end Go.Proofs.Ytiepbjgcghedeaa
