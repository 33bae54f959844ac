/- What the sums of package codec do, call by call. -/
import Derived.Test.YtcpegfjjdojinaaRows
import Derived.Test.YtcpegfjjdojinaaMath
import Derived.Test.YtcpegfjjdojinaaBase
namespace Go.Proofs.Ytcpegfjjdojinaa
open Go.RowKit

theorem hv_odd (h : Nat) (h1 : h < 4294967296) (ho : ((h : Int) % 2 == 1) = true) : bits .xor .u32 ((h : Int) / 2) 3988292384 = (hvN h : Int) := by
  have e : ((h : Int) / 2) = ((h / 2 : Nat) : Int) := by omega
  have ho' : h % 2 = 1 := by have := beq_iff_eq.1 ho; omega
  rw [e, show (3988292384 : Int) = ((3988292384 : Nat) : Int) from rfl, u32_xor_nat _ _ (by omega) (by omega), hvN, if_pos ho']
theorem hv_even (h : Nat) (ho : ((h : Int) % 2 == 1) = false) : (h : Int) / 2 = (hvN h : Int) := by
  have ho' : ¬ h % 2 = 1 := by have := beq_eq_false_iff_ne.1 ho; omega
  rw [hvN, if_neg ho']; omega

set_option maxHeartbeats 400000 in
theorem halve_any (h : Nat) (h1 : h < 4294967296) (w : World) :
    Calls Try.prog 76 #[.int .u32 (h : Int)] w fun e w' => e = .returned (.int .u32 (hvN h : Int)) ∧ w = w' := by
  go_enter Try.func76, Try.ntmps76
  go_wp2
  · go_ret
    exact ⟨congrArg (fun x => Ending.returned (.int .u32 x)) (hv_odd h h1 ‹_›), rfl⟩
  · go_ret
    exact ⟨congrArg (fun x => Ending.returned (.int .u32 x)) (hv_even h ‹_›), rfl⟩

set_option maxHeartbeats 400000 in
theorem sum_any (v : Value) (l : List UInt8) (w : World) (hv : Bs w v l) (hl : l.length ≤ 140737488355328) :
    Calls Try.prog 52 #[v] w fun e w' => e = .returned (.int .u32 (crc l : Int)) ∧ w = w' := by
  obtain ⟨ao, cap, rfl, hc, hx⟩ := hv
  go_enter Try.func52, Try.ntmps52
  go_wp2
  go_loop [3, 8] (fun h i => ∃ k : Nat, k ≤ l.length ∧ i = .int .i64 k ∧ h = .int .u32 (crcS (l.take k) : Int)) (fun _ i => l.length - (intOf i).toNat)
  case atStart => exact ⟨0, Nat.zero_le _, rfl, rfl⟩
  case round =>
    obtain ⟨k, hk, rfl, rfl⟩ := hrel
    have hs := crcS_lt (l.take k)
    by_cases hlt : k < l.length
    · obtain ⟨b, off, rfl, _, hseg⟩ := hx (by intro e; subst e; simp at hlt)
      have hcell := hseg.at k hlt
      have hb := l[k].toNat_lt
      have hxl := xor_byte_lt _ l[k] hs
      have hxx : bits .xor .u32 (crcS (l.take k) : Int) (l[k].toNat : Int) = ((crcS (l.take k) ^^^ l[k].toNat : Nat) : Int) := u32_xor_nat _ _ (by omega) (by omega)
      have HT : Hid (crcS (l.take (k + 1)) = hvs 8 (crcS (l.take k) ^^^ l[k].toNat)) := by
        show _ = _
        rw [List.take_succ_eq_append_getElem hlt, crcS_snoc]; rfl
      generalize hX : (crcS (l.take k) ^^^ l[k].toNat) = X at *
      clear hX
      go_wp2
      go_loop [3, 16] (fun h i => ∃ j : Nat, j ≤ 8 ∧ i = .int .i64 j ∧ h = .int .u32 (hvs j X : Int)) (fun _ i => 8 - (intOf i).toNat)
      case atStart => exact ⟨0, Nat.zero_le _, rfl, rfl⟩
      case round =>
        obtain ⟨j, hj, rfl, rfl⟩ := hrel
        have hjl := hvs_lt j X hxl
        by_cases hjt : j < 8
        · go_wp2_with (go_at_call 76; refine (halve_any _ hjl _).mono ?_; rintro e w' ⟨rfl, rfl⟩)
          go_round
          case rel => exact ⟨j + 1, by omega, by go_num, rfl⟩
          case measure => simp [intOf]; omega
        · have hj8 : j = 8 := by omega
          subst hj8
          go_wp2
          go_round
          case rel => exact ⟨k + 1, by omega, by go_num, by rw [HT.out]⟩
          case measure => simp [intOf]; omega
    · have hkl : k = l.length := by omega
      have HE : Hid (bits .xor .u32 (crcS (l.take k) : Int) 4294967295 = (crc l : Int)) := by
        show _ = _
        rw [show (4294967295 : Int) = ((4294967295 : Nat) : Int) from rfl, u32_xor_nat _ _ hs (by omega), hkl, List.take_length]; rfl
      clear hkl
      go_wp2
      go_ret
      exact ⟨congrArg (fun x => Ending.returned (.int .u32 x)) HE.out, rfl⟩

end Go.Proofs.Ytcpegfjjdojinaa
