/- The plain saying of chapter 1 (sums), call by call. -/
import Derived.Test.YtiepbjgcghedeaaWalkD
namespace Go.Proofs.Ytiepbjgcghedeaa
open Go.RowKit

theorem and_one (h : Nat) (h1 : h < 4294967296) : bits .and .u32 (h : Int) 1 = (h : Int) % 2 := by
  rw [show (1 : Int) = ((1 : Nat) : Int) from rfl, u32_and_nat _ _ h1 (by omega), Nat.and_one_is_mod]
  omega

set_option maxHeartbeats 400000 in
theorem refSum_any (v : Value) (l : List UInt8) (w : World) (hv : Bs w v l) (hl : l.length ≤ 140737488355328) :
    Calls Try.prog 45 #[v] w fun e w' => e = .returned (.int .u32 (crc l : Int)) ∧ w = w' := by
  obtain ⟨ao, cap, rfl, hc, hx⟩ := hv
  go_enter Try.func45, Try.ntmps45
  go_wp2
  go_loop [3, 4] (fun h i => ∃ k : Nat, k ≤ l.length ∧ i = .int .i64 k ∧ h = .int .u32 (crcS (l.take k) : Int)) (fun _ i => l.length - (intOf i).toNat)
  case atStart => exact ⟨0, Nat.zero_le _, rfl, rfl⟩
  case round =>
    obtain ⟨k, hk, rfl, rfl⟩ := hrel
    have hs := crcS_lt (l.take k)
    by_cases hlt : k < l.length
    · obtain ⟨b, off, rfl, _, hseg⟩ := hx (by intro e; subst e; simp at hlt)
      have hcell := hseg.at k hlt
      have hb := l[k].toNat_lt
      have hxl := xor_byte_lt _ l[k] hs
      have hxx : bits .xor .u32 (crcS (l.take k) : Int) (l[k].toNat : Int) = ((crcS (l.take k) ^^^ l[k].toNat : Nat) : Int) := u32_xor_nat _ _ (by omega) (by omega)
      have HT : Hid (crcS (l.take (k + 1)) = hvs 8 (crcS (l.take k) ^^^ l[k].toNat)) := by
        show _ = _
        rw [List.take_succ_eq_append_getElem hlt, crcS_snoc]; rfl
      generalize hX : (crcS (l.take k) ^^^ l[k].toNat) = X at *
      clear hX hx
      go_wp2
      go_loop [3, 5] (fun h i => ∃ j : Nat, j ≤ 8 ∧ i = .int .i64 j ∧ h = .int .u32 (hvs j X : Int)) (fun _ i => 8 - (intOf i).toNat)
      case atStart => exact ⟨0, Nat.zero_le _, rfl, rfl⟩
      case round =>
        obtain ⟨j, hj, rfl, rfl⟩ := hrel
        have hjl := hvs_lt j X hxl
        by_cases hjt : j < 8
        · have hand := and_one (hvs j X) hjl
          by_cases ho : ((hvs j X : Int) % 2 == 1) = true
          · have he := hv_odd (hvs j X) hjl ho
            go_wp2
            go_round
            case rel => exact ⟨j + 1, by omega, by go_num, rfl⟩
            case measure => simp [intOf]; omega
          · have ho' : ((hvs j X : Int) % 2 == 1) = false := by simpa using ho
            have he := hv_even (hvs j X) ho'
            clear ho
            go_wp2
            go_round
            case rel => exact ⟨j + 1, by omega, by go_num, rfl⟩
            case measure => simp [intOf]; omega
        · have hj8 : j = 8 := by omega
          subst hj8
          go_wp2
          go_round
          case rel => exact ⟨k + 1, by omega, by go_num, by rw [HT.out]⟩
          case measure => simp [intOf]; omega
    · have hkl : k = l.length := by omega
      have HE : Hid (bits .xor .u32 (crcS (l.take k) : Int) 4294967295 = (crc l : Int)) := by
        show _ = _
        rw [show (4294967295 : Int) = ((4294967295 : Nat) : Int) from rfl, u32_xor_nat _ _ hs (by omega), hkl, List.take_length]; rfl
      clear hkl
      go_wp2
      go_ret
      exact ⟨congrArg (fun x => Ending.returned (.int .u32 x)) HE.out, rfl⟩

end Go.Proofs.Ytiepbjgcghedeaa
