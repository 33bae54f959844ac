/- The Reader: call by call. -/
import Derived.Test.YtcpegfjjdojinaaWalkB
namespace Go.Proofs.Ytcpegfjjdojinaa
open Go.RowKit

theorem or64 (acc k : Nat) (d : UInt8) (hacc : acc < 2 ^ (7 * k)) (hk : k ≤ 9) (h9 : k = 9 → d.toNat ≤ 1) :
    bits .or .u64 (acc : Int) (IntKind.u64.wrap ((d.toNat : Int) % 128 * 2 ^ (7 * k))) = ((acc + 2 ^ (7 * k) * (d.toNat % 128) : Nat) : Int) := by
  have hd := d.toNat_lt
  have hlt : 2 ^ (7 * k) * (d.toNat % 128) < 18446744073709551616 := by
    by_cases h : k = 9
    · subst h
      have := h9 rfl
      have hm : 2 ^ (7 * 9) * (d.toNat % 128) ≤ 2 ^ (7 * 9) * 1 := Nat.mul_le_mul_left _ (by omega)
      omega
    · have hm : 2 ^ (7 * k) * (d.toNat % 128) ≤ 2 ^ (7 * k) * 127 := Nat.mul_le_mul_left _ (by omega)
      have he : 2 ^ (7 * k) ≤ 2 ^ 56 := Nat.pow_le_pow_right (by omega) (by omega)
      omega
  have ha : 2 ^ (7 * k) ≤ 2 ^ 63 := Nat.pow_le_pow_right (by omega) (by omega)
  have e : IntKind.u64.wrap ((d.toNat : Int) % 128 * 2 ^ (7 * k)) = ((2 ^ (7 * k) * (d.toNat % 128) : Nat) : Int) := by
    rw [show (d.toNat : Int) % 128 * 2 ^ (7 * k) = ((2 ^ (7 * k) * (d.toNat % 128) : Nat) : Int) by push_cast; rw [Int.mul_comm], IntKind.wrap_u64]
    omega
  rw [e, u64_or_nat _ _ (by omega) hlt, Nat.or_comm, ← Nat.two_pow_add_eq_or_of_lt hacc, Nat.add_comm]
theorem acc_next (acc k : Nat) (d : UInt8) (hacc : acc < 2 ^ (7 * k)) : acc + 2 ^ (7 * k) * (d.toNat % 128) < 2 ^ (7 * (k + 1)) := by
  have hm : 2 ^ (7 * k) * (d.toNat % 128) ≤ 2 ^ (7 * k) * 127 := Nat.mul_le_mul_left _ (by omega)
  have he : 2 ^ (7 * (k + 1)) = 2 ^ (7 * k) * 128 := by rw [show 7 * (k + 1) = 7 * k + 7 by omega, Nat.pow_add]
  omega
theorem tup3 {a b c x y z : Nat} {r : Nat × Nat × Nat} (h : r = (x, y, z)) (h1 : a = x) (h2 : b = y) (h3 : c = z) :
    Ending.returned (.tuple #[.int .u64 (a : Int), .int .i64 (b : Int), .int .i64 (c : Int)]) = .returned (.tuple #[.int .u64 (r.1 : Int), .int .i64 (r.2.1 : Int), .int .i64 (r.2.2 : Int)]) := by
  subst h h1 h2 h3; rfl

set_option maxRecDepth 20000 in
set_option maxHeartbeats 1000000 in
theorem number_any (v : Value) (l : List UInt8) (w : World) (hv : Bs w v l) (hl : l.length ≤ 140737488355328) :
    Calls Try.prog 83 #[v] w fun e w' => e = .returned (.tuple #[.int .u64 ((nm l 0 0).1 : Int), .int .i64 ((nm l 0 0).2.1 : Int), .int .i64 ((nm l 0 0).2.2 : Int)]) ∧ w = w' := by
  obtain ⟨ao, cap, rfl, hc, hx⟩ := hv
  go_enter Try.func83, Try.ntmps83
  go_wp2
  go_loop [2, 9] (fun n i => ∃ k acc : Nat, i = .int .i64 k ∧ n = .int .u64 acc ∧ k ≤ l.length ∧ k ≤ 9 ∧ acc < 2 ^ (7 * k) ∧ nm (l.drop k) k acc = nm l 0 0) (fun _ i => l.length - (intOf i).toNat)
  case atStart => exact ⟨0, 0, rfl, rfl, Nat.zero_le _, by omega, by simp, rfl⟩
  case round =>
    obtain ⟨k, acc, rfl, rfl, hk, hk9, hacc, hnm⟩ := hrel
    have HA : Hid (acc < 2 ^ (7 * k)) := hacc
    by_cases hlt : k < l.length
    · obtain ⟨b, off, rfl, _, hseg⟩ := hx (by intro e; subst e; simp at hlt)
      have hcell := hseg.at k hlt
      have hb := l[k].toNat_lt
      rw [List.drop_eq_getElem_cons hlt] at hnm
      have HN : Hid _ := hnm
      clear hnm hacc hx
      generalize l[k] = d at *
      by_cases h1 : k = 9
      · have t1 : ((k : Int) == 9) = true := by rw [beq_iff_eq]; omega
        have HK : Hid (k = 9) := h1
        by_cases h2 : 1 < d.toNat
        · clear h1
          go_wp2
          go_ret3
          have e := HN.out
          rw [nm_bad HK.out h2] at e
          exact ⟨tup3 e.symm rfl rfl rfl, rfl⟩
        · have hor := or64 acc k d HA.out hk9 (fun _ => by omega)
          by_cases h3 : d.toNat = 0
          · have t3 : ((d.toNat : Int) == 0) = true := by rw [beq_iff_eq]; omega
            have HZ : Hid (d.toNat = 0) := h3
            have hkp : 0 < k := by omega
            clear h1 h3
            go_wp2
            go_ret3
            have e := HN.out
            rw [nm_zero HZ.out hkp] at e
            exact ⟨tup3 e.symm rfl rfl rfl, rfl⟩
          · have t3 : ((d.toNat : Int) == 0) = false := by rw [beq_eq_false_iff_ne]; omega
            have HZ : Hid (d.toNat ≠ 0) := h3
            clear h1 h3
            go_wp2
            go_ret3
            have e := HN.out
            rw [nm_last (fun _ => by omega) (by omega) (fun h => absurd h HZ.out)] at e
            exact ⟨tup3 e.symm rfl rfl rfl, rfl⟩
      · have t1 : ((k : Int) == 9) = false := by rw [beq_eq_false_iff_ne]; omega
        have hor := or64 acc k d HA.out hk9 (fun h => absurd h h1)
        have HK : Hid (k ≠ 9) := h1
        clear h1
        by_cases h2 : 128 ≤ d.toNat
        · go_wp2
          go_round
          case rel =>
            have := HK.out
            refine ⟨k + 1, _, by go_num, rfl, by omega, by omega, acc_next acc k d HA.out, ?_⟩
            have e := HN.out
            rw [nm_more HK.out h2] at e
            exact e
          case measure => simp [intOf]; omega
        · by_cases h3 : d.toNat = 0
          · have t3 : ((d.toNat : Int) == 0) = true := by rw [beq_iff_eq]; omega
            have HZ : Hid (d.toNat = 0) := h3
            clear h3
            by_cases h4 : 0 < k
            · go_wp2
              go_ret3
              have e := HN.out
              rw [nm_zero HZ.out h4] at e
              exact ⟨tup3 e.symm rfl rfl rfl, rfl⟩
            · go_wp2
              go_ret3
              have e := HN.out
              rw [nm_last (fun h => absurd h HK.out) (by omega) (fun _ => by omega)] at e
              exact ⟨tup3 e.symm rfl rfl rfl, rfl⟩
          · have t3 : ((d.toNat : Int) == 0) = false := by rw [beq_eq_false_iff_ne]; omega
            have HZ : Hid (d.toNat ≠ 0) := h3
            clear h3
            go_wp2
            go_ret3
            have e := HN.out
            rw [nm_last (fun h => absurd h HK.out) (by omega) (fun h => absurd h HZ.out)] at e
            exact ⟨tup3 e.symm rfl rfl rfl, rfl⟩
    · have HN : Hid _ := hnm
      clear hnm hacc
      have hkl : k = l.length := by omega
      have e := HN.out
      rw [hkl, List.drop_length] at e
      clear hkl
      have HE : Hid ((0, 0, 20) = nm l 0 0) := e
      clear e HN hx
      go_wp2
      go_ret3
      exact ⟨tup3 HE.out.symm rfl rfl rfl, rfl⟩

end Go.Proofs.Ytcpegfjjdojinaa
