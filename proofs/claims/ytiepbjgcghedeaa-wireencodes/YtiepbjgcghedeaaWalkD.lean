/- Unseal: call by call. -/
import Derived.Test.YtiepbjgcghedeaaWalkC
namespace Go.Proofs.Ytiepbjgcghedeaa
open Go.RowKit

def sumTo (a b c d : UInt8) : Nat → Nat
  | 0 => 0
  | 1 => a.toNat
  | 2 => a.toNat + 256 * b.toNat
  | 3 => a.toNat + 256 * b.toNat + 65536 * c.toNat
  | _ => sumOf a b c d

theorem or_shift (s x i : Nat) (hs : s < 2 ^ i) (hi : i ≤ 24) (hx : x < 256) : bits .or .u32 (s : Int) ((x : Int) * 2 ^ i % 4294967296) = ((s + 2 ^ i * x : Nat) : Int) := by
  have hp : 2 ^ i ≤ 2 ^ 24 := Nat.pow_le_pow_right (by omega) hi
  have hm : 2 ^ i * x ≤ 2 ^ 24 * 255 := Nat.mul_le_mul hp (by omega)
  have e : (x : Int) * 2 ^ i % 4294967296 = ((2 ^ i * x : Nat) : Int) := by
    rw [show (x : Int) * 2 ^ i = ((2 ^ i * x : Nat) : Int) by push_cast; rw [Int.mul_comm]]
    omega
  rw [e, u32_or_nat _ _ (by omega) (by omega), Nat.or_comm, ← Nat.two_pow_add_eq_or_of_lt hs, Nat.add_comm]

theorem or_step0 (a b c d : UInt8) : bits .or .u32 (sumTo a b c d 0 : Int) (a.toNat : Int) = (sumTo a b c d 1 : Int) := by
  have := a.toNat_lt
  have h := or_shift 0 a.toNat 0 (by omega) (by omega) (by omega)
  have e : (a.toNat : Int) * 2 ^ 0 % 4294967296 = (a.toNat : Int) := by omega
  rw [e] at h
  rw [show (sumTo a b c d 0 : Int) = ((0 : Nat) : Int) from rfl, h]
  simp [sumTo]
theorem or_step1 (a b c d : UInt8) : bits .or .u32 (sumTo a b c d 1 : Int) ((b.toNat : Int) * 256) = (sumTo a b c d 2 : Int) := by
  have := a.toNat_lt
  have := b.toNat_lt
  have h := or_shift a.toNat b.toNat 8 (by omega) (by omega) (by omega)
  have e : (b.toNat : Int) * 2 ^ 8 % 4294967296 = (b.toNat : Int) * 256 := by omega
  rw [e] at h
  exact h
theorem or_step2 (a b c d : UInt8) : bits .or .u32 (sumTo a b c d 2 : Int) ((c.toNat : Int) * 65536) = (sumTo a b c d 3 : Int) := by
  have := a.toNat_lt
  have := b.toNat_lt
  have := c.toNat_lt
  have h := or_shift (a.toNat + 256 * b.toNat) c.toNat 16 (by omega) (by omega) (by omega)
  have e : (c.toNat : Int) * 2 ^ 16 % 4294967296 = (c.toNat : Int) * 65536 := by omega
  rw [e] at h
  exact h
theorem or_step3 (a b c d : UInt8) : bits .or .u32 (sumTo a b c d 3 : Int) ((d.toNat : Int) * 16777216) = (sumTo a b c d 4 : Int) := by
  have := a.toNat_lt
  have := b.toNat_lt
  have := c.toNat_lt
  have := d.toNat_lt
  have h := or_shift (a.toNat + 256 * b.toNat + 65536 * c.toNat) d.toNat 24 (by omega) (by omega) (by omega)
  have e : (d.toNat : Int) * 2 ^ 24 % 4294967296 = (d.toNat : Int) * 16777216 := by omega
  rw [e] at h
  exact h

set_option maxHeartbeats 400000 in
theorem sumBehind_any (v : Value) (x0 x1 x2 x3 : UInt8) (w : World) (hv : Bs w v [x0, x1, x2, x3]) :
    Calls Try.prog 54 #[v] w fun e w' => e = .returned (.int .u32 (sumOf x0 x1 x2 x3 : Int)) ∧ w = w' := by
  obtain ⟨ao, cap, rfl, hc, hx⟩ := hv
  obtain ⟨b, off, rfl, _, hseg⟩ := hx (by simp)
  have c0 := hseg 0 x0 rfl
  have c1 := hseg 1 x1 rfl
  have c2 := hseg 2 x2 rfl
  have c3 := hseg 3 x3 rfl
  simp only [bv, Nat.add_zero] at c0 c1 c2 c3
  have b0 := x0.toNat_lt
  have b1 := x1.toNat_lt
  have b2 := x2.toNat_lt
  have b3 := x3.toNat_lt
  clear hseg hx
  simp only [List.length_cons, List.length_nil]
  go_enter Try.func54, Try.ntmps54
  go_wp2
  go_loop [3, 5] (fun s i => ∃ k : Nat, k ≤ 4 ∧ i = .int .i64 k ∧ s = .int .u32 (sumTo x0 x1 x2 x3 k : Int)) (fun _ i => 4 - (intOf i).toNat)
  case atStart => exact ⟨0, by omega, rfl, rfl⟩
  case round =>
    obtain ⟨k, hk, rfl, rfl⟩ := hrel
    rcases (show k = 0 ∨ k = 1 ∨ k = 2 ∨ k = 3 ∨ k = 4 by omega) with rfl | rfl | rfl | rfl | rfl
    · go_wp2
      go_round
      case rel => exact ⟨1, by omega, rfl, congrArg (Value.int .u32) (or_step0 _ _ _ _)⟩
      case measure => simp [intOf]
    · go_wp2
      go_round
      case rel => exact ⟨2, by omega, rfl, congrArg (Value.int .u32) (or_step1 _ _ _ _)⟩
      case measure => simp [intOf]
    · go_wp2
      go_round
      case rel => exact ⟨3, by omega, rfl, congrArg (Value.int .u32) (or_step2 _ _ _ _)⟩
      case measure => simp [intOf]
    · go_wp2
      go_round
      case rel => exact ⟨4, by omega, rfl, congrArg (Value.int .u32) (or_step3 _ _ _ _)⟩
      case measure => simp [intOf]
    · go_wp2
      go_ret
      exact ⟨rfl, rfl⟩

set_option maxHeartbeats 400000 in
theorem unseal_short (v : Value) (l : List UInt8) (w : World) (hv : Bs w v l) (hl : l.length < 4) :
    Calls Try.prog 26 #[v] w fun e w' => e = .returned (.tuple #[.slice none 0 0, .int .i64 20]) ∧ w = w' := by
  obtain ⟨ao, cap, rfl, hc, hx⟩ := hv
  go_enter Try.func26, Try.ntmps26
  go_wp2
  go_ret2
  exact ⟨rfl, rfl⟩

set_option maxHeartbeats 400000 in
theorem unseal_bad (v : Value) (m : List UInt8) (x0 x1 x2 x3 : UInt8) (w : World) (hv : Bs w v (m ++ [x0, x1, x2, x3])) (hl : m.length ≤ 140737488355000) (hne : sumOf x0 x1 x2 x3 ≠ crc m) :
    Calls Try.prog 26 #[v] w fun e w' => e = .returned (.tuple #[.slice none 0 0, .int .i64 23]) ∧ w = w' := by
  have hv0 := hv
  obtain ⟨ao, cap, rfl, hc, hx⟩ := hv
  have e1 := hv0.pre m.length (by simp)
  have e2 := hv0.post m.length (by simp)
  simp only [List.take_left, List.drop_left, List.length_append, List.length_cons, List.length_nil, Nat.zero_add, Nat.add_sub_cancel_left, Nat.reduceAdd] at hc e1 e2 ⊢
  have E1 : Hid _ := e1
  have E2 : Hid _ := e2
  clear e1 e2 hv0 hx
  have hne' : ((sumOf x0 x1 x2 x3 : Int) != (crc m : Int)) = true := by rw [bne_iff_ne]; omega
  go_enter Try.func26, Try.ntmps26
  go_wp2_with (first
    | (go_at_call 54; refine (sumBehind_any _ x0 x1 x2 x3 _ E2).mono ?_; rintro e w' ⟨rfl, rfl⟩)
    | (go_at_call 52; refine (sum_any _ m _ E1 (by omega)).mono ?_; rintro e w' ⟨rfl, rfl⟩))
  go_ret2
  exact ⟨rfl, rfl⟩

set_option maxHeartbeats 400000 in
theorem unseal_ok (v : Value) (m : List UInt8) (x0 x1 x2 x3 : UInt8) (w : World) (hv : Bs w v (m ++ [x0, x1, x2, x3])) (hl : m.length ≤ 140737488355000) (hne : sumOf x0 x1 x2 x3 = crc m) :
    Calls Try.prog 26 #[v] w fun e w' => e = .returned (.tuple #[.slice (some ⟨w.heap.size, 0, none⟩) m.length m.length, .int .i64 0]) ∧
      w'.heap[w.heap.size]? = some (.cells (m.map bv).toArray 5 (0, 0)) ∧ Below w.heap.size w w' ∧ w.heap.size < w'.heap.size := by
  have hv0 := hv
  obtain ⟨ao, cap, rfl, hc, hx⟩ := hv
  have e1 := hv0.pre m.length (by simp)
  have e2 := hv0.post m.length (by simp)
  simp only [List.take_left, List.drop_left, List.length_append, List.length_cons, List.length_nil, Nat.zero_add, Nat.add_sub_cancel_left, Nat.reduceAdd] at hc e1 e2 ⊢
  have E1 : Hid _ := e1
  have E2 : Hid _ := e2
  clear e1 e2 hv0 hx
  have hne' : ((sumOf x0 x1 x2 x3 : Int) != (crc m : Int)) = false := by rw [bne_eq_false_iff_eq]; omega
  clear hne
  go_enter Try.func26, Try.ntmps26
  go_wp2_with (first
    | (go_at_call 54; refine (sumBehind_any _ x0 x1 x2 x3 _ E2).mono ?_; rintro e w' ⟨rfl, rfl⟩)
    | (go_at_call 52; refine (sum_any _ m _ E1 (by omega)).mono ?_; rintro e w' ⟨rfl, rfl⟩)
    | (go_at_call 53; refine (fresh_any _ m _ E1 (by omega)).mono ?_; rintro e w' ⟨rfl, hg, hb, hlt⟩))
  go_ret2
  exact ⟨rfl, hg, hb, hlt⟩

theorem unseal_sealed (v : Value) (m : List UInt8) (w : World) (hv : Bs w v (m ++ sumBytes (crc m))) (hl : m.length ≤ 140737488355000) :
    Calls Try.prog 26 #[v] w fun e w' => e = .returned (.tuple #[.slice (some ⟨w.heap.size, 0, none⟩) m.length m.length, .int .i64 0]) ∧
      w'.heap[w.heap.size]? = some (.cells (m.map bv).toArray 5 (0, 0)) ∧ Below w.heap.size w w' ∧ w.heap.size < w'.heap.size :=
  unseal_ok v m _ _ _ _ w hv hl (sumOf_sumBytes _ (crc_lt _))

end Go.Proofs.Ytiepbjgcghedeaa
