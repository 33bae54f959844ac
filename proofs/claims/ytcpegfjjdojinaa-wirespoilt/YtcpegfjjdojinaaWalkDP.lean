import Derived.Test.YtcpegfjjdojinaaWalkCP
/- Unseal: call by call. -/
/- The plain saying of chapter 1 (sums), call by call. -/
/- The plain saying of chapter 1 (seals), call by call. -/
namespace Go.Proofs.Ytcpegfjjdojinaa
open Go.RowKit

def sumTo (a b c d : UInt8) : Nat → Nat
  | 0 => 0
  | 1 => a.toNat
  | 2 => a.toNat + 256 * b.toNat
  | 3 => a.toNat + 256 * b.toNat + 65536 * c.toNat
  | _ => sumOf a b c d

theorem or_shift (s x i : Nat) (hs : s < 2 ^ i) (hi : i ≤ 24) (hx : x < 256) : bits .or .u32 (s : Int) ((x : Int) * 2 ^ i % 4294967296) = ((s + 2 ^ i * x : Nat) : Int) := by
  have hp : 2 ^ i ≤ 2 ^ 24 := Nat.pow_le_pow_right (by omega) hi
  have hm : 2 ^ i * x ≤ 2 ^ 24 * 255 := Nat.mul_le_mul hp (by omega)
  have e : (x : Int) * 2 ^ i % 4294967296 = ((2 ^ i * x : Nat) : Int) := by
    rw [show (x : Int) * 2 ^ i = ((2 ^ i * x : Nat) : Int) by push_cast; rw [Int.mul_comm]]
    omega
  rw [e, u32_or_nat _ _ (by omega) (by omega), Nat.or_comm, ← Nat.two_pow_add_eq_or_of_lt hs, Nat.add_comm]

theorem or_step0 (a b c d : UInt8) : bits .or .u32 (sumTo a b c d 0 : Int) (a.toNat : Int) = (sumTo a b c d 1 : Int) := by
  have := a.toNat_lt
  have h := or_shift 0 a.toNat 0 (by omega) (by omega) (by omega)
  have e : (a.toNat : Int) * 2 ^ 0 % 4294967296 = (a.toNat : Int) := by omega
  rw [e] at h
  rw [show (sumTo a b c d 0 : Int) = ((0 : Nat) : Int) from rfl, h]
  simp [sumTo]
theorem or_step1 (a b c d : UInt8) : bits .or .u32 (sumTo a b c d 1 : Int) ((b.toNat : Int) * 256) = (sumTo a b c d 2 : Int) := by
  have := a.toNat_lt
  have := b.toNat_lt
  have h := or_shift a.toNat b.toNat 8 (by omega) (by omega) (by omega)
  have e : (b.toNat : Int) * 2 ^ 8 % 4294967296 = (b.toNat : Int) * 256 := by omega
  rw [e] at h
  exact h
theorem or_step2 (a b c d : UInt8) : bits .or .u32 (sumTo a b c d 2 : Int) ((c.toNat : Int) * 65536) = (sumTo a b c d 3 : Int) := by
  have := a.toNat_lt
  have := b.toNat_lt
  have := c.toNat_lt
  have h := or_shift (a.toNat + 256 * b.toNat) c.toNat 16 (by omega) (by omega) (by omega)
  have e : (c.toNat : Int) * 2 ^ 16 % 4294967296 = (c.toNat : Int) * 65536 := by omega
  rw [e] at h
  exact h
theorem or_step3 (a b c d : UInt8) : bits .or .u32 (sumTo a b c d 3 : Int) ((d.toNat : Int) * 16777216) = (sumTo a b c d 4 : Int) := by
  have := a.toNat_lt
  have := b.toNat_lt
  have := c.toNat_lt
  have := d.toNat_lt
  have h := or_shift (a.toNat + 256 * b.toNat + 65536 * c.toNat) d.toNat 24 (by omega) (by omega) (by omega)
  have e : (d.toNat : Int) * 2 ^ 24 % 4294967296 = (d.toNat : Int) * 16777216 := by omega
  rw [e] at h
  exact h

set_option maxHeartbeats 400000 in
theorem sumBehind_any (v : Value) (x0 x1 x2 x3 : UInt8) (w : World) (hv : Bs w v [x0, x1, x2, x3]) :
    Calls Try.prog 54 #[v] w fun e w' => e = .returned (.int .u32 (sumOf x0 x1 x2 x3 : Int)) ∧ w = w' := by
  obtain ⟨ao, cap, rfl, hc, hx⟩ := hv
  obtain ⟨b, off, rfl, _, hseg⟩ := hx (by simp)
  have c0 := hseg 0 x0 rfl
  have c1 := hseg 1 x1 rfl
  have c2 := hseg 2 x2 rfl
  have c3 := hseg 3 x3 rfl
  simp only [bv, Nat.add_zero] at c0 c1 c2 c3
  have b0 := x0.toNat_lt
  have b1 := x1.toNat_lt
  have b2 := x2.toNat_lt
  have b3 := x3.toNat_lt
  clear hseg hx
  simp only [List.length_cons, List.length_nil]
  go_enter Try.func54, Try.ntmps54
  go_wp2
  go_loop [3, 5] (fun s i => ∃ k : Nat, k ≤ 4 ∧ i = .int .i64 k ∧ s = .int .u32 (sumTo x0 x1 x2 x3 k : Int)) (fun _ i => 4 - (intOf i).toNat)
  case atStart => exact ⟨0, by omega, rfl, rfl⟩
  case round =>
    obtain ⟨k, hk, rfl, rfl⟩ := hrel
    rcases (show k = 0 ∨ k = 1 ∨ k = 2 ∨ k = 3 ∨ k = 4 by omega) with rfl | rfl | rfl | rfl | rfl
    · go_wp2
      go_round
      case rel => exact ⟨1, by omega, rfl, congrArg (Value.int .u32) (or_step0 _ _ _ _)⟩
      case measure => simp [intOf]
    · go_wp2
      go_round
      case rel => exact ⟨2, by omega, rfl, congrArg (Value.int .u32) (or_step1 _ _ _ _)⟩
      case measure => simp [intOf]
    · go_wp2
      go_round
      case rel => exact ⟨3, by omega, rfl, congrArg (Value.int .u32) (or_step2 _ _ _ _)⟩
      case measure => simp [intOf]
    · go_wp2
      go_round
      case rel => exact ⟨4, by omega, rfl, congrArg (Value.int .u32) (or_step3 _ _ _ _)⟩
      case measure => simp [intOf]
    · go_wp2
      go_ret
      exact ⟨rfl, rfl⟩

set_option maxHeartbeats 400000 in
theorem unseal_short (v : Value) (l : List UInt8) (w : World) (hv : Bs w v l) (hl : l.length < 4) :
    Calls Try.prog 26 #[v] w fun e w' => e = .returned (.tuple #[.slice none 0 0, .int .i64 20]) ∧ w = w' := by
  obtain ⟨ao, cap, rfl, hc, hx⟩ := hv
  go_enter Try.func26, Try.ntmps26
  go_wp2
  go_ret2
  exact ⟨rfl, rfl⟩

set_option maxHeartbeats 400000 in
theorem unseal_bad (v : Value) (m : List UInt8) (x0 x1 x2 x3 : UInt8) (w : World) (hv : Bs w v (m ++ [x0, x1, x2, x3])) (hl : m.length ≤ 140737488355000) (hne : sumOf x0 x1 x2 x3 ≠ crc m) :
    Calls Try.prog 26 #[v] w fun e w' => e = .returned (.tuple #[.slice none 0 0, .int .i64 23]) ∧ w = w' := by
  have hv0 := hv
  obtain ⟨ao, cap, rfl, hc, hx⟩ := hv
  have e1 := hv0.pre m.length (by simp)
  have e2 := hv0.post m.length (by simp)
  simp only [List.take_left, List.drop_left, List.length_append, List.length_cons, List.length_nil, Nat.zero_add, Nat.add_sub_cancel_left, Nat.reduceAdd] at hc e1 e2 ⊢
  have E1 : Hid _ := e1
  have E2 : Hid _ := e2
  clear e1 e2 hv0 hx
  have hne' : ((sumOf x0 x1 x2 x3 : Int) != (crc m : Int)) = true := by rw [bne_iff_ne]; omega
  go_enter Try.func26, Try.ntmps26
  go_wp2_with (first
    | (go_at_call 54; refine (sumBehind_any _ x0 x1 x2 x3 _ E2).mono ?_; rintro e w' ⟨rfl, rfl⟩)
    | (go_at_call 52; refine (sum_any _ m _ E1 (by omega)).mono ?_; rintro e w' ⟨rfl, rfl⟩))
  go_ret2
  exact ⟨rfl, rfl⟩

set_option maxHeartbeats 400000 in
theorem unseal_ok (v : Value) (m : List UInt8) (x0 x1 x2 x3 : UInt8) (w : World) (hv : Bs w v (m ++ [x0, x1, x2, x3])) (hl : m.length ≤ 140737488355000) (hne : sumOf x0 x1 x2 x3 = crc m) :
    Calls Try.prog 26 #[v] w fun e w' => e = .returned (.tuple #[.slice (some ⟨w.heap.size, 0, none⟩) m.length m.length, .int .i64 0]) ∧
      w'.heap[w.heap.size]? = some (.cells (m.map bv).toArray 5 (0, 0)) ∧ Below w.heap.size w w' ∧ w.heap.size < w'.heap.size := by
  have hv0 := hv
  obtain ⟨ao, cap, rfl, hc, hx⟩ := hv
  have e1 := hv0.pre m.length (by simp)
  have e2 := hv0.post m.length (by simp)
  simp only [List.take_left, List.drop_left, List.length_append, List.length_cons, List.length_nil, Nat.zero_add, Nat.add_sub_cancel_left, Nat.reduceAdd] at hc e1 e2 ⊢
  have E1 : Hid _ := e1
  have E2 : Hid _ := e2
  clear e1 e2 hv0 hx
  have hne' : ((sumOf x0 x1 x2 x3 : Int) != (crc m : Int)) = false := by rw [bne_eq_false_iff_eq]; omega
  clear hne
  go_enter Try.func26, Try.ntmps26
  go_wp2_with (first
    | (go_at_call 54; refine (sumBehind_any _ x0 x1 x2 x3 _ E2).mono ?_; rintro e w' ⟨rfl, rfl⟩)
    | (go_at_call 52; refine (sum_any _ m _ E1 (by omega)).mono ?_; rintro e w' ⟨rfl, rfl⟩)
    | (go_at_call 53; refine (fresh_any _ m _ E1 (by omega)).mono ?_; rintro e w' ⟨rfl, hg, hb, hlt⟩))
  go_ret2
  exact ⟨rfl, hg, hb, hlt⟩

theorem unseal_sealed (v : Value) (m : List UInt8) (w : World) (hv : Bs w v (m ++ sumBytes (crc m))) (hl : m.length ≤ 140737488355000) :
    Calls Try.prog 26 #[v] w fun e w' => e = .returned (.tuple #[.slice (some ⟨w.heap.size, 0, none⟩) m.length m.length, .int .i64 0]) ∧
      w'.heap[w.heap.size]? = some (.cells (m.map bv).toArray 5 (0, 0)) ∧ Below w.heap.size w w' ∧ w.heap.size < w'.heap.size :=
  unseal_ok v m _ _ _ _ w hv hl (sumOf_sumBytes _ (crc_lt _))

end Go.Proofs.Ytcpegfjjdojinaa

namespace Go.Proofs.Ytcpegfjjdojinaa
open Go.RowKit

theorem and_one (h : Nat) (h1 : h < 4294967296) : bits .and .u32 (h : Int) 1 = (h : Int) % 2 := by
  rw [show (1 : Int) = ((1 : Nat) : Int) from rfl, u32_and_nat _ _ h1 (by omega), Nat.and_one_is_mod]
  omega

set_option maxHeartbeats 400000 in
theorem refSum_any (v : Value) (l : List UInt8) (w : World) (hv : Bs w v l) (hl : l.length ≤ 140737488355328) :
    Calls Try.prog 45 #[v] w fun e w' => e = .returned (.int .u32 (crc l : Int)) ∧ w = w' := by
  obtain ⟨ao, cap, rfl, hc, hx⟩ := hv
  go_enter Try.func45, Try.ntmps45
  go_wp2
  go_loop [3, 4] (fun h i => ∃ k : Nat, k ≤ l.length ∧ i = .int .i64 k ∧ h = .int .u32 (crcS (l.take k) : Int)) (fun _ i => l.length - (intOf i).toNat)
  case atStart => exact ⟨0, Nat.zero_le _, rfl, rfl⟩
  case round =>
    obtain ⟨k, hk, rfl, rfl⟩ := hrel
    have hs := crcS_lt (l.take k)
    by_cases hlt : k < l.length
    · obtain ⟨b, off, rfl, _, hseg⟩ := hx (by intro e; subst e; simp at hlt)
      have hcell := hseg.at k hlt
      have hb := l[k].toNat_lt
      have hxl := xor_byte_lt _ l[k] hs
      have hxx : bits .xor .u32 (crcS (l.take k) : Int) (l[k].toNat : Int) = ((crcS (l.take k) ^^^ l[k].toNat : Nat) : Int) := u32_xor_nat _ _ (by omega) (by omega)
      have HT : Hid (crcS (l.take (k + 1)) = hvs 8 (crcS (l.take k) ^^^ l[k].toNat)) := by
        show _ = _
        rw [List.take_succ_eq_append_getElem hlt, crcS_snoc]; rfl
      generalize hX : (crcS (l.take k) ^^^ l[k].toNat) = X at *
      clear hX hx
      go_wp2
      go_loop [3, 5] (fun h i => ∃ j : Nat, j ≤ 8 ∧ i = .int .i64 j ∧ h = .int .u32 (hvs j X : Int)) (fun _ i => 8 - (intOf i).toNat)
      case atStart => exact ⟨0, Nat.zero_le _, rfl, rfl⟩
      case round =>
        obtain ⟨j, hj, rfl, rfl⟩ := hrel
        have hjl := hvs_lt j X hxl
        by_cases hjt : j < 8
        · have hand := and_one (hvs j X) hjl
          by_cases ho : ((hvs j X : Int) % 2 == 1) = true
          · have he := hv_odd (hvs j X) hjl ho
            go_wp2
            go_round
            case rel => exact ⟨j + 1, by omega, by go_num, rfl⟩
            case measure => simp [intOf]; omega
          · have ho' : ((hvs j X : Int) % 2 == 1) = false := by simpa using ho
            have he := hv_even (hvs j X) ho'
            clear ho
            go_wp2
            go_round
            case rel => exact ⟨j + 1, by omega, by go_num, rfl⟩
            case measure => simp [intOf]; omega
        · have hj8 : j = 8 := by omega
          subst hj8
          go_wp2
          go_round
          case rel => exact ⟨k + 1, by omega, by go_num, by rw [HT.out]⟩
          case measure => simp [intOf]; omega
    · have hkl : k = l.length := by omega
      have HE : Hid (bits .xor .u32 (crcS (l.take k) : Int) 4294967295 = (crc l : Int)) := by
        show _ = _
        rw [show (4294967295 : Int) = ((4294967295 : Nat) : Int) from rfl, u32_xor_nat _ _ hs (by omega), hkl, List.take_length]; rfl
      clear hkl
      go_wp2
      go_ret
      exact ⟨congrArg (fun x => Ending.returned (.int .u32 x)) HE.out, rfl⟩

end Go.Proofs.Ytcpegfjjdojinaa

namespace Go.Proofs.Ytcpegfjjdojinaa
open Go.RowKit

/-- The four bytes of a sum as they are laid in a block of their own. -/
theorem Bs.four (w : World) (c : Nat) (hc : c < 4294967296) (t : TypeId) : Bs (w.alloc (.cells #[.int .u8 ((c : Int) % 256), .int .u8 ((c : Int) / 256 % 256), .int .u8 ((c : Int) / 65536 % 256), .int .u8 ((c : Int) / 16777216)] t)) (.slice (some ⟨w.heap.size, 0, none⟩) 4 4) (sumBytes c) := by
  refine Bs.ofBlock (l := sumBytes c) (heap_alloc_new w _) ?_ (by simp [sumBytes])
  simp [sumBytes, bv, UInt8.toNat_ofNat']
  omega

set_option maxHeartbeats 400000 in
theorem refSeal_any (v : Value) (l : List UInt8) (w : World) (hv : Bs w v l) (hl : l.length ≤ 140737488355000) :
    Calls Try.prog 18 #[v] w fun e w' => ∃ v', e = .returned v' ∧ Bs w' v' (l ++ sumBytes (crc l)) ∧ Below w.heap.size w w' := by
  obtain ⟨i, hi, hz0, hz1, hz2⟩ := info_parts Try.infoByte
  have hcl := crc_lt l
  have hv0 := hv
  obtain ⟨ao, cap, rfl, hc, hx⟩ := hv
  clear hx
  go_enter Try.func18, Try.ntmps18
  go_wp2_with (first
    | (go_at_call 45; refine (refSum_any _ l _ hv0 (by omega)).mono ?_; rintro e w' ⟨rfl, rfl⟩)
    | (at_builtin; refine wpList_append_bs rfl (.tmp 7) (.tmp 8) 29 rfl w.heap.size 5 i Try.underlying29 hi hz0 hz1 hz2 (.slice (some ⟨w.heap.size, 0, none⟩) 0 0) 0 [] rfl rfl (World.ownsRow_lit w #[] 0 (Nat.le_refl _) (by simp [maxLen]) rfl) _ rfl l (hv0.below ((Below.refl _ _).alloc (Nat.le_refl _) _)) (by omega) (by simp) ?_; intro v1 w1 hown1 hkept1 hmoved1; have hb1 := own_below (World.ownsRow_lit w #[] 0 (Nat.le_refl _) (by simp [maxLen]) rfl) hkept1 (by simp); obtain ⟨ao1, n1, cp1, rfl⟩ := own_form hown1)
    | (at_builtin; refine wpList_append_bs rfl (.tmp 10) (.tmp 22) 29 rfl w.heap.size 5 i Try.underlying29 hi hz0 hz1 hz2 (.slice ao1 n1 cp1) _ ([] ++ l) rfl rfl (hown1.alloc _) _ rfl (sumBytes (crc l)) (Bs.four _ _ hcl _) (by simp [length_sumBytes]; omega) (by have := hkept1.size; simp at this ⊢; omega) ?_; intro v2 w2 hown2 hkept2 hmoved2; have hb2 := own_below (hown1.alloc _) hkept2 (by have := hkept1.size; simp at this ⊢; omega)))
  go_ret
  refine ⟨_, rfl, by simpa using Bs.ofOwns hown2, ?_⟩
  have hsz1 := hkept1.size
  simp at hsz1
  exact (((Below.refl _ _).alloc (Nat.le_refl _) _).trans hb1).trans (((Below.refl _ _).alloc (by omega) _).trans hb2)

set_option maxHeartbeats 400000 in
theorem refUnseal_short (v : Value) (l : List UInt8) (w : World) (hv : Bs w v l) (hl : l.length < 4) :
    Calls Try.prog 41 #[v] w fun e w' => e = .returned (.tuple #[.slice none 0 0, .int .i64 20]) ∧ w = w' := by
  obtain ⟨ao, cap, rfl, hc, hx⟩ := hv
  go_enter Try.func41, Try.ntmps41
  go_wp2
  go_ret2
  exact ⟨rfl, rfl⟩

/-- The four bytes behind, as they lie. -/
theorem Bs.tail {w : World} {ao : Option Addr} {n cap : Nat} {m : List UInt8} {x0 x1 x2 x3 : UInt8} (h : Bs w (.slice ao n cap) (m ++ [x0, x1, x2, x3])) :
    ∃ b off, ao = some ⟨b, off, none⟩ ∧ w.cell? ⟨b, off + m.length, none⟩ = some (.int .u8 (x0.toNat : Int)) ∧ w.cell? ⟨b, off + (m.length + 1), none⟩ = some (.int .u8 (x1.toNat : Int)) ∧
      w.cell? ⟨b, off + (m.length + 2), none⟩ = some (.int .u8 (x2.toNat : Int)) ∧ w.cell? ⟨b, off + (m.length + 3), none⟩ = some (.int .u8 (x3.toNat : Int)) := by
  obtain ⟨ao', cap', e, hc, hx⟩ := h
  simp only [Value.slice.injEq] at e
  obtain ⟨rfl, rfl, rfl⟩ := e
  obtain ⟨b, off, rfl, _, hs⟩ := hx (by simp)
  exact ⟨b, off, rfl, hs _ x0 (by simp), hs _ x1 (by simp), hs _ x2 (by simp), hs _ x3 (by simp)⟩

theorem sum_bytes_eq (x0 x1 x2 x3 : UInt8) (c : Nat) (_hc : c < 4294967296) : sumOf x0 x1 x2 x3 = c ↔ (x0.toNat : Int) = (c : Int) % 256 ∧ (x1.toNat : Int) = (c : Int) / 256 % 256 ∧ (x2.toNat : Int) = (c : Int) / 65536 % 256 ∧ (x3.toNat : Int) = (c : Int) / 16777216 := by
  have := x0.toNat_lt; have := x1.toNat_lt; have := x2.toNat_lt; have := x3.toNat_lt
  unfold sumOf
  omega

set_option maxRecDepth 20000 in
set_option maxHeartbeats 1000000 in
theorem refUnseal_bad (v : Value) (m : List UInt8) (x0 x1 x2 x3 : UInt8) (w : World) (hv : Bs w v (m ++ [x0, x1, x2, x3])) (hl : m.length ≤ 140737488355000) (hne : sumOf x0 x1 x2 x3 ≠ crc m) :
    Calls Try.prog 41 #[v] w fun e w' => e = .returned (.tuple #[.slice none 0 0, .int .i64 23]) ∧ w = w' := by
  have hv0 := hv
  obtain ⟨ao, cap, rfl, hc, hx⟩ := hv
  have e1 := hv0.pre m.length (by simp)
  obtain ⟨b, off, rfl, c0, c1, c2, c3⟩ := hv0.tail
  simp only [List.take_left, List.length_append, List.length_cons, List.length_nil, Nat.zero_add, Nat.reduceAdd] at hc e1 ⊢
  have E1 : Hid _ := e1
  clear e1 hv0 hx
  have hcl := crc_lt m
  rw [ne_eq, sum_bytes_eq x0 x1 x2 x3 (crc m) hcl] at hne
  have b0 := x0.toNat_lt; have b1 := x1.toNat_lt; have b2 := x2.toNat_lt; have b3 := x3.toNat_lt
  by_cases h0 : (x0.toNat : Int) = (crc m : Int) % 256
  · have t0 : ((x0.toNat : Int) != (crc m : Int) % 256) = false := by rw [bne_eq_false_iff_eq]; exact h0
    by_cases h1 : (x1.toNat : Int) = (crc m : Int) / 256 % 256
    · have t1 : ((x1.toNat : Int) != (crc m : Int) / 256 % 256) = false := by rw [bne_eq_false_iff_eq]; exact h1
      by_cases h2 : (x2.toNat : Int) = (crc m : Int) / 65536 % 256
      · have t2 : ((x2.toNat : Int) != (crc m : Int) / 65536 % 256) = false := by rw [bne_eq_false_iff_eq]; exact h2
        have t3 : ((x3.toNat : Int) != (crc m : Int) / 16777216) = true := by rw [bne_iff_ne]; exact fun h3 => hne ⟨h0, h1, h2, h3⟩
        clear h0 h1 h2 hne
        go_enter Try.func41, Try.ntmps41
        go_wp2_with (go_at_call 45; refine (refSum_any _ m _ E1 (by omega)).mono ?_; rintro e w' ⟨rfl, rfl⟩)
        go_ret2
        exact ⟨rfl, rfl⟩
      · have t2 : ((x2.toNat : Int) != (crc m : Int) / 65536 % 256) = true := by rw [bne_iff_ne]; exact h2
        clear h0 h1 h2 hne
        go_enter Try.func41, Try.ntmps41
        go_wp2_with (go_at_call 45; refine (refSum_any _ m _ E1 (by omega)).mono ?_; rintro e w' ⟨rfl, rfl⟩)
        go_ret2
        exact ⟨rfl, rfl⟩
    · have t1 : ((x1.toNat : Int) != (crc m : Int) / 256 % 256) = true := by rw [bne_iff_ne]; exact h1
      clear h0 h1 hne
      go_enter Try.func41, Try.ntmps41
      go_wp2_with (go_at_call 45; refine (refSum_any _ m _ E1 (by omega)).mono ?_; rintro e w' ⟨rfl, rfl⟩)
      go_ret2
      exact ⟨rfl, rfl⟩
  · have t0 : ((x0.toNat : Int) != (crc m : Int) % 256) = true := by rw [bne_iff_ne]; exact h0
    clear h0 hne
    go_enter Try.func41, Try.ntmps41
    go_wp2_with (go_at_call 45; refine (refSum_any _ m _ E1 (by omega)).mono ?_; rintro e w' ⟨rfl, rfl⟩)
    go_ret2
    exact ⟨rfl, rfl⟩

set_option maxRecDepth 20000 in
set_option maxHeartbeats 1000000 in
theorem refUnseal_ok (v : Value) (m : List UInt8) (x0 x1 x2 x3 : UInt8) (w : World) (hv : Bs w v (m ++ [x0, x1, x2, x3])) (hl : m.length ≤ 140737488355000) (he : sumOf x0 x1 x2 x3 = crc m) :
    Calls Try.prog 41 #[v] w fun e w' => ∃ v', e = .returned (.tuple #[v', .int .i64 0]) ∧ Bs w' v' m ∧ Below w.heap.size w w' := by
  obtain ⟨i, hi, hz0, hz1, hz2⟩ := info_parts Try.infoByte
  have hv0 := hv
  obtain ⟨ao, cap, rfl, hc, hx⟩ := hv
  have e1 := hv0.pre m.length (by simp)
  obtain ⟨b, off, rfl, c0, c1, c2, c3⟩ := hv0.tail
  simp only [List.take_left, List.length_append, List.length_cons, List.length_nil, Nat.zero_add, Nat.reduceAdd] at hc e1 ⊢
  have E1 : Hid (Bs w (.slice (some ⟨b, off, none⟩) m.length cap) m) := e1
  clear e1 hv0 hx
  have hcl := crc_lt m
  rw [sum_bytes_eq x0 x1 x2 x3 (crc m) hcl] at he
  obtain ⟨h0, h1, h2, h3⟩ := he
  have b0 := x0.toNat_lt; have b1 := x1.toNat_lt; have b2 := x2.toNat_lt; have b3 := x3.toNat_lt
  have t0 : ((x0.toNat : Int) != (crc m : Int) % 256) = false := by rw [bne_eq_false_iff_eq]; exact h0
  have t1 : ((x1.toNat : Int) != (crc m : Int) / 256 % 256) = false := by rw [bne_eq_false_iff_eq]; exact h1
  have t2 : ((x2.toNat : Int) != (crc m : Int) / 65536 % 256) = false := by rw [bne_eq_false_iff_eq]; exact h2
  have t3 : ((x3.toNat : Int) != (crc m : Int) / 16777216) = false := by rw [bne_eq_false_iff_eq]; exact h3
  clear h0 h1 h2 h3
  go_enter Try.func41, Try.ntmps41
  go_wp2_with (first
    | (go_at_call 45; refine (refSum_any _ m _ E1 (by omega)).mono ?_; rintro e w' ⟨rfl, rfl⟩)
    | (at_builtin; refine wpList_append_bs rfl (.tmp 56) (.tmp 59) 29 rfl w.heap.size 5 i Try.underlying29 hi hz0 hz1 hz2 (.slice (some ⟨w.heap.size, 0, none⟩) 0 0) 0 [] rfl rfl (World.ownsRow_lit w #[] 0 (Nat.le_refl _) (by simp [maxLen]) rfl) _ rfl m (Bs.below E1.out ((Below.refl _ _).alloc (Nat.le_refl _) _)) (by omega) (by simp) ?_; intro v1 w1 hown1 hkept1 hmoved1; have hb1 := own_below (World.ownsRow_lit w #[] 0 (Nat.le_refl _) (by simp [maxLen]) rfl) hkept1 (by simp); obtain ⟨ao1, n1, cp1, rfl⟩ := own_form hown1))
  go_ret2
  exact ⟨_, rfl, by simpa using Bs.ofOwns hown1, ((Below.refl _ _).alloc (Nat.le_refl _) _).trans hb1⟩

end Go.Proofs.Ytcpegfjjdojinaa

