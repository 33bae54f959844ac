/- Plain facts on bytes, sums and numbers: no program's text is in it. -/
import Derived.WalkKit
import Derived.Laws.BitsAllLaws
namespace Go.Proofs.Ytcpegfjjdojinaa

/-- One step of the sum, on naturals. -/
def hvN (h : Nat) : Nat := if h % 2 = 1 then (h / 2) ^^^ 3988292384 else h / 2

theorem hvN_lt (h : Nat) (hh : h < 4294967296) : hvN h < 4294967296 := by
  unfold hvN
  split
  · exact Nat.xor_lt_two_pow (n := 32) (by omega) (by omega)
  · omega

def hvs : Nat → Nat → Nat
  | 0, h => h
  | k + 1, h => hvN (hvs k h)

theorem hvs_lt (k h : Nat) (hh : h < 4294967296) : hvs k h < 4294967296 := by
  induction k with
  | zero => exact hh
  | succ k ih => exact hvN_lt _ ih

/-- One byte. -/
def crcB (h : Nat) (x : UInt8) : Nat := hvs 8 (h ^^^ x.toNat)
theorem xor_byte_lt (h : Nat) (x : UInt8) (hh : h < 4294967296) : h ^^^ x.toNat < 4294967296 :=
  Nat.xor_lt_two_pow (n := 32) (by omega) (by have := x.toNat_lt; omega)
theorem crcB_lt (h : Nat) (x : UInt8) (hh : h < 4294967296) : crcB h x < 4294967296 := hvs_lt _ _ (xor_byte_lt h x hh)

/-- The state behind some bytes. -/
def crcS (l : List UInt8) : Nat := l.foldl crcB 4294967295
theorem foldl_crcB_lt (l : List UInt8) : ∀ h, h < 4294967296 → l.foldl crcB h < 4294967296 := by
  induction l with
  | nil => intro h hh; exact hh
  | cons x l ih => intro h hh; exact ih _ (crcB_lt h x hh)
theorem crcS_lt (l : List UInt8) : crcS l < 4294967296 := foldl_crcB_lt l _ (by omega)
def crc (l : List UInt8) : Nat := crcS l ^^^ 4294967295
theorem crc_lt (l : List UInt8) : crc l < 4294967296 := Nat.xor_lt_two_pow (n := 32) (by have := crcS_lt l; omega) (by omega)

theorem crcS_snoc (l : List UInt8) (x : UInt8) : crcS (l ++ [x]) = crcB (crcS l) x := by simp [crcS]

/-! the step is one to one -/
theorem testBit31_lt (a : Nat) (h : a < 2147483648) : a.testBit 31 = false := Nat.testBit_lt_two_pow (by omega)
theorem hvN_inj {a b : Nat} (ha : a < 4294967296) (hb : b < 4294967296) (h : hvN a = hvN b) : a = b := by
  have hC : Nat.testBit 3988292384 31 = true := by decide
  have da := Nat.div_add_mod a 2
  have db := Nat.div_add_mod b 2
  have ta := testBit31_lt (a / 2) (by omega)
  have tb := testBit31_lt (b / 2) (by omega)
  unfold hvN at h
  split at h <;> split at h
  · have h2 := congrArg (· ^^^ 3988292384) h
    simp only [Nat.xor_assoc, Nat.xor_self, Nat.xor_zero] at h2
    omega
  · have h2 := congrArg (Nat.testBit · 31) h
    simp only [Nat.testBit_xor, ta, tb, hC] at h2
    exact absurd h2 (by decide)
  · have h2 := congrArg (Nat.testBit · 31) h
    simp only [Nat.testBit_xor, ta, tb, hC] at h2
    exact absurd h2 (by decide)
  · omega
theorem hvs_inj (k : Nat) : ∀ {a b : Nat}, a < 4294967296 → b < 4294967296 → hvs k a = hvs k b → a = b := by
  induction k with
  | zero => intro a b _ _ h; exact h
  | succ k ih => intro a b ha hb h; exact ih ha hb (hvN_inj (hvs_lt k a ha) (hvs_lt k b hb) h)
theorem xor_right_cancel {a b c : Nat} (h : a ^^^ c = b ^^^ c) : a = b := by
  have h2 := congrArg (· ^^^ c) h
  simpa only [Nat.xor_assoc, Nat.xor_self, Nat.xor_zero] using h2
theorem xor_left_cancel {a b c : Nat} (h : c ^^^ a = c ^^^ b) : a = b := xor_right_cancel (c := c) (by rw [Nat.xor_comm a, Nat.xor_comm b]; exact h)
theorem crcB_inj_state {a b : Nat} (x : UInt8) (ha : a < 4294967296) (hb : b < 4294967296) (h : crcB a x = crcB b x) : a = b :=
  xor_right_cancel (hvs_inj 8 (xor_byte_lt a x ha) (xor_byte_lt b x hb) h)
theorem crcB_inj_byte {a : Nat} {x y : UInt8} (ha : a < 4294967296) (h : crcB a x = crcB a y) : x = y :=
  UInt8.toNat_inj.1 (xor_left_cancel (hvs_inj 8 (xor_byte_lt a x ha) (xor_byte_lt a y ha) h))
theorem foldl_crcB_inj (l : List UInt8) : ∀ {a b : Nat}, a < 4294967296 → b < 4294967296 → l.foldl crcB a = l.foldl crcB b → a = b := by
  induction l with
  | nil => intro a b _ _ h; exact h
  | cons x l ih => intro a b ha hb h; exact crcB_inj_state x ha hb (ih (crcB_lt a x ha) (crcB_lt b x hb) h)

/-- One byte turned: another sum. -/
theorem crc_set_ne (l : List UInt8) (k : Nat) (x : UInt8) (hk : k < l.length) (hx : l[k] ≠ x) : crc (l.set k x) ≠ crc l := by
  intro h
  have h1 : crcS (l.set k x) = crcS l := xor_right_cancel h
  rw [List.set_eq_take_append_cons_drop, if_pos hk] at h1
  have e : l = l.take k ++ l[k] :: l.drop (k + 1) := by simp
  have h2 : crcS (l.take k ++ x :: l.drop (k + 1)) = crcS (l.take k ++ l[k] :: l.drop (k + 1)) := by rw [h1, ← e]
  simp only [crcS, List.foldl_append, List.foldl_cons] at h2
  have hl := foldl_crcB_lt (l.take k) 4294967295 (by omega)
  exact hx (crcB_inj_byte hl (foldl_crcB_inj _ (crcB_lt _ _ hl) (crcB_lt _ _ hl) h2)).symm

/-! the four bytes of a sum -/
def sumBytes (s : Nat) : List UInt8 := [UInt8.ofNat s, UInt8.ofNat (s / 256), UInt8.ofNat (s / 65536), UInt8.ofNat (s / 16777216)]
def sumOf (a b c d : UInt8) : Nat := a.toNat + 256 * b.toNat + 65536 * c.toNat + 16777216 * d.toNat
theorem length_sumBytes (s : Nat) : (sumBytes s).length = 4 := rfl
theorem sumOf_sumBytes (s : Nat) (h : s < 4294967296) : sumOf (UInt8.ofNat s) (UInt8.ofNat (s / 256)) (UInt8.ofNat (s / 65536)) (UInt8.ofNat (s / 16777216)) = s := by
  simp only [sumOf, UInt8.toNat_ofNat']
  omega
theorem sumOf_inj {a b c d a' b' c' d' : UInt8} (h : sumOf a b c d = sumOf a' b' c' d') : a = a' ∧ b = b' ∧ c = c' ∧ d = d' := by
  have := a.toNat_lt; have := b.toNat_lt; have := c.toNat_lt; have := d.toNat_lt
  have := a'.toNat_lt; have := b'.toNat_lt; have := c'.toNat_lt; have := d'.toNat_lt
  unfold sumOf at h
  refine ⟨UInt8.toNat_inj.1 ?_, UInt8.toNat_inj.1 ?_, UInt8.toNat_inj.1 ?_, UInt8.toNat_inj.1 ?_⟩ <;> omega

theorem known_sum : crc [49, 50, 51, 52, 53, 54, 55, 56, 57] = 3421780262 := by decide +kernel

/-! numbers as bytes -/
def numF : Nat → Nat → List UInt8
  | 0, n => [UInt8.ofNat n]
  | f + 1, n => if n < 128 then [UInt8.ofNat n] else UInt8.ofNat (n % 128 + 128) :: numF f (n / 128)
def numB (n : Nat) : List UInt8 := numF 9 n
theorem numF_last (f n : Nat) (h : n < 128) : numF f n = [UInt8.ofNat n] := by
  cases f with
  | zero => rfl
  | succ f => simp [numF, h]
theorem numF_more (f n : Nat) (h : ¬ n < 128) : numF (f + 1) n = UInt8.ofNat (n % 128 + 128) :: numF f (n / 128) := by simp [numF, h]
theorem length_numF (f : Nat) : ∀ n, (numF f n).length ≤ f + 1 := by
  induction f with
  | zero => intro n; simp [numF]
  | succ f ih =>
    intro n
    by_cases h : n < 128
    · simp [numF, h]
    · rw [numF_more f n h, List.length_cons]
      have := ih (n / 128)
      omega
theorem length_numB (n : Nat) : (numB n).length ≤ 10 := length_numF 9 n

/-! bytes as numbers -/
/-- The number at the beginning of some bytes: its value, how many bytes it has, what is wrong. -/
def nm : List UInt8 → Nat → Nat → Nat × Nat × Nat
  | [], _, _ => (0, 0, 20)
  | d :: r, k, acc =>
    if k = 9 ∧ 1 < d.toNat then (0, 0, 21) else
    if 128 ≤ d.toNat then nm r (k + 1) (acc + 2 ^ (7 * k) * (d.toNat % 128)) else
    if d.toNat = 0 ∧ 0 < k then (0, 0, 21) else (acc + 2 ^ (7 * k) * (d.toNat % 128), k + 1, 0)

theorem nm_bad {d : UInt8} {r : List UInt8} {k acc : Nat} (h1 : k = 9) (h2 : 1 < d.toNat) : nm (d :: r) k acc = (0, 0, 21) := by
  rw [nm, if_pos ⟨h1, h2⟩]
theorem nm_more {d : UInt8} {r : List UInt8} {k acc : Nat} (h1 : k ≠ 9) (h2 : 128 ≤ d.toNat) : nm (d :: r) k acc = nm r (k + 1) (acc + 2 ^ (7 * k) * (d.toNat % 128)) := by
  rw [nm, if_neg (fun h => h1 h.1), if_pos h2]
theorem nm_zero {d : UInt8} {r : List UInt8} {k acc : Nat} (h1 : d.toNat = 0) (h2 : 0 < k) : nm (d :: r) k acc = (0, 0, 21) := by
  rw [nm, if_neg (by omega), if_neg (by omega), if_pos ⟨h1, h2⟩]
theorem nm_last {d : UInt8} {r : List UInt8} {k acc : Nat} (h1 : k = 9 → d.toNat ≤ 1) (h2 : d.toNat < 128) (h3 : d.toNat = 0 → k = 0) : nm (d :: r) k acc = (acc + 2 ^ (7 * k) * (d.toNat % 128), k + 1, 0) := by
  rw [nm, if_neg (fun h => by have := h1 h.1; omega), if_neg (by omega), if_neg (fun h => by have := h3 h.1; omega)]

theorem nm_spec (l : List UInt8) : ∀ k acc, k ≤ 9 → acc < 2 ^ (7 * k) → (nm l k acc).2.1 ≤ k + l.length ∧ (nm l k acc).1 < 18446744073709551616 ∧ ((nm l k acc).2.2 = 0 → k < (nm l k acc).2.1) := by
  induction l with
  | nil => intro k acc _ _; simp [nm]
  | cons d r ih =>
    intro k acc hk ha
    have hd := d.toNat_lt
    by_cases h1 : k = 9 ∧ 1 < d.toNat
    · rw [nm_bad h1.1 h1.2]; simp
    · by_cases h2 : 128 ≤ d.toNat
      · have hk9 : k ≠ 9 := fun h => h1 ⟨h, by omega⟩
        rw [nm_more hk9 h2]
        have hm : 2 ^ (7 * k) * (d.toNat % 128) ≤ 2 ^ (7 * k) * 127 := Nat.mul_le_mul_left _ (by omega)
        have he : 2 ^ (7 * (k + 1)) = 2 ^ (7 * k) * 128 := by rw [show 7 * (k + 1) = 7 * k + 7 by omega, Nat.pow_add]
        have := ih (k + 1) (acc + 2 ^ (7 * k) * (d.toNat % 128)) (by omega) (by omega)
        simp only [List.length_cons]
        omega
      · by_cases h3 : d.toNat = 0 ∧ 0 < k
        · rw [nm_zero h3.1 h3.2]; simp
        · rw [nm_last (by omega) (by omega) (by omega)]
          simp only [List.length_cons]
          refine ⟨by omega, ?_, by omega⟩
          by_cases hk9 : k = 9
          · subst hk9
            have : d.toNat % 128 ≤ 1 := by omega
            have hm : 2 ^ (7 * 9) * (d.toNat % 128) ≤ 2 ^ (7 * 9) * 1 := Nat.mul_le_mul_left _ this
            omega
          · have hm : 2 ^ (7 * k) * (d.toNat % 128) ≤ 2 ^ (7 * k) * 127 := Nat.mul_le_mul_left _ (by omega)
            have he : 2 ^ (7 * k) ≤ 2 ^ 56 := Nat.pow_le_pow_right (by omega) (by omega)
            omega

end Go.Proofs.Ytcpegfjjdojinaa
