/- What was laid is read again: plain facts. -/
import Derived.Test.YtdadbdeeoemfcabLayMath
import Derived.Test.YtdadbdeeoemfcabWalkJ
namespace Go.Proofs.Ytdadbdeeoemfcab

theorem nm_numF (r : List UInt8) : ∀ (f k m acc : Nat), k + f = 9 → (k = 0 ∨ 1 ≤ m) → 2 ^ (7 * k) * m < 18446744073709551616 →
    nm (numF f m ++ r) k acc = (acc + 2 ^ (7 * k) * m, k + (numF f m).length, 0) := by
  intro f
  induction f with
  | zero =>
    intro k m acc hk h1 h2
    have hk9 : k = 9 := by omega
    subst hk9
    have hm : m ≤ 1 := by
      apply Nat.le_of_not_lt
      intro h
      have : 2 ^ (7 * 9) * 2 ≤ 2 ^ (7 * 9) * m := Nat.mul_le_mul_left _ h
      omega
    have e : (UInt8.ofNat m).toNat = m := by rw [UInt8.toNat_ofNat']; omega
    rw [numF, List.singleton_append, nm_last (by rw [e]; omega) (by rw [e]; omega) (by rw [e]; omega), e, Nat.mod_eq_of_lt (by omega)]
    rfl
  | succ f ih =>
    intro k m acc hk h1 h2
    by_cases hm : m < 128
    · have e : (UInt8.ofNat m).toNat = m := by rw [UInt8.toNat_ofNat']; omega
      rw [numF_last _ _ hm, List.singleton_append, nm_last (by omega) (by rw [e]; omega) (by rw [e]; omega), e, Nat.mod_eq_of_lt hm]
      rfl
    · have e : (UInt8.ofNat (m % 128 + 128)).toNat = m % 128 + 128 := by rw [UInt8.toNat_ofNat']; omega
      have hp : 2 ^ (7 * (k + 1)) = 2 ^ (7 * k) * 128 := by rw [show 7 * (k + 1) = 7 * k + 7 by omega, Nat.pow_add]
      have hm2 : 2 ^ (7 * k) * m = 2 ^ (7 * k) * (m % 128) + 2 ^ (7 * (k + 1)) * (m / 128) := by
        rw [hp, Nat.mul_assoc, ← Nat.mul_add]
        congr 1
        omega
      rw [numF_more _ _ hm, List.cons_append, nm_more (by omega) (by rw [e]; omega), e, ih (k + 1) (m / 128) _ (by omega) (by omega) (by omega)]
      rw [show (m % 128 + 128) % 128 = m % 128 by omega, hm2, List.length_cons]
      refine Prod.ext ?_ (Prod.ext ?_ rfl)
      · simp only; omega
      · simp only; omega

theorem nm_numB (n : Nat) (hn : n < 18446744073709551616) (r : List UInt8) : nm (numB n ++ r) 0 0 = (n, (numB n).length, 0) := by
  have := nm_numF r 9 0 n 0 (by omega) (Or.inl rfl) (by omega)
  simpa [numB] using this

/-- One thing is read as it was laid. -/
theorem rByte_lay {L r : List UInt8} {p most : Nat} {x : UInt8} (h : L.drop p = [x] ++ r) (hm : x.toNat ≤ most) : rByte L p 0 most = (x.toNat, p + 1, 0) := rByte_ok (r := r) h (by omega)
theorem rNum_lay {L r : List UInt8} {p most n : Nat} (h : L.drop p = numB n ++ r) (hn : n < 18446744073709551616) (hm : n ≤ most) : rNum L p 0 most = (n, p + (numB n).length, 0) := by
  have e := nm_numB n hn r
  rw [← h] at e
  rw [rNum_ok (by rw [e]) (by rw [e]; simp only; omega), e]
theorem rText_lay {L r t : List UInt8} {p most : Nat} (h : L.drop p = (numB t.length ++ t) ++ r) (hn : t.length < 18446744073709551616) (hm : t.length ≤ most) : rText L p 0 most = (t, p + (numB t.length ++ t).length, 0) := by
  have hr := rNum_lay (L := L) (p := p) (most := most) (n := t.length) (r := t ++ r) (by rw [h, List.append_assoc]) hn hm
  have hd : L.drop (p + (numB t.length).length) = t ++ r := by
    rw [← List.drop_drop, h, List.append_assoc, List.drop_left]
  have hl := congrArg List.length hd
  rw [List.length_drop, List.length_append] at hl
  rw [rText_ok (by rw [hr]) (by rw [hr]; simp only; omega), hr]
  simp only [hd, List.take_left, List.length_append]
  refine Prod.ext rfl (Prod.ext ?_ rfl)
  simp only; omega

end Go.Proofs.Ytdadbdeeoemfcab
