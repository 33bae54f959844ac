/- What was read is laid again: plain facts. -/
import Derived.Test.YtdadbdeeoemfcabLayRead
namespace Go.Proofs.Ytdadbdeeoemfcab

/-- The bytes of a number that was read are those that it is laid as. -/
theorem nm_inv : ∀ (l : List UInt8) (k acc v s : Nat), k ≤ 9 → nm l k acc = (v, s, 0) → ∃ m, v = acc + 2 ^ (7 * k) * m ∧ k < s ∧ l.take (s - k) = numF (9 - k) m ∧ (k = 0 ∨ 1 ≤ m) := by
  intro l
  induction l with
  | nil => intro k acc v s _ h; simp [nm] at h
  | cons d r ih =>
    intro k acc v s hk h
    have hd := d.toNat_lt
    by_cases h1 : k = 9 ∧ 1 < d.toNat
    · rw [nm_bad h1.1 h1.2] at h; simp at h
    · by_cases h2 : 128 ≤ d.toNat
      · have hk9 : k ≠ 9 := fun e => h1 ⟨e, by omega⟩
        rw [nm_more hk9 h2] at h
        obtain ⟨m, hv, hs, ht, hm⟩ := ih (k + 1) _ v s (by omega) h
        refine ⟨d.toNat % 128 + 128 * m, ?_, by omega, ?_, Or.inr (by omega)⟩
        · have hp : 2 ^ (7 * (k + 1)) = 2 ^ (7 * k) * 128 := by rw [show 7 * (k + 1) = 7 * k + 7 by omega, Nat.pow_add]
          rw [hv, hp, Nat.mul_assoc, Nat.add_assoc, ← Nat.mul_add]
        · rw [show 9 - k = (9 - (k + 1)) + 1 by omega, numF_more _ _ (by omega), show s - k = (s - (k + 1)) + 1 by omega, List.take_succ_cons, ht]
          congr 1
          · apply UInt8.toNat_inj.1
            rw [UInt8.toNat_ofNat']
            omega
          · congr 1
            omega
      · by_cases h3 : d.toNat = 0 ∧ 0 < k
        · rw [nm_zero h3.1 h3.2] at h; simp at h
        · rw [nm_last (fun e => by omega) (by omega) (fun e => by omega)] at h
          simp only [Prod.mk.injEq, and_true] at h
          obtain ⟨rfl, rfl⟩ := h
          refine ⟨d.toNat, by rw [Nat.mod_eq_of_lt (by omega)], by omega, ?_, by omega⟩
          rw [numF_last _ _ (by omega), show k + 1 - k = 1 by omega]
          simp

theorem nm_take {l : List UInt8} {v s : Nat} (h : nm l 0 0 = (v, s, 0)) : l.take s = numB v := by
  obtain ⟨m, hv, _, ht, _⟩ := nm_inv l 0 0 v s (by omega) h
  simp only [Nat.mul_zero, Nat.pow_zero, Nat.one_mul, Nat.zero_add, Nat.sub_zero] at hv ht
  rw [hv, ht]; rfl

theorem take_more {α : Type} (L : List α) (p s : Nat) : L.take (p + s) = L.take p ++ (L.drop p).take s := by
  rw [List.take_add]

theorem rByte_took {L : List UInt8} {p e most : Nat} (h : (rByte L p e most).2.2 = 0) : e = 0 ∧ L.take (rByte L p e most).2.1 = L.take p ++ [UInt8.ofNat (rByte L p e most).1] := by
  by_cases he : e = 0
  · subst he
    refine ⟨rfl, ?_⟩
    cases hd : L.drop p with
    | nil => rw [rByte_short hd] at h; simp at h
    | cons x r =>
      by_cases hm : most < x.toNat
      · rw [rByte_long hd hm] at h; simp at h
      · rw [rByte_ok hd hm, take_more, hd]
        simp
  · rw [rByte_wrong he] at h; exact absurd h he

theorem rNum_took {L : List UInt8} {p e most : Nat} (h : (rNum L p e most).2.2 = 0) : e = 0 ∧ L.take (rNum L p e most).2.1 = L.take p ++ numB (rNum L p e most).1 := by
  by_cases he : e = 0
  · subst he
    refine ⟨rfl, ?_⟩
    by_cases hb : (nm (L.drop p) 0 0).2.2 = 0
    · by_cases hm : most < (nm (L.drop p) 0 0).1
      · rw [rNum_long hb hm] at h; simp at h
      · rw [rNum_ok hb hm, take_more, nm_take (l := L.drop p) (v := (nm (L.drop p) 0 0).1) (s := (nm (L.drop p) 0 0).2.1) (Prod.ext rfl (Prod.ext rfl hb))]
    · rw [rNum_bad hb] at h; exact absurd h hb
  · rw [rNum_wrong he] at h; exact absurd h he

theorem rText_took {L : List UInt8} {p e most : Nat} (h : (rText L p e most).2.2 = 0) : e = 0 ∧ L.take (rText L p e most).2.1 = L.take p ++ (numB (rText L p e most).1.length ++ (rText L p e most).1) := by
  by_cases hb : (rNum L p e most).2.2 = 0
  · by_cases hs : L.length - (rNum L p e most).2.1 < (rNum L p e most).1
    · rw [rText_short hb hs] at h; simp at h
    · obtain ⟨he, ht⟩ := rNum_took hb
      refine ⟨he, ?_⟩
      have hl : ((L.drop (rNum L p e most).2.1).take (rNum L p e most).1).length = (rNum L p e most).1 := by
        rw [List.length_take, List.length_drop]; omega
      rw [rText_ok hb hs, take_more, ht, hl, List.append_assoc]
  · rw [rText_bad hb] at h; exact absurd h hb

/-- As long as nothing was wrong, what was read is laid as what it was read from. -/
def Same (L : List UInt8) (p e : Nat) (ds : List LayD) : Prop := e = 0 → L.take p = layAll ds
theorem Same.start (L : List UInt8) : Same L 0 0 [] := fun _ => rfl
theorem Same.byte {L : List UInt8} {p e most : Nat} {ds : List LayD} {d : LayD} (h : Same L p e ds) (h0 : pickN d.what 3 = 0) (hd : d.b = UInt8.ofNat (rByte L p e most).1) : Same L (rByte L p e most).2.1 (rByte L p e most).2.2 (ds ++ [d]) := by
  intro hz
  obtain ⟨he, ht⟩ := rByte_took hz
  rw [ht, h he, layAll_append, layAll_one, layOne_byte h0, hd]
theorem Same.num {L : List UInt8} {p e most : Nat} {ds : List LayD} {d : LayD} (h : Same L p e ds) (h0 : pickN d.what 3 = 1) (hd : d.n = (rNum L p e most).1) : Same L (rNum L p e most).2.1 (rNum L p e most).2.2 (ds ++ [d]) := by
  intro hz
  obtain ⟨he, ht⟩ := rNum_took hz
  rw [ht, h he, layAll_append, layAll_one, layOne_num h0, hd]
theorem Same.text {L : List UInt8} {p e most : Nat} {ds : List LayD} {d : LayD} (h : Same L p e ds) (h0 : pickN d.what 3 = 2) (hd : d.t = (rText L p e most).1) : Same L (rText L p e most).2.1 (rText L p e most).2.2 (ds ++ [d]) := by
  intro hz
  obtain ⟨he, ht⟩ := rText_took hz
  rw [ht, h he, layAll_append, layAll_one, layOne_text h0, hd]
theorem Same.last {L : List UInt8} {p e : Nat} {ds : List LayD} (h : Same L p e ds) (hz : rEnd L p e = 0) : layAll ds = L := by
  unfold rEnd at hz
  split at hz
  · simp at hz
  · rename_i hn
    rw [← h hz, List.take_of_length_le (by omega)]

/-- What may be wrong. -/
def Code (e : Nat) : Prop := e = 0 ∨ e = 20 ∨ e = 21 ∨ e = 22
theorem nm_code : ∀ (l : List UInt8) (k acc : Nat), Code (nm l k acc).2.2 := by
  intro l
  induction l with
  | nil => intro k acc; simp [nm, Code]
  | cons d r ih =>
    intro k acc
    rw [nm]
    split
    · simp [Code]
    · split
      · exact ih _ _
      · split
        · simp [Code]
        · simp [Code]
theorem rByte_code {L : List UInt8} {p e most : Nat} (h : Code e) : Code (rByte L p e most).2.2 := by
  unfold rByte
  split
  · exact h
  · split
    · simp [Code]
    · split
      · simp [Code]
      · simp [Code]
theorem rNum_code {L : List UInt8} {p e most : Nat} (h : Code e) : Code (rNum L p e most).2.2 := by
  unfold rNum
  split
  · exact h
  · split
    · exact nm_code _ _ _
    · split
      · simp [Code]
      · simp [Code]
theorem rText_code {L : List UInt8} {p e most : Nat} (h : Code e) : Code (rText L p e most).2.2 := by
  unfold rText
  split
  · exact rNum_code h
  · split
    · simp [Code]
    · simp [Code]
theorem rEnd_code {L : List UInt8} {p e : Nat} (h : Code e) : Code (rEnd L p e) := by
  unfold rEnd
  split
  · simp [Code]
  · exact h

end Go.Proofs.Ytdadbdeeoemfcab
