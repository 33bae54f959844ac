/- What was laid and cut off is read: plain facts. -/
import Derived.Test.YtmnajmlfioiboaaLayRead
namespace Go.Proofs.Ytmnajmlfioiboaa

theorem layAll_cut (ds : List LayD) (k : Nat) (hk : k < ds.length) : layAll ds = layAll (ds.take k) ++ (layOne ds[k] ++ layAll (ds.drop (k + 1))) := by
  rw [← layAll_cons, ← List.drop_eq_getElem_cons hk, ← layAll_append, List.take_append_drop]

theorem nm_short : ∀ (f k m acc j : Nat), k + f = 9 → j < (numF f m).length → nm ((numF f m).take j) k acc = (0, 0, 20) := by
  intro f
  induction f with
  | zero =>
    intro k m acc j _ hj
    simp [numF] at hj
    subst hj
    simp [nm]
  | succ f ih =>
    intro k m acc j hk hj
    by_cases hm : m < 128
    · rw [numF_last _ _ hm] at hj
      simp at hj
      subst hj
      simp [nm]
    · have e : (UInt8.ofNat (m % 128 + 128)).toNat = m % 128 + 128 := by rw [UInt8.toNat_ofNat']; omega
      rw [numF_more _ _ hm] at hj ⊢
      cases j with
      | zero => simp [nm]
      | succ j =>
        rw [List.take_succ_cons, nm_more (by omega) (by rw [e]; omega)]
        exact ih (k + 1) (m / 128) _ j (by omega) (by simpa using hj)
theorem nm_numB_short (n j : Nat) (hj : j < (numB n).length) : nm ((numB n).take j) 0 0 = (0, 0, 20) := nm_short 9 0 n 0 j (by omega) hj

/-- Nothing was wrong yet, or what was laid ended too early. -/
def Good (ds : List LayD) (k p e : Nat) : Prop := (e = 0 ∧ p = (layAll (ds.take k)).length) ∨ e = 20

theorem rText_wrong {L : List UInt8} {p e most : Nat} (h : e ≠ 0) : rText L p e most = ([], p, e) := by
  have hn := rNum_wrong (L := L) (p := p) (most := most) h
  rw [rText_bad (by rw [hn]; exact h), hn]

theorem take_fits {α : Type} (a b : List α) (j : Nat) (h : a.length ≤ j) : (a ++ b).take j = a ++ b.take (j - a.length) := by
  rw [List.take_append, List.take_of_length_le h]
theorem take_part {α : Type} (a b : List α) (j : Nat) (h : j ≤ a.length) : (a ++ b).take j = a.take j := by
  rw [List.take_append, show j - a.length = 0 by omega]; simp

section
variable {ds : List LayD} {c k p e : Nat}
theorem cut_drop (hk : k < ds.length) (hp : p = (layAll (ds.take k)).length) : ((layAll ds).take c).drop p = (layOne ds[k] ++ layAll (ds.drop (k + 1))).take (c - p) := by
  subst hp
  rw [List.drop_take]
  congr 1
  conv => lhs; rw [layAll_cut ds k hk]
  rw [List.drop_left]
theorem next_len (hk : k < ds.length) : (layAll (ds.take (k + 1))).length = (layAll (ds.take k)).length + (layOne ds[k]).length := by rw [layAll_take ds k hk, List.length_append]

theorem good_byte (hk : k < ds.length) (hw : pickN ds[k].what 3 = 0) (hg : Good ds k p e) :
    Good ds (k + 1) (rByte ((layAll ds).take c) p e 255).2.1 (rByte ((layAll ds).take c) p e 255).2.2 := by
  rcases hg with ⟨rfl, hp⟩ | rfl
  · have hd := cut_drop (c := c) hk hp
    have hn := next_len hk
    rw [layOne_byte hw] at hd hn
    by_cases hf : 1 ≤ c - p
    · rw [take_fits _ _ _ (by simpa using hf)] at hd
      rw [rByte_lay hd (by have := ds[k].b.toNat_lt; omega)]
      exact Or.inl ⟨rfl, by simp only; rw [hn, ← hp]; rfl⟩
    · rw [show c - p = 0 by omega, List.take_zero] at hd
      rw [rByte_short hd]
      exact Or.inr rfl
  · rw [rByte_wrong (by omega)]
    exact Or.inr rfl

theorem good_num (hk : k < ds.length) (hw : pickN ds[k].what 3 = 1) (hb : ds[k].n < 18446744073709551616) (hg : Good ds k p e) :
    Good ds (k + 1) (rNum ((layAll ds).take c) p e 18446744073709551615).2.1 (rNum ((layAll ds).take c) p e 18446744073709551615).2.2 := by
  rcases hg with ⟨rfl, hp⟩ | rfl
  · have hd := cut_drop (c := c) hk hp
    have hn := next_len hk
    rw [layOne_num hw] at hd hn
    by_cases hf : (numB ds[k].n).length ≤ c - p
    · rw [take_fits _ _ _ hf] at hd
      rw [rNum_lay hd hb (by omega)]
      exact Or.inl ⟨rfl, by simp only; rw [hn, ← hp]⟩
    · rw [take_part _ _ _ (by omega)] at hd
      have hs := nm_numB_short ds[k].n (c - p) (by omega)
      rw [← hd] at hs
      rw [rNum_bad (by rw [hs]; simp), hs]
      exact Or.inr rfl
  · rw [rNum_wrong (by omega)]
    exact Or.inr rfl

theorem good_text (hk : k < ds.length) (hw : pickN ds[k].what 3 = 2) (hb : ds[k].t.length < 18446744073709551616) (hle : p ≤ ((layAll ds).take c).length) (hg : Good ds k p e) :
    Good ds (k + 1) (rText ((layAll ds).take c) p e ds[k].t.length).2.1 (rText ((layAll ds).take c) p e ds[k].t.length).2.2 := by
  rcases hg with ⟨rfl, hp⟩ | rfl
  · have hd := cut_drop (c := c) hk hp
    have hn := next_len hk
    rw [layOne_text hw] at hd hn
    by_cases hf : (numB ds[k].t.length ++ ds[k].t).length ≤ c - p
    · rw [take_fits _ _ _ hf] at hd
      rw [rText_lay hd hb (by omega)]
      exact Or.inl ⟨rfl, by simp only; rw [hn, ← hp]⟩
    · by_cases hf2 : (numB ds[k].t.length).length ≤ c - p
      · rw [take_part _ _ _ (by omega), take_fits _ _ _ hf2] at hd
        have hr := rNum_lay (most := ds[k].t.length) hd hb (Nat.le_refl _)
        have hl := congrArg List.length hd
        rw [List.length_drop, List.length_append] at hl
        rw [List.length_append] at hf
        have h5 : (ds[k].t.take (c - p - (numB ds[k].t.length).length)).length = c - p - (numB ds[k].t.length).length := by rw [List.length_take]; omega
        rw [rText_short (by rw [hr]) (by rw [hr]; simp only; omega)]
        exact Or.inr rfl
      · rw [List.append_assoc, take_part _ _ _ (by omega)] at hd
        have hs := nm_numB_short ds[k].t.length (c - p) (by omega)
        rw [← hd] at hs
        have hr : rNum ((layAll ds).take c) p 0 ds[k].t.length = (0, p, 20) := by rw [rNum_bad (by rw [hs]; simp), hs]
        rw [rText_bad (by rw [hr]; simp), hr]
        exact Or.inr rfl
  · rw [rText_wrong (by omega)]
    exact Or.inr rfl
end

theorem good_end {ds : List LayD} {c p e : Nat} (hc : c < (layAll ds).length) (hp : p ≤ ((layAll ds).take c).length) (hg : Good ds ds.length p e) : rEnd ((layAll ds).take c) p e = 20 := by
  rcases hg with ⟨rfl, rfl⟩ | rfl
  · rw [List.take_length, List.length_take] at hp
    omega
  · simp [rEnd]

end Go.Proofs.Ytmnajmlfioiboaa
