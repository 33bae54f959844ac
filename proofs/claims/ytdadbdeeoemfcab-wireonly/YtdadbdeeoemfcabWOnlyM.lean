/- What was read is laid again as the same bytes: plain facts. -/
import Derived.Test.YtdadbdeeoemfcabWReadOk
import Derived.Test.YtdadbdeeoemfcabOneMath
namespace Go.Proofs.Ytdadbdeeoemfcab
open Go.RowKit

theorem u64_of {n : Nat} (h : U64 n) : u64 (n : Int) = n := by unfold U64 at h; unfold u64; omega
theorem u8_of {n : Nat} : u8 (n : Int) = UInt8.ofNat n := by
  apply UInt8.toNat_inj.1
  simp [u8]
  omega

theorem num_setF (m : Msg) {f n : Nat} (hf : FldN f) (hn : U64 n) : (m.setF f n).num f = n := by
  have e := u64_of hn
  rcases hf with rfl | rfl | rfl | rfl | rfl | rfl | rfl | rfl | rfl | rfl | rfl | rfl
  · rfl
  · rfl
  · exact e
  · exact e
  · exact e
  · rfl
  · exact e
  · rfl
  · exact e
  · exact e
  · rfl
  · rfl

theorem rID_took {L : List UInt8} {p e : Nat} (h : (rID L p e).2.2 = 0) : e = 0 ∧ L.take (rID L p e).2.1 = L.take p ++ layIDB (rID L p e).1 := by
  obtain ⟨h1, h2⟩ := rNum_took (L := L) (p := (rByte L p e 64).2.1) (e := (rByte L p e 64).2.2) (most := 72057594037927935) h
  obtain ⟨h3, h4⟩ := rByte_took h1
  refine ⟨h3, ?_⟩
  show L.take (rNum L (rByte L p e 64).2.1 (rByte L p e 64).2.2 72057594037927935).2.1 = _
  rw [h2, h4]
  simp [layIDB, rID, u8_of]

theorem rIn_took {L : List UInt8} {p e : Nat} : ∀ n, (rIn L n p e).2.2 = 0 → e = 0 ∧ L.take (rIn L n p e).2.1 = L.take p ++ (rIn L n p e).1.flatMap layIDB := by
  intro n
  induction n with
  | zero => intro h; exact ⟨h, by simp [rIn]⟩
  | succ n ih =>
    intro h
    simp only [rIn] at h ⊢
    obtain ⟨h1, h2⟩ := rID_took h
    obtain ⟨h3, h4⟩ := ih h1
    refine ⟨h3, ?_⟩
    rw [h2, h4]
    simp
theorem rLs_took {L : List UInt8} {p e : Nat} : ∀ n, (rLs L n p e).2.2 = 0 → e = 0 ∧ L.take (rLs L n p e).2.1 = L.take p ++ (rLs L n p e).1.flatMap numB := by
  intro n
  induction n with
  | zero => intro h; exact ⟨h, by simp [rLs]⟩
  | succ n ih =>
    intro h
    simp only [rLs] at h ⊢
    obtain ⟨h1, h2⟩ := rNum_took h
    obtain ⟨h3, h4⟩ := ih h1
    refine ⟨h3, ?_⟩
    rw [h2, h4]
    simp

/-- A field that was read is laid as it lay. -/
theorem rF_took {L : List UInt8} {p e f : Nat} {m : Msg} (hf : Fld f) (h : (rF L m f p e).2.2 = 0) : e = 0 ∧ L.take (rF L m f p e).2.1 = L.take p ++ layF (rF L m f p e).1 f := by
  unfold rF at h ⊢
  by_cases h1 : f = 32
  · subst h1
    rw [if_pos rfl] at h ⊢
    exact rID_took h
  rw [if_neg h1] at h ⊢
  by_cases h2 : f = 4096
  · subst h2
    rw [if_pos rfl] at h ⊢
    obtain ⟨h3, h4⟩ := rIn_took (L := L) (p := (rNum L p e 2).2.1) (e := (rNum L p e 2).2.2) _ h
    obtain ⟨h5, h6⟩ := rNum_took h3
    refine ⟨h5, ?_⟩
    show L.take (rIn L (rNum L p e 2).1 (rNum L p e 2).2.1 (rNum L p e 2).2.2).2.1 = L.take p ++ layIDsB (rIn L (rNum L p e 2).1 (rNum L p e 2).2.1 (rNum L p e 2).2.2).1
    rw [h4, h6]
    simp [layIDsB, rIn_len]
  rw [if_neg h2] at h ⊢
  by_cases h3 : f = 16384
  · subst h3
    rw [if_pos rfl] at h ⊢
    obtain ⟨h3, h4⟩ := rLs_took (L := L) (p := (rNum L p e 64).2.1) (e := (rNum L p e 64).2.2) _ h
    obtain ⟨h5, h6⟩ := rNum_took h3
    refine ⟨h5, ?_⟩
    show L.take (rLs L (rNum L p e 64).1 (rNum L p e 64).2.1 (rNum L p e 64).2.2).2.1 = L.take p ++ layListB (rLs L (rNum L p e 64).1 (rNum L p e 64).2.1 (rNum L p e 64).2.2).1
    rw [h4, h6]
    simp [layListB, rLs_len]
  rw [if_neg h3] at h ⊢
  have hfn : FldN f := by unfold Fld at hf; unfold FldN; omega
  have hl : ∀ x : Msg, layF x f = if inByteB f = true then [u8 (x.num f : Int)] else numB (x.num f) := by intro x; unfold layF; rw [if_neg h1, if_neg h2, if_neg h3]
  have htl := topF_lt m.kind f
  by_cases h5 : inByteB f = true
  · rw [if_pos h5] at h ⊢
    obtain ⟨h6, h7⟩ := rByte_took h
    refine ⟨h6, ?_⟩
    have hle := rByte_le L p e (topF m.kind f)
    rw [hl, if_pos h5, h7, num_setF m hfn (by unfold U64; omega), u8_of]
  · rw [if_neg h5] at h ⊢
    obtain ⟨h6, h7⟩ := rNum_took h
    refine ⟨h6, ?_⟩
    have hle := rNum_le L p e (topF m.kind f)
    rw [hl, if_neg h5, h7, num_setF m hfn (by unfold U64; omega)]

theorem layF_setF (m : Msg) {f g n : Nat} (hf : Fld f) (hg : FldN g) (hne : f ≠ g) : layF (m.setF g n) f = layF m f := by
  rcases hf with rfl | rfl | rfl | rfl | rfl | rfl | rfl | rfl | rfl | rfl | rfl | rfl | rfl | rfl | rfl <;>
    rcases hg with rfl | rfl | rfl | rfl | rfl | rfl | rfl | rfl | rfl | rfl | rfl | rfl <;> first | rfl | exact absurd rfl hne

theorem layF_rF (L : List UInt8) (m : Msg) {f g : Nat} (p e : Nat) (hf : Fld f) (hg : Fld g) (hne : f ≠ g) : layF (rF L m g p e).1 f = layF m f := by
  unfold rF
  by_cases h1 : g = 32
  · subst h1
    rw [if_pos rfl]
    rcases hf with rfl | rfl | rfl | rfl | rfl | rfl | rfl | rfl | rfl | rfl | rfl | rfl | rfl | rfl | rfl <;> first | rfl | exact absurd rfl hne
  rw [if_neg h1]
  by_cases h2 : g = 4096
  · subst h2
    rw [if_pos rfl]
    rcases hf with rfl | rfl | rfl | rfl | rfl | rfl | rfl | rfl | rfl | rfl | rfl | rfl | rfl | rfl | rfl <;> first | rfl | exact absurd rfl hne
  rw [if_neg h2]
  by_cases h3 : g = 16384
  · subst h3
    rw [if_pos rfl]
    rcases hf with rfl | rfl | rfl | rfl | rfl | rfl | rfl | rfl | rfl | rfl | rfl | rfl | rfl | rfl | rfl <;> first | rfl | exact absurd rfl hne
  rw [if_neg h3]
  have hgn : FldN g := by unfold Fld at hg; unfold FldN; omega
  split
  · exact layF_setF m hf hgn hne
  · exact layF_setF m hf hgn hne

theorem pow_ne2 {i j : Nat} (h : i < j) : 2 ^ i ≠ 2 ^ j := by
  intro e
  have := Nat.pow_lt_pow_right (show 1 < 2 by omega) h
  omega

theorem fieldB_step (L : List UInt8) (x : Msg × Nat × Nat) {i j : Nat} (hi : i < j) (hj : j < 15) : fieldB (rStep L x (2 ^ j)).1 (2 ^ i) = fieldB x.1 (2 ^ i) := by
  unfold fieldB
  rw [(rStep_kind L x (2 ^ j)).1]
  split
  · rfl
  · unfold rStep
    split
    · rfl
    · exact layF_rF L x.1 _ _ (fld_pow (by omega)).1 (fld_pow hj).1 (pow_ne2 hi)

theorem flat_same (L : List UInt8) (x : Msg × Nat × Nat) {j : Nat} (hj : j < 15) : (flds.take j).flatMap (fieldB (rStep L x (2 ^ j)).1) = (flds.take j).flatMap (fieldB x.1) := by
  have : ∀ i, i ≤ j → (flds.take i).flatMap (fieldB (rStep L x (2 ^ j)).1) = (flds.take i).flatMap (fieldB x.1) := by
    intro i
    induction i with
    | zero => intro _; rfl
    | succ i ih =>
      intro hi
      obtain ⟨h3, h4⟩ := List.getElem?_eq_some_iff.1 (fld_pow (show i < 15 by omega)).2.1
      rw [List.take_succ_eq_append_getElem h3, List.flatMap_append, List.flatMap_append, ih (by omega), h4]
      simp only [List.flatMap_singleton]
      rw [fieldB_step L x (by omega) hj]
  exact this j (Nat.le_refl _)

/-- What was read without anything wrong is what it is laid as. -/
theorem read_only {L : List UInt8} : ∀ j, j ≤ 15 → (rFs L j (rHead L 0 0)).2.2 = 0 → L.take (rFs L j (rHead L 0 0)).2.1 = headB (rFs L j (rHead L 0 0)).1 ++ (flds.take j).flatMap (fieldB (rFs L j (rHead L 0 0)).1) := by
  intro j
  induction j with
  | zero =>
    intro _ h
    have h : (rHead L 0 0).2.2 = 0 := h
    show L.take (rHead L 0 0).2.1 = headB (rHead L 0 0).1 ++ []
    unfold rHead at h ⊢
    obtain ⟨h1, h2⟩ := rByte_took h
    obtain ⟨h3, h4⟩ := rByte_took h1
    obtain ⟨h5, h6⟩ := rByte_took h3
    simp only [headB]
    rw [h2, h4, h6]
    simp [u8_of]
  | succ j ih =>
    intro hj h
    rw [rFs_step L j _ (by omega)] at h ⊢
    have hk := rStep_kind L (rFs L j (rHead L 0 0)) (2 ^ j)
    have hfs := flat_same L (rFs L j (rHead L 0 0)) (show j < 15 by omega)
    obtain ⟨h3, h4⟩ := List.getElem?_eq_some_iff.1 (fld_pow (show j < 15 by omega)).2.1
    rw [List.take_succ_eq_append_getElem h3, List.flatMap_append, h4, hfs]
    simp only [List.flatMap_singleton]
    have hh : headB (rStep L (rFs L j (rHead L 0 0)) (2 ^ j)).1 = headB (rFs L j (rHead L 0 0)).1 := by unfold headB; rw [hk.1, hk.2.1, hk.2.2]
    rw [hh]
    have ihj := ih (by omega)
    have hfb : fieldB (rStep L (rFs L j (rHead L 0 0)) (2 ^ j)).1 (2 ^ j) = if hasF (rFs L j (rHead L 0 0)).1.kind &&& 2 ^ j = 0 then [] else layF (rStep L (rFs L j (rHead L 0 0)) (2 ^ j)).1 (2 ^ j) := by unfold fieldB; rw [hk.1]
    rw [hfb]
    generalize rFs L j (rHead L 0 0) = X at *
    unfold rStep at h ⊢
    by_cases hz : hasF X.1.kind &&& 2 ^ j = 0
    · rw [if_pos hz] at h ⊢
      rw [if_pos hz, ihj h, List.append_nil]
    · rw [if_neg hz] at h ⊢
      rw [if_neg hz]
      obtain ⟨h5, h6⟩ := rF_took (fld_pow (show j < 15 by omega)).1 h
      rw [h6, ihj h5, List.append_assoc]

theorem only_all {L : List UInt8} (h : rEnd L (rAll L 0 0).2.1 (rAll L 0 0).2.2 = 0) (hr : rightB (rAll L 0 0).1 = true) : bodyB (rAll L 0 0).1 = L := by
  by_cases hk : (rByte L 0 0 11).1 = 0
  · unfold rAll at hr
    rw [if_pos hk] at hr
    exact absurd (show rightB zeroM = true from hr) (by decide +kernel)
  · have e : rAll L 0 0 = rFs L 15 (rHead L 0 0) := by unfold rAll; rw [if_neg hk]
    rw [e] at h ⊢
    unfold rEnd at h
    by_cases hc : (rFs L 15 (rHead L 0 0)).2.2 = 0 ∧ (rFs L 15 (rHead L 0 0)).2.1 < L.length
    · rw [if_pos hc] at h; cases h
    · rw [if_neg hc] at h
      have := read_only 15 (Nat.le_refl _) h
      rw [List.take_of_length_le (by omega)] at this
      exact this.symm

end Go.Proofs.Ytdadbdeeoemfcab
