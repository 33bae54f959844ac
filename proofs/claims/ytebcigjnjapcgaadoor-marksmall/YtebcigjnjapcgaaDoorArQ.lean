/- Places that are taken, reckoned: what Alloc and Free do to them. No program's text is in it. -/
import Derived.Test.YtebcigjnjapcgaaDoorArO
namespace Go.Proofs.YtebcigjnjapcgaaDoor

theorem atB_nat (bs : List Bk) (c : Nat) : atB bs (c : Int) = if c / 16 < bs.length then atN (bs.getD (c / 16) bk0) (c % 16) else 0 := by
  unfold atB
  by_cases h : c / 16 < bs.length
  · rw [if_neg (by omega), if_pos h, Int.toNat_natCast]
  · rw [if_pos (by omega), if_neg h]
theorem atB_in {bs : List Bk} {c : Nat} (h : c / 16 < bs.length) : atB bs (c : Int) = atN bs[c / 16] (c % 16) := by
  rw [atB_nat, if_pos h, getD_at h]
theorem atB_set {bs : List Bk} {n c : Nat} {y : Bk} (h : c / 16 ≠ n) : atB (bs.set n y) (c : Int) = atB bs (c : Int) := by
  rw [atB_nat, atB_nat, List.length_set]
  by_cases hc : c / 16 < bs.length
  · rw [if_pos hc, if_pos hc, getD_at hc, getD_at (by simpa using hc), List.getElem_set_ne (fun e => h e.symm)]
  · rw [if_neg hc, if_neg hc]
theorem atB_same {bs : List Bk} {n c : Nat} {y : Bk} (hn : n < bs.length) (h : c / 16 = n) : atB (bs.set n y) (c : Int) = atN y (c % 16) := by
  subst h
  rw [atB_in (by simpa using hn), List.getElem_set_self]
theorem atN_zero {x : Bk} {i : Nat} (h : x.c = 0) : atN x i = 0 := by unfold atN; exact if_pos (Or.inl h)
theorem atN_rem {x : Bk} {i : Nat} (h : i % x.c ≠ 0) : atN x i = 0 := by unfold atN; exact if_pos (Or.inr (Or.inl h))
theorem atN_bit {x : Bk} {i : Nat} (h0 : x.c ≠ 0) (h : i % x.c = 0) : atN x i = if x.t.testBit (i / x.c) then x.c else 0 := by
  unfold atN
  by_cases hb : x.t.testBit (i / x.c) = false
  · rw [if_pos (Or.inr (Or.inr hb)), if_neg (by rw [hb]; decide)]
  · rw [if_neg (fun e => e.elim h0 (fun e => e.elim (fun e => e h) hb)), if_pos (by simpa using hb)]
/-- Division by a class, of what lies in a block. -/
theorem div_cls {k i : Nat} (hk : IsC k) (hi : i < 16) (h : i % k = 0) : i / k < 16 / k ∧ i = i / k * k := by
  rcases hk with rfl | rfl | rfl | rfl | rfl <;> omega
theorem mul_cls {k p : Nat} (hk : IsC k) (hp : p < 16 / k) : p * k + k ≤ 16 ∧ p * k % k = 0 ∧ p * k / k = p := by
  rcases hk with rfl | rfl | rfl | rfl | rfl <;> omega
theorem far_cls {k p q : Nat} (hk : IsC k) (h : q ≠ p) : q * k + k ≤ p * k ∨ p * k + k ≤ q * k := by
  rcases hk with rfl | rfl | rfl | rfl | rfl <;> omega

/-- A block one place of which is taken: the places of the others are as they were. -/
theorem atN_take {x : Bk} {k i : Nat} (hO : x.Ok) (hk : IsC k) (hc : x.c = k ∨ x.c = 0) (hi : i < 16) (hne : i ≠ placeN x.t * k) : atN (takeB x k) i = atN x i := by
  by_cases hr : i % k = 0
  · obtain ⟨hq, he⟩ := div_cls hk hi hr
    have hqp : i / k ≠ placeN x.t := fun e => hne (by rw [← e]; exact he)
    have h1 : atN (takeB x k) i = if (takeB x k).t.testBit (i / k) then k else 0 := atN_bit (x := takeB x k) (show k ≠ 0 from by have := hk.pos; omega) hr
    have h2 : (takeB x k).t.testBit (i / k) = x.t.testBit (i / k) := by
      show (x.t ||| 2 ^ placeN x.t).testBit (i / k) = _
      rw [orP_bit]
      simp [hqp]
    rw [h1, h2]
    rcases hc with hc | hc
    · rw [atN_bit (by rw [hc]; have := hk.pos; omega) (by rw [hc]; exact hr), hc]
    · rw [atN_zero hc]
      have ht : x.t = 0 := by
        rcases hO with ⟨_, h⟩ | ⟨h, _⟩
        · exact h
        · have := h.pos; omega
      rw [ht]
      simp
  · rw [atN_rem (x := takeB x k) hr]
    rcases hc with hc | hc
    · rw [atN_rem (by rw [hc]; exact hr)]
    · rw [atN_zero hc]

/-- What Alloc does to places. -/
structure Got (bs bs' : List Bk) (c k : Nat) : Prop where
  blk : c % 16 + k ≤ 16
  fit : c + k ≤ 16 * bs.length
  was : atB bs (c : Int) = 0
  is : atB bs' (c : Int) = k
  els : ∀ d : Nat, d ≠ c → atB bs' (d : Int) = atB bs (d : Int)
  far : ∀ d : Nat, atB bs (d : Int) ≠ 0 → d + atB bs (d : Int) ≤ c ∨ c + k ≤ d
theorem alloc_spec {bs : List Bk} {s : Int} (hO : AO bs) (h1 : 1 ≤ s) (h2 : s ≤ 16) (hE : (allocR bs s).2 = 0) : Got bs (allocL bs s) (allocR bs s).1 (classN s) := by
  have hk := (classN_is h1 h2).1
  have hz : classN s ≠ 0 := by have := hk.pos; omega
  unfold allocR allocL at *
  simp only [if_neg hz] at hE ⊢
  cases hp : pickB (classN s) bs with
  | none => rw [hp] at hE; cases hE
  | some n =>
    obtain ⟨hn, hc, hr⟩ := pickB_lt hp
    clear hE hp
    generalize classN s = k at *
    have hOx := hO _ (List.getElem_mem hn)
    obtain ⟨hpk, hb, _⟩ := take_spec hOx hk hc hr
    show Got bs (bs.set n (takeB (bs.getD n bk0) k)) (n * 16 + placeN (bs.getD n bk0).t * k) k
    rw [getD_at hn]
    obtain ⟨hm1, hm2, hm3⟩ := mul_cls hk hpk
    have hcd : (n * 16 + placeN bs[n].t * k) / 16 = n := by have := hk.pos; omega
    have hcm : (n * 16 + placeN bs[n].t * k) % 16 = placeN bs[n].t * k := by have := hk.pos; omega
    have h0 : k ≠ 0 := by have := hk.pos; omega
    refine ⟨by rw [hcm]; exact hm1, by omega, ?_, ?_, fun d hd => ?_, fun d hd => ?_⟩
    · rw [atB_in (by rw [hcd]; exact hn)]
      have e : bs[(n * 16 + placeN bs[n].t * k) / 16]'(by rw [hcd]; exact hn) = bs[n] := by congr 1
      rw [e, hcm]
      rcases hc with hc | hc
      · rw [atN_bit (by rw [hc]; exact h0) (by rw [hc]; exact hm2), hc, hm3, hb]
        rfl
      · exact atN_zero hc
    · rw [atB_same hn hcd, hcm, atN_bit (x := takeB bs[n] k) h0 hm2]
      show (if (bs[n].t ||| 2 ^ placeN bs[n].t).testBit (placeN bs[n].t * k / k) then k else 0) = k
      rw [hm3, orP_bit]
      simp
    · by_cases hdn : d / 16 = n
      · rw [atB_same hn hdn, atB_in (by rw [hdn]; exact hn)]
        have e : bs[d / 16]'(by rw [hdn]; exact hn) = bs[n] := by congr 1
        rw [e]
        exact atN_take hOx hk hc (Nat.mod_lt _ (by decide)) (by omega)
      · exact atB_set hdn
    · obtain ⟨_, hm, hcm0, hcls, hrem, hbit⟩ := atB_some hd
      simp only [Int.toNat_natCast] at hm hcm0 hcls hrem hbit
      have hIs : IsC bs[d / 16].c := by
        rcases hO _ (List.getElem_mem hm) with ⟨h, _⟩ | ⟨h, _⟩
        · exact absurd h hcm0
        · exact h
      have hin := div_cls hIs (Nat.mod_lt d (by decide)) hrem
      have hmc := mul_cls hIs hin.1
      rw [← hin.2] at hmc
      rw [hcls]
      by_cases hdn : d / 16 = n
      · have e : bs[d / 16] = bs[n] := by congr 1
        rw [e] at hcm0 hrem hbit hin hmc ⊢
        have hck : bs[n].c = k := by omega
        rw [hck] at hrem hbit hin hmc ⊢
        have hne : d % 16 / k ≠ placeN bs[n].t := fun e => by rw [e, hb] at hbit; cases hbit
        have := far_cls hk hne
        rw [← hin.2] at this
        omega
      · omega

/-- What Free does to places. -/
theorem free_spec {bs : List Bk} {c : Nat} (hO : AO bs) (h : atB bs (c : Int) ≠ 0) : freeR bs (c : Int) = 0 ∧ atB (freeL bs (c : Int)) (c : Int) = 0 ∧ ∀ d : Nat, d ≠ c → atB (freeL bs (c : Int)) (d : Int) = atB bs (d : Int) := by
  obtain ⟨_, hn, hc0, hcls, hrem, hbit⟩ := atB_some h
  simp only [Int.toNat_natCast] at hn hc0 hcls hrem hbit
  unfold freeR freeL
  rw [if_neg h, if_neg h, Int.toNat_natCast, getD_at hn]
  have hOx := hO _ (List.getElem_mem hn)
  have hlt := hOx.lt
  have hIs : IsC bs[c / 16].c := by
    rcases hOx with ⟨h, _⟩ | ⟨h, _⟩
    · exact absurd h hc0
    · exact h
  obtain ⟨hq, hqe⟩ := div_cls hIs (Nat.mod_lt c (by decide)) hrem
  have hq16 : c % 16 / bs[c / 16].c < 16 := Nat.lt_of_lt_of_le hq (Nat.div_le_self _ _)
  have key : ∀ j, j < 16 → atN (dropN bs[c / 16] (c % 16)) j = if j = c % 16 then 0 else atN bs[c / 16] j := by
    intro j hj
    by_cases hr : j % bs[c / 16].c = 0
    · obtain ⟨hqj, hqje⟩ := div_cls hIs hj hr
      have hqj16 : j / bs[c / 16].c < 16 := Nat.lt_of_lt_of_le hqj (Nat.div_le_self _ _)
      have ho := offN_bit bs[c / 16].t (c % 16 / bs[c / 16].c) (j / bs[c / 16].c) hlt (by omega)
      have heq : (j = c % 16) ↔ (j / bs[c / 16].c = c % 16 / bs[c / 16].c) := ⟨fun e => by rw [e], fun e => by rw [hqje, e, ← hqe]⟩
      rw [atN_bit hc0 hr]
      unfold dropN
      split
      · next hz =>
        rw [hz] at ho
        rw [atN_zero rfl]
        by_cases hjc : j = c % 16
        · rw [if_pos hjc]
        · rw [if_neg hjc]
          have hne : j / bs[c / 16].c ≠ c % 16 / bs[c / 16].c := fun e => hjc (heq.2 e)
          simp [hne] at ho
          rw [ho]
          rfl
      · next hz =>
        rw [atN_bit (x := ⟨bs[c / 16].c, offN bs[c / 16].t (c % 16 / bs[c / 16].c)⟩) hc0 hr]
        show (if (offN bs[c / 16].t (c % 16 / bs[c / 16].c)).testBit (j / bs[c / 16].c) then bs[c / 16].c else 0) = _
        rw [ho]
        by_cases hjc : j = c % 16
        · have := heq.1 hjc
          rw [if_pos hjc, this]
          simp
        · have hne : j / bs[c / 16].c ≠ c % 16 / bs[c / 16].c := fun e => hjc (heq.2 e)
          rw [if_neg hjc]
          simp [hne]
    · have hjc : j ≠ c % 16 := fun e => by rw [e] at hr; exact hr hrem
      rw [if_neg hjc, atN_rem hr]
      unfold dropN
      split
      · exact atN_zero rfl
      · exact atN_rem (x := ⟨bs[c / 16].c, offN bs[c / 16].t (c % 16 / bs[c / 16].c)⟩) hr
  refine ⟨rfl, ?_, fun d hd => ?_⟩
  · rw [atB_same hn rfl, key _ (Nat.mod_lt _ (by decide)), if_pos rfl]
  · by_cases hdn : d / 16 = c / 16
    · rw [atB_same hn hdn, key _ (Nat.mod_lt _ (by decide)), if_neg (by omega), atB_in (by rw [hdn]; exact hn)]
      congr 1
      congr 1
      exact hdn.symm
    · exact atB_set hdn
theorem free_none {bs : List Bk} {i : Int} (h : atB bs i = 0) : freeR bs i = 9 ∧ freeL bs i = bs := by
  unfold freeR freeL
  rw [if_pos h, if_pos h]
  exact ⟨rfl, rfl⟩
/-- Where nothing is taken all blocks are free. -/
theorem all_free {bs : List Bk} (hO : AO bs) (h : ∀ c : Nat, atB bs (c : Int) = 0) : bs = List.replicate bs.length bk0 := by
  rw [List.eq_replicate_iff]
  refine ⟨rfl, fun x hx => ?_⟩
  obtain ⟨n, hn, rfl⟩ := List.mem_iff_getElem.1 hx
  rcases hO _ hx with ⟨h1, h2⟩ | ⟨h1, h2, h3⟩
  · cases hb : bs[n] with
    | mk c t =>
      rw [hb] at h1 h2
      simp only at h1 h2
      subst h1 h2
      rfl
  · exfalso
    obtain ⟨i, hi⟩ := Nat.exists_testBit_of_ne_zero (show bs[n].t ≠ 0 by omega)
    have hilt : i < 16 / bs[n].c := by
      apply Nat.lt_of_not_le
      intro hle
      rw [Nat.testBit_lt_two_pow (Nat.lt_of_lt_of_le h3 (Nat.pow_le_pow_right (by decide) hle))] at hi
      cases hi
    obtain ⟨hm1, hm2, hm3⟩ := mul_cls h1 hilt
    have hp := h1.pos
    have hd : (n * 16 + i * bs[n].c) / 16 = n := by omega
    have hmm : (n * 16 + i * bs[n].c) % 16 = i * bs[n].c := by omega
    have h4 := h (n * 16 + i * bs[n].c)
    rw [atB_in (by rw [hd]; exact hn)] at h4
    have e : bs[(n * 16 + i * bs[n].c) / 16]'(by rw [hd]; exact hn) = bs[n] := by congr 1
    rw [e, hmm, atN_bit (by omega) hm2, hm3, hi] at h4
    simp at h4
    omega

end Go.Proofs.YtebcigjnjapcgaaDoor
