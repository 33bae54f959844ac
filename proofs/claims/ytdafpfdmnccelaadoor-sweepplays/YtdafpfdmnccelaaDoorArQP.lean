import Derived.Test.YtdafpfdmnccelaaDoorArOP
import Derived.Test.YtdafpfdmnccelaaDoorArP
import Derived.Laws.MakeOwn
/- Places that are taken, reckoned: what Alloc and Free do to them. No program's text is in it. -/
/- The plain arena in memory; New, At. -/
/- The plain arena's Used and Room. -/
namespace Go.Proofs.YtdafpfdmnccelaaDoor

theorem atB_nat (bs : List Bk) (c : Nat) : atB bs (c : Int) = if c / 16 < bs.length then atN (bs.getD (c / 16) bk0) (c % 16) else 0 := by
  unfold atB
  by_cases h : c / 16 < bs.length
  · rw [if_neg (by omega), if_pos h, Int.toNat_natCast]
  · rw [if_pos (by omega), if_neg h]
theorem atB_in {bs : List Bk} {c : Nat} (h : c / 16 < bs.length) : atB bs (c : Int) = atN bs[c / 16] (c % 16) := by
  rw [atB_nat, if_pos h, getD_at h]
theorem atB_set {bs : List Bk} {n c : Nat} {y : Bk} (h : c / 16 ≠ n) : atB (bs.set n y) (c : Int) = atB bs (c : Int) := by
  rw [atB_nat, atB_nat, List.length_set]
  by_cases hc : c / 16 < bs.length
  · rw [if_pos hc, if_pos hc, getD_at hc, getD_at (by simpa using hc), List.getElem_set_ne (fun e => h e.symm)]
  · rw [if_neg hc, if_neg hc]
theorem atB_same {bs : List Bk} {n c : Nat} {y : Bk} (hn : n < bs.length) (h : c / 16 = n) : atB (bs.set n y) (c : Int) = atN y (c % 16) := by
  subst h
  rw [atB_in (by simpa using hn), List.getElem_set_self]
theorem atN_zero {x : Bk} {i : Nat} (h : x.c = 0) : atN x i = 0 := by unfold atN; exact if_pos (Or.inl h)
theorem atN_rem {x : Bk} {i : Nat} (h : i % x.c ≠ 0) : atN x i = 0 := by unfold atN; exact if_pos (Or.inr (Or.inl h))
theorem atN_bit {x : Bk} {i : Nat} (h0 : x.c ≠ 0) (h : i % x.c = 0) : atN x i = if x.t.testBit (i / x.c) then x.c else 0 := by
  unfold atN
  by_cases hb : x.t.testBit (i / x.c) = false
  · rw [if_pos (Or.inr (Or.inr hb)), if_neg (by rw [hb]; decide)]
  · rw [if_neg (fun e => e.elim h0 (fun e => e.elim (fun e => e h) hb)), if_pos (by simpa using hb)]
/-- Division by a class, of what lies in a block. -/
theorem div_cls {k i : Nat} (hk : IsC k) (hi : i < 16) (h : i % k = 0) : i / k < 16 / k ∧ i = i / k * k := by
  rcases hk with rfl | rfl | rfl | rfl | rfl <;> omega
theorem mul_cls {k p : Nat} (hk : IsC k) (hp : p < 16 / k) : p * k + k ≤ 16 ∧ p * k % k = 0 ∧ p * k / k = p := by
  rcases hk with rfl | rfl | rfl | rfl | rfl <;> omega
theorem far_cls {k p q : Nat} (hk : IsC k) (h : q ≠ p) : q * k + k ≤ p * k ∨ p * k + k ≤ q * k := by
  rcases hk with rfl | rfl | rfl | rfl | rfl <;> omega

/-- A block one place of which is taken: the places of the others are as they were. -/
theorem atN_take {x : Bk} {k i : Nat} (hO : x.Ok) (hk : IsC k) (hc : x.c = k ∨ x.c = 0) (hi : i < 16) (hne : i ≠ placeN x.t * k) : atN (takeB x k) i = atN x i := by
  by_cases hr : i % k = 0
  · obtain ⟨hq, he⟩ := div_cls hk hi hr
    have hqp : i / k ≠ placeN x.t := fun e => hne (by rw [← e]; exact he)
    have h1 : atN (takeB x k) i = if (takeB x k).t.testBit (i / k) then k else 0 := atN_bit (x := takeB x k) (show k ≠ 0 from by have := hk.pos; omega) hr
    have h2 : (takeB x k).t.testBit (i / k) = x.t.testBit (i / k) := by
      show (x.t ||| 2 ^ placeN x.t).testBit (i / k) = _
      rw [orP_bit]
      simp [hqp]
    rw [h1, h2]
    rcases hc with hc | hc
    · rw [atN_bit (by rw [hc]; have := hk.pos; omega) (by rw [hc]; exact hr), hc]
    · rw [atN_zero hc]
      have ht : x.t = 0 := by
        rcases hO with ⟨_, h⟩ | ⟨h, _⟩
        · exact h
        · have := h.pos; omega
      rw [ht]
      simp
  · rw [atN_rem (x := takeB x k) hr]
    rcases hc with hc | hc
    · rw [atN_rem (by rw [hc]; exact hr)]
    · rw [atN_zero hc]

/-- What Alloc does to places. -/
structure Got (bs bs' : List Bk) (c k : Nat) : Prop where
  blk : c % 16 + k ≤ 16
  fit : c + k ≤ 16 * bs.length
  was : atB bs (c : Int) = 0
  is : atB bs' (c : Int) = k
  els : ∀ d : Nat, d ≠ c → atB bs' (d : Int) = atB bs (d : Int)
  far : ∀ d : Nat, atB bs (d : Int) ≠ 0 → d + atB bs (d : Int) ≤ c ∨ c + k ≤ d
theorem alloc_spec {bs : List Bk} {s : Int} (hO : AO bs) (h1 : 1 ≤ s) (h2 : s ≤ 16) (hE : (allocR bs s).2 = 0) : Got bs (allocL bs s) (allocR bs s).1 (classN s) := by
  have hk := (classN_is h1 h2).1
  have hz : classN s ≠ 0 := by have := hk.pos; omega
  unfold allocR allocL at *
  simp only [if_neg hz] at hE ⊢
  cases hp : pickB (classN s) bs with
  | none => rw [hp] at hE; cases hE
  | some n =>
    obtain ⟨hn, hc, hr⟩ := pickB_lt hp
    clear hE hp
    generalize classN s = k at *
    have hOx := hO _ (List.getElem_mem hn)
    obtain ⟨hpk, hb, _⟩ := take_spec hOx hk hc hr
    show Got bs (bs.set n (takeB (bs.getD n bk0) k)) (n * 16 + placeN (bs.getD n bk0).t * k) k
    rw [getD_at hn]
    obtain ⟨hm1, hm2, hm3⟩ := mul_cls hk hpk
    have hcd : (n * 16 + placeN bs[n].t * k) / 16 = n := by have := hk.pos; omega
    have hcm : (n * 16 + placeN bs[n].t * k) % 16 = placeN bs[n].t * k := by have := hk.pos; omega
    have h0 : k ≠ 0 := by have := hk.pos; omega
    refine ⟨by rw [hcm]; exact hm1, by omega, ?_, ?_, fun d hd => ?_, fun d hd => ?_⟩
    · rw [atB_in (by rw [hcd]; exact hn)]
      have e : bs[(n * 16 + placeN bs[n].t * k) / 16]'(by rw [hcd]; exact hn) = bs[n] := by congr 1
      rw [e, hcm]
      rcases hc with hc | hc
      · rw [atN_bit (by rw [hc]; exact h0) (by rw [hc]; exact hm2), hc, hm3, hb]
        rfl
      · exact atN_zero hc
    · rw [atB_same hn hcd, hcm, atN_bit (x := takeB bs[n] k) h0 hm2]
      show (if (bs[n].t ||| 2 ^ placeN bs[n].t).testBit (placeN bs[n].t * k / k) then k else 0) = k
      rw [hm3, orP_bit]
      simp
    · by_cases hdn : d / 16 = n
      · rw [atB_same hn hdn, atB_in (by rw [hdn]; exact hn)]
        have e : bs[d / 16]'(by rw [hdn]; exact hn) = bs[n] := by congr 1
        rw [e]
        exact atN_take hOx hk hc (Nat.mod_lt _ (by decide)) (by omega)
      · exact atB_set hdn
    · obtain ⟨_, hm, hcm0, hcls, hrem, hbit⟩ := atB_some hd
      simp only [Int.toNat_natCast] at hm hcm0 hcls hrem hbit
      have hIs : IsC bs[d / 16].c := by
        rcases hO _ (List.getElem_mem hm) with ⟨h, _⟩ | ⟨h, _⟩
        · exact absurd h hcm0
        · exact h
      have hin := div_cls hIs (Nat.mod_lt d (by decide)) hrem
      have hmc := mul_cls hIs hin.1
      rw [← hin.2] at hmc
      rw [hcls]
      by_cases hdn : d / 16 = n
      · have e : bs[d / 16] = bs[n] := by congr 1
        rw [e] at hcm0 hrem hbit hin hmc ⊢
        have hck : bs[n].c = k := by omega
        rw [hck] at hrem hbit hin hmc ⊢
        have hne : d % 16 / k ≠ placeN bs[n].t := fun e => by rw [e, hb] at hbit; cases hbit
        have := far_cls hk hne
        rw [← hin.2] at this
        omega
      · omega

/-- What Free does to places. -/
theorem free_spec {bs : List Bk} {c : Nat} (hO : AO bs) (h : atB bs (c : Int) ≠ 0) : freeR bs (c : Int) = 0 ∧ atB (freeL bs (c : Int)) (c : Int) = 0 ∧ ∀ d : Nat, d ≠ c → atB (freeL bs (c : Int)) (d : Int) = atB bs (d : Int) := by
  obtain ⟨_, hn, hc0, hcls, hrem, hbit⟩ := atB_some h
  simp only [Int.toNat_natCast] at hn hc0 hcls hrem hbit
  unfold freeR freeL
  rw [if_neg h, if_neg h, Int.toNat_natCast, getD_at hn]
  have hOx := hO _ (List.getElem_mem hn)
  have hlt := hOx.lt
  have hIs : IsC bs[c / 16].c := by
    rcases hOx with ⟨h, _⟩ | ⟨h, _⟩
    · exact absurd h hc0
    · exact h
  obtain ⟨hq, hqe⟩ := div_cls hIs (Nat.mod_lt c (by decide)) hrem
  have hq16 : c % 16 / bs[c / 16].c < 16 := Nat.lt_of_lt_of_le hq (Nat.div_le_self _ _)
  have key : ∀ j, j < 16 → atN (dropN bs[c / 16] (c % 16)) j = if j = c % 16 then 0 else atN bs[c / 16] j := by
    intro j hj
    by_cases hr : j % bs[c / 16].c = 0
    · obtain ⟨hqj, hqje⟩ := div_cls hIs hj hr
      have hqj16 : j / bs[c / 16].c < 16 := Nat.lt_of_lt_of_le hqj (Nat.div_le_self _ _)
      have ho := offN_bit bs[c / 16].t (c % 16 / bs[c / 16].c) (j / bs[c / 16].c) hlt (by omega)
      have heq : (j = c % 16) ↔ (j / bs[c / 16].c = c % 16 / bs[c / 16].c) := ⟨fun e => by rw [e], fun e => by rw [hqje, e, ← hqe]⟩
      rw [atN_bit hc0 hr]
      unfold dropN
      split
      · next hz =>
        rw [hz] at ho
        rw [atN_zero rfl]
        by_cases hjc : j = c % 16
        · rw [if_pos hjc]
        · rw [if_neg hjc]
          have hne : j / bs[c / 16].c ≠ c % 16 / bs[c / 16].c := fun e => hjc (heq.2 e)
          simp [hne] at ho
          rw [ho]
          rfl
      · next hz =>
        rw [atN_bit (x := ⟨bs[c / 16].c, offN bs[c / 16].t (c % 16 / bs[c / 16].c)⟩) hc0 hr]
        show (if (offN bs[c / 16].t (c % 16 / bs[c / 16].c)).testBit (j / bs[c / 16].c) then bs[c / 16].c else 0) = _
        rw [ho]
        by_cases hjc : j = c % 16
        · have := heq.1 hjc
          rw [if_pos hjc, this]
          simp
        · have hne : j / bs[c / 16].c ≠ c % 16 / bs[c / 16].c := fun e => hjc (heq.2 e)
          rw [if_neg hjc]
          simp [hne]
    · have hjc : j ≠ c % 16 := fun e => by rw [e] at hr; exact hr hrem
      rw [if_neg hjc, atN_rem hr]
      unfold dropN
      split
      · exact atN_zero rfl
      · exact atN_rem (x := ⟨bs[c / 16].c, offN bs[c / 16].t (c % 16 / bs[c / 16].c)⟩) hr
  refine ⟨rfl, ?_, fun d hd => ?_⟩
  · rw [atB_same hn rfl, key _ (Nat.mod_lt _ (by decide)), if_pos rfl]
  · by_cases hdn : d / 16 = c / 16
    · rw [atB_same hn hdn, key _ (Nat.mod_lt _ (by decide)), if_neg (by omega), atB_in (by rw [hdn]; exact hn)]
      congr 1
      congr 1
      exact hdn.symm
    · exact atB_set hdn
theorem free_none {bs : List Bk} {i : Int} (h : atB bs i = 0) : freeR bs i = 9 ∧ freeL bs i = bs := by
  unfold freeR freeL
  rw [if_pos h, if_pos h]
  exact ⟨rfl, rfl⟩
/-- Where nothing is taken all blocks are free. -/
theorem all_free {bs : List Bk} (hO : AO bs) (h : ∀ c : Nat, atB bs (c : Int) = 0) : bs = List.replicate bs.length bk0 := by
  rw [List.eq_replicate_iff]
  refine ⟨rfl, fun x hx => ?_⟩
  obtain ⟨n, hn, rfl⟩ := List.mem_iff_getElem.1 hx
  rcases hO _ hx with ⟨h1, h2⟩ | ⟨h1, h2, h3⟩
  · cases hb : bs[n] with
    | mk c t =>
      rw [hb] at h1 h2
      simp only at h1 h2
      subst h1 h2
      rfl
  · exfalso
    obtain ⟨i, hi⟩ := Nat.exists_testBit_of_ne_zero (show bs[n].t ≠ 0 by omega)
    have hilt : i < 16 / bs[n].c := by
      apply Nat.lt_of_not_le
      intro hle
      rw [Nat.testBit_lt_two_pow (Nat.lt_of_lt_of_le h3 (Nat.pow_le_pow_right (by decide) hle))] at hi
      cases hi
    obtain ⟨hm1, hm2, hm3⟩ := mul_cls h1 hilt
    have hp := h1.pos
    have hd : (n * 16 + i * bs[n].c) / 16 = n := by omega
    have hmm : (n * 16 + i * bs[n].c) % 16 = i * bs[n].c := by omega
    have h4 := h (n * 16 + i * bs[n].c)
    rw [atB_in (by rw [hd]; exact hn)] at h4
    have e : bs[(n * 16 + i * bs[n].c) / 16]'(by rw [hd]; exact hn) = bs[n] := by congr 1
    rw [e, hmm, atN_bit (by omega) hm2, hm3, hi] at h4
    simp at h4
    omega

end Go.Proofs.YtdafpfdmnccelaaDoor

namespace Go.Proofs.YtdafpfdmnccelaaDoor
open Go.RowKit

/-- The plain arena of the blocks bs: at rb, its classes at rc, its places at rt. -/
structure RA (w : World) (rb rc rt : Nat) (bs : List Bk) : Prop where
  len : bs.length ≤ 256
  box : w.heap[rb]? = some (.cells #[.slice (some ⟨rc, 0, none⟩) bs.length bs.length, .slice (some ⟨rt, 0, none⟩) bs.length bs.length] 149 (0, 0))
  cls : Row w rc 3 (bs.map cV)
  tkn : ∃ cs, w.heap[rt]? = some (.cells cs 150 (0, 0)) ∧ cs.size = bs.length * 16 ∧ ∀ i (hi : i < bs.length) j, j < 16 → cs[i * 16 + j]? = some (.bool (bs[i].t.testBit j))
  ne : rb ≠ rc ∧ rb ≠ rt ∧ rc ≠ rt
section
variable {w w' : World} {rb rc rt : Nat} {bs : List Bk} {S : Nat → Prop}
theorem RA.lt (h : RA w rb rc rt bs) : rb < w.heap.size ∧ rc < w.heap.size ∧ rt < w.heap.size := by
  obtain ⟨cs, h1, _⟩ := h.tkn
  exact ⟨(Array.getElem?_eq_some_iff.1 h.box).1, h.cls.lt, (Array.getElem?_eq_some_iff.1 h1).1⟩
theorem RA.kept (h : RA w rb rc rt bs) (hk : Kept w w' S) (h1 : ¬ S rb) (h2 : ¬ S rc) (h3 : ¬ S rt) : RA w' rb rc rt bs := by
  obtain ⟨cs, h4, h5⟩ := h.tkn
  obtain ⟨l1, l2, l3⟩ := h.lt
  exact ⟨h.len, (hk.block rb l1 h1).trans h.box, h.cls.kept hk h2, ⟨cs, (hk.block rt l3 h3).trans h4, h5⟩, h.ne⟩
theorem RA.below (h : RA w rb rc rt bs) (hb : Below w.heap.size w w') : RA w' rb rc rt bs := h.kept (kept_of_below hb (fun _ => False)) id id id
theorem RA.c0 (h : RA w rb rc rt bs) : w.cell? ⟨rb, 0, none⟩ = some (.slice (some ⟨rc, 0, none⟩) bs.length bs.length) := cell_of_row w rb 0 _ _ _ h.box
theorem RA.c1 (h : RA w rb rc rt bs) : w.cell? ⟨rb, 1, none⟩ = some (.slice (some ⟨rt, 0, none⟩) bs.length bs.length) := cell_of_row w rb 1 _ _ _ h.box
theorem RA.cl (h : RA w rb rc rt bs) (i : Nat) (hi : i < bs.length) : w.cell? ⟨rc, i, none⟩ = some (.int .i64 (bs[i].c : Int)) := by
  rw [h.cls.cell i (by simpa using hi), List.getElem_map]
  rfl
theorem RA.bit (h : RA w rb rc rt bs) (i j : Nat) (hi : i < bs.length) (hj : j < 16) : w.cell? ⟨rt, i * 16 + j, none⟩ = some (.bool (bs[i].t.testBit j)) := by
  obtain ⟨cs, h1, _, h2⟩ := h.tkn
  rw [cell_of_row w rt _ _ _ _ h1, h2 i hi j hj]
theorem RA.fc (h : RA w rb rc rt bs) (j : Nat) : w.frozen? ⟨rc, j, none⟩ = false := h.cls.frozen j
theorem RA.ft (h : RA w rb rc rt bs) (j : Nat) : w.frozen? ⟨rt, j, none⟩ = false := by
  obtain ⟨cs, h1, _⟩ := h.tkn
  exact frozen_of_row w rt j _ _ h1
end

theorem Tryd.infoBools : (Tryd.prog.info? 150).map (fun i => (i.zero, i.size, i.bytes)) = some (some (.agg (List.replicate 16 (.bool false)).toArray), 16, 16) := by kernel_rfl

theorem made_bools (n : Nat) : ∀ i, i < n * 16 → (madeCells (Value.agg (List.replicate 16 (Value.bool false)).toArray).cells (n * 16))[i]? = some (.bool false) := by
  intro i hi
  show ((Array.range (n * 16)).map ((List.replicate 16 (Value.bool false)).toArray[· % 16]!))[i]? = _
  rw [Array.getElem?_map, Array.getElem?_range, if_pos hi]
  simp only [Option.map_some, Option.some.injEq]
  have : i % 16 < 16 := Nat.mod_lt _ (by decide)
  rw [getElem!_pos (List.replicate 16 (Value.bool false)).toArray (i % 16) (by simpa using this), List.getElem_toArray, List.getElem_replicate]
theorem made_ints (n : Nat) : madeCells (Value.int .i64 0).cells (n * 1) = (List.replicate n (Value.int .i64 0)).toArray := by
  rw [Nat.mul_one, show (Value.int .i64 0).cells = #[Value.int .i64 0] from rfl]
  apply Array.ext'
  rw [toList_madeCells_one]
theorem RA.make {w : World} {rb rc rt n : Nat} {Z2 : Array Value} (h2 : n ≤ 256) (h0 : w.heap[rb]? = some (.cells #[.slice (some ⟨rc, 0, none⟩) n n, .slice (some ⟨rt, 0, none⟩) n n] 149 (0, 0))) (h1 : w.heap[rc]? = some (.cells (List.replicate n (Value.int .i64 0)).toArray 3 (0, 0)))
    (h3 : w.heap[rt]? = some (.cells Z2 150 (0, 0))) (hs : Z2.size = n * 16) (hz : ∀ i, i < n * 16 → Z2[i]? = some (.bool false)) (hne : rb ≠ rc ∧ rb ≠ rt ∧ rc ≠ rt) : RA w rb rc rt (List.replicate n bk0) := by
  refine ⟨by simpa using h2, by simpa using h0, ?_, ⟨Z2, h3, by simpa using hs, fun i hi j hj => ?_⟩, hne⟩
  · unfold Row
    rw [List.map_replicate]
    exact h1
  · rw [List.length_replicate] at hi
    rw [hz _ (by omega), List.getElem_replicate]
    simp [bk0]
theorem a3_0 (w : World) (a b c : Obj) : (((w.alloc a).alloc b).alloc c).drew.heap[w.heap.size]? = some a := by
  show (((w.alloc a).alloc b).alloc c).heap[w.heap.size]? = some a
  rw [Below.heap_alloc _ _ _ (by simp; omega), Below.heap_alloc _ _ _ (by simp)]
  exact heap_alloc_new _ _
theorem a3_1 (w : World) (a b c : Obj) : (((w.alloc a).alloc b).alloc c).drew.heap[w.heap.size + 1]? = some b := by
  show (((w.alloc a).alloc b).alloc c).heap[w.heap.size + 1]? = some b
  rw [Below.heap_alloc _ _ _ (by simp)]
  have e : (w.alloc a).heap.size = w.heap.size + 1 := by simp
  rw [← e]
  exact heap_alloc_new _ _
theorem a3_2 (w : World) (a b c : Obj) : (((w.alloc a).alloc b).alloc c).drew.heap[w.heap.size + 1 + 1]? = some c := by
  show (((w.alloc a).alloc b).alloc c).heap[w.heap.size + 1 + 1]? = some c
  have e : ((w.alloc a).alloc b).heap.size = w.heap.size + 1 + 1 := by simp
  rw [← e]
  exact heap_alloc_new _ _
theorem a3_b (w : World) (a b c : Obj) : Below w.heap.size w (((w.alloc a).alloc b).alloc c).drew :=
  ((((Below.refl _ _).alloc (Nat.le_refl _) a).alloc (by simp) b).alloc (by simp; omega) c).drew

set_option maxRecDepth 20000 in
set_option maxHeartbeats 1000000 in
theorem rnew_any (n : Nat) (h1 : 1 ≤ n) (h2 : n ≤ 256) (w : World) :
    Calls Tryd.prog 62 #[.int .i64 ((16 * n : Nat) : Int)] w fun e w' => ∃ rb rc rt, e = .returned (.pointer (some ⟨rb, 0, none⟩)) ∧ RA w' rb rc rt (List.replicate n bk0) ∧ Below w.heap.size w w' ∧ w.heap.size ≤ rb ∧ w.heap.size ≤ rc ∧ w.heap.size ≤ rt := by
  have e1 : ((16 * n : Nat) : Int) = 16 * (n : Int) := by omega
  have hq : (16 * (n : Int)) / 16 = (n : Int) := by omega
  rw [e1]
  obtain ⟨i, hi, hz0, hz1, hz2⟩ := info_parts Tryd.infoInt
  obtain ⟨i2, hi2, hy0, hy1, hy2⟩ := info_parts Tryd.infoBools
  have hm1 : ∀ W : World, (Instr.makeSlice 27 (.int .i64 (n : Int)) (.int .i64 (n : Int))).run Tryd.prog W = .ok (.slice (some ⟨W.heap.size, 0, none⟩) n n) (W.alloc (.cells (madeCells (Value.int .i64 0).cells (n * 1)) 3)) := fun W => by
    have := run_make (P := Tryd.prog) W 27 3 i _ Tryd.underlying27 hi hz0 .i64 .i64 (n : Int) (n : Int) (by omega) (Int.le_refl _) (by rw [hz2]; omega) (by omega)
    rw [hz1] at this
    exact this
  have hm2 : ∀ W : World, (Instr.makeSlice 147 (.int .i64 (n : Int)) (.int .i64 (n : Int))).run Tryd.prog W = .ok (.slice (some ⟨W.heap.size, 0, none⟩) n n) (W.alloc (.cells (madeCells (Value.agg (List.replicate 16 (.bool false)).toArray).cells (n * 16)) 150)) := fun W => by
    have := run_make (P := Tryd.prog) W 147 150 i2 _ Tryd.underlying147 hi2 hy0 .i64 .i64 (n : Int) (n : Int) (by omega) (Int.le_refl _) (by rw [hy2]; omega) (by omega)
    rw [hy1] at this
    exact this
  rw [made_ints] at hm1
  have HS2 : Hid ((madeCells (Value.agg (List.replicate 16 (Value.bool false)).toArray).cells (n * 16)).size = n * 16) := size_madeCells _ _
  have HZ2 : Hid (∀ i, i < n * 16 → (madeCells (Value.agg (List.replicate 16 (Value.bool false)).toArray).cells (n * 16))[i]? = some (.bool false)) := made_bools n
  obtain ⟨Z1, HZ1⟩ : ∃ Z1, Hid ((List.replicate n (Value.int .i64 0)).toArray = Z1) := ⟨_, rfl⟩
  rw [HZ1.out] at hm1
  generalize madeCells (Value.agg (List.replicate 16 (.bool false)).toArray).cells (n * 16) = Z2 at *
  clear hi hz0 hz1 hz2 hi2 hy0 hy1 hy2
  go_enter Tryd.func62, Tryd.ntmps62
  go_wp2
  go_region
  · go_wp2
    go_ret
    refine ⟨_, _, _, rfl, RA.make h2 (a3_2 _ _ _ _) ?_ (a3_1 _ _ _ _) HS2.out HZ2.out ⟨by omega, by omega, by omega⟩, a3_b _ _ _ _, by omega, by omega, by omega⟩
    rw [HZ1.out]
    exact a3_0 _ _ _ _
  · go_wp2
    go_ret
    refine ⟨_, _, _, rfl, RA.make h2 (a3_2 _ _ _ _) ?_ (a3_0 _ _ _ _) HS2.out HZ2.out ⟨by omega, by omega, by omega⟩, a3_b _ _ _ _, by omega, by omega, by omega⟩
    rw [HZ1.out]
    exact a3_1 _ _ _ _

set_option maxRecDepth 20000 in
set_option maxHeartbeats 1000000 in
theorem rat_any (rb rc rt : Nat) (bs : List Bk) (i : Int) (hi : i ≤ 9223372036854775807) (w : World) (h : RA w rb rc rt bs) :
    Calls Tryd.prog 76 #[.pointer (some ⟨rb, 0, none⟩), .int .i64 i] w fun e w' => e = .returned (.int .i64 (atB bs i : Nat)) ∧ Below w.heap.size w w' := by
  unfold atB
  have hl : bs.length ≤ 256 := h.len
  have c0 := h.c0
  have c1 := h.c1
  by_cases h1 : i < 0
  · rw [if_pos (Or.inl h1)]
    go_enter Tryd.func76, Tryd.ntmps76
    go_wp2
    go_ret
    exact ⟨rfl, Below.refl _ _⟩
  obtain ⟨c, rfl⟩ : ∃ c : Nat, i = (c : Int) := ⟨i.toNat, by omega⟩
  have hq : (c : Int) / 16 = ((c / 16 : Nat) : Int) := by omega
  have hm : (c : Int) % 16 = ((c % 16 : Nat) : Int) := by omega
  by_cases h2 : (bs.length * 16 : Int) ≤ c
  · rw [if_pos (Or.inr h2)]
    have h3 : (bs.length : Int) ≤ ((c / 16 : Nat) : Int) := by omega
    have h4 : c / 16 ≤ 9223372036854775807 := by omega
    generalize c / 16 = n at *
    clear h2
    go_enter Tryd.func76, Tryd.ntmps76
    go_wp2
    go_ret
    exact ⟨rfl, Below.refl _ _⟩
  rw [if_neg (by omega)]
  simp only [Int.toNat_natCast]
  have hn : c / 16 < bs.length := by omega
  have hr : c % 16 < 16 := by omega
  rw [getD_at hn]
  have d0 := h.cl (c / 16) hn
  have d1 := fun j hj => h.bit (c / 16) j hn hj
  have hni : ((c / 16 : Nat) : Int) < (bs.length : Int) := by omega
  generalize bs[c / 16] = x at *
  generalize c / 16 = n at *
  generalize c % 16 = r at *
  clear h2
  unfold atN
  by_cases h0 : x.c = 0
  · rw [if_pos (Or.inl h0)]
    have e0 : ((x.c : Int) == 0) = true := by rw [beq_iff_eq]; omega
    go_enter Tryd.func76, Tryd.ntmps76
    go_wp2
    go_quiet (fail)
    go_wp2
    go_ret
    exact ⟨rfl, below_drewN0 _ _⟩
  have e0 : ((x.c : Int) == 0) = false := by rw [beq_eq_false_iff_ne]; omega
  have hmt : Int.tmod (r : Int) (x.c : Int) = ((r % x.c : Nat) : Int) := by rfl
  have hqt : Int.tdiv (r : Int) (x.c : Int) = ((r / x.c : Nat) : Int) := by rfl
  by_cases h3 : r % x.c = 0
  · have hmt : Int.tmod (r : Int) (x.c : Int) = 0 := by rw [hmt, h3]; rfl
    have hql : r / x.c < 16 := Nat.lt_of_le_of_lt (Nat.div_le_self _ _) hr
    have d2 := d1 (r / x.c) hql
    have hqi : ((r / x.c : Nat) : Int) < 16 := by omega
    generalize hQ : r / x.c = q at *
    clear d1 hQ
    by_cases hb : x.t.testBit q = false
    · rw [if_pos (Or.inr (Or.inr hb))]
      rw [hb] at d2
      clear hb
      go_enter Tryd.func76, Tryd.ntmps76
      go_wp2
      go_quiet (fail)
      go_wp2
      go_ret
      exact ⟨rfl, below_drewN0 _ _⟩
    · rw [if_neg (fun h => h.elim h0 (fun h => h.elim (fun h => h h3) hb))]
      rw [show x.t.testBit q = true by simpa using hb] at d2
      clear hb
      go_enter Tryd.func76, Tryd.ntmps76
      go_wp2
      go_quiet (fail)
      go_wp2
      go_ret
      exact ⟨rfl, below_drewN0 _ _⟩
  · rw [if_pos (Or.inr (Or.inl h3))]
    have hne : (((r : Int) % (x.c : Int)) != 0) = true := by
      rw [bne_iff_ne, ← Int.natCast_emod]
      omega
    clear d1
    go_enter Tryd.func76, Tryd.ntmps76
    go_wp2
    go_quiet (fail)
    go_wp2
    go_ret
    exact ⟨rfl, below_drewN0 _ _⟩

end Go.Proofs.YtdafpfdmnccelaaDoor

namespace Go.Proofs.YtdafpfdmnccelaaDoor
open Go.RowKit

/-- How many of the first n bits are set. -/
def cnt (t n : Nat) : Nat := (List.range n).countP (fun i => t.testBit i)
theorem cnt_le (t n : Nat) : cnt t n ≤ n := Nat.le_trans List.countP_le_length (by simp)
theorem cnt_yes {t n : Nat} (h : t.testBit n = true) : cnt t (n + 1) = cnt t n + 1 := by
  unfold cnt
  rw [List.range_succ, List.countP_append]
  simp [h]
theorem cnt_no {t n : Nat} (h : t.testBit n = false) : cnt t (n + 1) = cnt t n := by
  unfold cnt
  rw [List.range_succ, List.countP_append]
  simp [h]
theorem cnt_pc {t n : Nat} (hn : n ≤ 16) (h : t < 2 ^ n) : cnt t n = pc t := by
  have e : pc t = Lib.popAux 16 t := (popAux_eq 16 t).symm
  rw [e, popAux_small n 16 t h hn, popAux_eq]
  rfl

/-- How many of the first j places of class k can be taken. -/
def rcnt (x : Bk) (k j : Nat) : Nat := if x.c = 0 then j else if x.c = k then j - cnt x.t j else 0
theorem rcnt_le (x : Bk) (k j : Nat) : rcnt x k j ≤ j := by
  unfold rcnt
  split
  · omega
  · split <;> omega
theorem rcnt_room {x : Bk} {k : Nat} (hO : x.Ok) : rcnt x k (16 / k) = roomN x k := by
  unfold rcnt roomN
  by_cases h0 : x.c = 0
  · rw [if_pos h0, if_pos (Or.inl h0)]
    have ht : x.t = 0 := by
      rcases hO with ⟨_, h⟩ | ⟨h, _⟩
      · exact h
      · have := h.pos; omega
    rw [ht, pc_zero, Nat.sub_zero]
  · rw [if_neg h0]
    by_cases h1 : x.c = k
    · rw [if_pos h1, if_pos (Or.inr h1)]
      rcases hO with ⟨h, _⟩ | ⟨_, _, h⟩
      · exact absurd h h0
      · rw [h1] at h
        rw [cnt_pc (Nat.div_le_self _ _) h]
    · rw [if_neg h1, if_neg (fun e => e.elim h0 h1)]


end Go.Proofs.YtdafpfdmnccelaaDoor
