import Derived.Test.YtdafpfdmnccelaaDoorArMP
import Derived.Test.YtdafpfdmnccelaaDoorArGP
/- What is reckoned of bits: taking and dropping a place. No program's text is in it. -/
/- Blocks, and the law's own example. -/
namespace Go.Proofs.YtdafpfdmnccelaaDoor

/-- placeN is the first bit that is not set. -/
theorem placeN_spec (t : Nat) (ht : t < 65536) : t.testBit (placeN t) = false ∧ (∀ j, j < placeN t → t.testBit j = true) ∧ placeN t ≤ 16 := by
  have hy : 4294967295 - t < 2 ^ 32 := by omega
  obtain ⟨m, hm, hk⟩ := Lib.ctzFrom_spec 32 (4294967295 - t) (by omega) hy
  have e : placeN t = Lib.ctzFrom 32 (4294967295 - t) := by
    unfold placeN Lib.ctz
    rw [if_neg (by omega)]
  rw [← e] at hm hk
  have hb : ∀ j, j < 32 → t.testBit j = !(4294967295 - t).testBit j := by
    intro j hj
    have h := Nat.testBit_two_pow_sub_succ (x := t) (n := 32) (by omega) j
    rw [show 2 ^ 32 - (t + 1) = 4294967295 - t by omega] at h
    rw [h]
    simp [hj]
  have hs : (4294967295 - t).testBit (placeN t) = true := by
    rw [hm, Nat.mul_comm, Nat.testBit_mul_two_pow]
    simp
  have hl : ∀ j, j < placeN t → (4294967295 - t).testBit j = false := by
    intro j hj
    rw [hm, Nat.mul_comm, Nat.testBit_mul_two_pow]
    simp; omega
  refine ⟨by rw [hb _ hk, hs]; rfl, fun j hj => by rw [hb j (by omega), hl j hj]; rfl, ?_⟩
  apply Nat.le_of_not_lt
  intro hlt
  have h1 := hl 16 hlt
  have h2 := hb 16 (by omega)
  rw [h1, Nat.testBit_lt_two_pow (by omega)] at h2
  cases h2
theorem offN_bit (t p i : Nat) (ht : t < 65536) (hp : p < 32) : (offN t p).testBit i = (t.testBit i && decide (i ≠ p)) := by
  unfold offN
  have hpw : 2 ^ p < 2 ^ 32 := Nat.pow_lt_pow_right (by decide) hp
  rw [Nat.testBit_and]
  by_cases hi : i < 32
  · have h := Nat.testBit_two_pow_sub_succ (x := 2 ^ p) (n := 32) hpw i
    rw [show 2 ^ 32 - (2 ^ p + 1) = 4294967295 - 2 ^ p by rw [show (2 : Nat) ^ 32 = 4294967296 from rfl]; omega] at h
    rw [h, Nat.testBit_two_pow]
    by_cases e : p = i
    · subst e; simp
    · have e' : i ≠ p := fun h => e h.symm
      simp [e, e', hi]
  · have : t < 2 ^ i := Nat.lt_of_lt_of_le ht (Nat.le_trans (by decide : 65536 ≤ 2 ^ 32) (Nat.pow_le_pow_right (by decide) (by omega)))
    rw [Nat.testBit_lt_two_pow this]
    rfl
theorem orP_bit (t p i : Nat) : (t ||| 2 ^ p).testBit i = (t.testBit i || decide (i = p)) := by
  rw [Nat.testBit_or, Nat.testBit_two_pow]
  by_cases e : p = i
  · subst e; simp
  · have e' : ¬ i = p := fun h => e h.symm
    simp [e, e']

/-- Counting one more. -/
theorem countP_one {p q : Nat → Bool} {j : Nat} : ∀ n, j < n → (∀ i, i < n → i ≠ j → p i = q i) → p j = false → q j = true → (List.range n).countP q = (List.range n).countP p + 1 := by
  intro n
  induction n with
  | zero => intro h; omega
  | succ n ih =>
    intro hj h h1 h2
    rw [List.range_succ, List.countP_append, List.countP_append]
    by_cases e : j = n
    · subst e
      have : (List.range j).countP q = (List.range j).countP p := List.countP_congr (fun i hi => by
        have hi' : i < j := by simpa using hi
        rw [h i (by omega) (by omega)])
      rw [this]
      simp [h1, h2]
    · rw [ih (by omega) (fun i hi hne => h i (by omega) hne) h1 h2]
      have : q n = p n := (h n (by omega) (fun e2 => e e2.symm)).symm
      simp [this]
      omega
theorem pc_or (t p : Nat) (hp : p < 16) (h : t.testBit p = false) : pc (t ||| 2 ^ p) = pc t + 1 := by
  unfold pc
  refine countP_one (j := p) 16 hp (fun i _ hne => ?_) h ?_
  · simp only [orP_bit]
    simp [hne]
  · simp
theorem pc_off (t p : Nat) (ht : t < 65536) (hp : p < 16) (h : t.testBit p = true) : pc (offN t p) + 1 = pc t := by
  unfold pc
  refine (countP_one (j := p) 16 hp (fun i _ hne => ?_) ?_ h).symm
  · simp only [offN_bit t p _ ht (by omega)]
    simp [hne]
  · simp [offN_bit t p _ ht (by omega)]
theorem pc_pos {t : Nat} (ht : t < 65536) (h : t ≠ 0) : 0 < pc t := by
  unfold pc
  rw [List.countP_pos_iff]
  obtain ⟨i, hi⟩ := Nat.exists_testBit_of_ne_zero h
  refine ⟨i, ?_, hi⟩
  rw [List.mem_range]
  apply Nat.lt_of_not_le
  intro hle
  have : t < 2 ^ i := Nat.lt_of_lt_of_le ht (Nat.le_trans (by decide : 65536 ≤ 2 ^ 16) (Nat.pow_le_pow_right (by decide) hle))
  rw [Nat.testBit_lt_two_pow this] at hi
  cases hi
/-- Where a place is free among the first n. -/
theorem place_room (t n : Nat) (hn : n ≤ 16) (h : t < 2 ^ n) (hp : pc t < n) : placeN t < n := by
  have ht : t < 65536 := Nat.lt_of_lt_of_le h (Nat.le_trans (Nat.pow_le_pow_right (by decide) hn) (by decide))
  obtain ⟨h1, h2, h3⟩ := placeN_spec t ht
  apply Nat.lt_of_not_le
  intro hle
  have e : pc t = Lib.popAux 16 t := (popAux_eq 16 t).symm
  rw [e, popAux_small n 16 t h hn, popAux_eq] at hp
  have hall : (List.range n).countP (fun i => t.testBit i) = (List.range n).length := by
    rw [List.countP_eq_length]
    intro i hi
    have : i < n := by simpa using hi
    exact h2 i (by omega)
  rw [hall] at hp
  simp at hp
theorem or_lt (t p n : Nat) (h : t < 2 ^ n) (hp : p < n) : t ||| 2 ^ p < 2 ^ n := Nat.or_lt_two_pow h (Nat.pow_lt_pow_right (by decide) hp)

theorem isC_div {k : Nat} (h : IsC k) : 1 ≤ 16 / k ∧ 16 / k * k = 16 := by rcases h with rfl | rfl | rfl | rfl | rfl <;> decide
theorem IsC.pos {k : Nat} (h : IsC k) : 0 < k := by unfold IsC at h; omega

/-- A block with room: its first free place, and what it is behind that is taken. -/
theorem take_spec {x : Bk} {k : Nat} (hO : x.Ok) (hk : IsC k) (hc : x.c = k ∨ x.c = 0) (hr : 0 < roomN x k) :
    placeN x.t < 16 / k ∧ x.t.testBit (placeN x.t) = false ∧ x.t < 2 ^ (16 / k) ∧ (takeB x k).Ok ∧ pc (takeB x k).t = pc x.t + 1 ∧ roomN (takeB x k) k + 1 = roomN x k := by
  have hlt := hO.lt
  have hd : 16 / k ≤ 16 := Nat.div_le_self _ _
  have hx : x.t < 2 ^ (16 / k) := by
    rcases hO with ⟨_, h2⟩ | ⟨h1, _, h2⟩
    · rw [h2]; exact Nat.two_pow_pos _
    · have : x.c = k := by rcases hc with e | e; { exact e }; { have := h1.pos; omega }
      rw [← this]; exact h2
  have hrm : roomN x k = 16 / k - pc x.t := by unfold roomN; rw [if_pos (by omega)]
  rw [hrm] at hr
  have hp := place_room x.t (16 / k) hd hx (by omega)
  obtain ⟨hb, _, _⟩ := placeN_spec x.t hlt
  have hpc := pc_or x.t (placeN x.t) (by omega) hb
  refine ⟨hp, hb, hx, Or.inr ⟨hk, ?_, or_lt _ _ _ hx hp⟩, hpc, ?_⟩
  · apply Nat.pos_of_ne_zero
    intro e
    have : (x.t ||| 2 ^ placeN x.t).testBit (placeN x.t) = true := by simp
    have e' : (x.t ||| 2 ^ placeN x.t) = 0 := e
    rw [e'] at this
    simp at this
  · have : roomN (takeB x k) k = 16 / k - pc (takeB x k).t := by unfold roomN; exact if_pos (Or.inr rfl)
    rw [this, hrm]
    have : pc (takeB x k).t = pc x.t + 1 := hpc
    omega

theorem AO.set {bs : List Bk} (h : AO bs) (n : Nat) (x : Bk) (hx : x.Ok) : AO (bs.set n x) := by
  intro y hy
  rcases List.mem_or_eq_of_mem_set hy with h1 | h1
  · exact h y h1
  · rw [h1]; exact hx
theorem AO.new (n : Nat) : AO (List.replicate n bk0) := by
  intro y hy
  rw [List.eq_of_mem_replicate hy]
  exact Or.inl ⟨rfl, rfl⟩
theorem AO.alloc {bs : List Bk} (h : AO bs) (s : Int) : AO (allocL bs s) := by
  unfold allocL
  split
  · exact h
  · next hz =>
    cases hp : pickB (classN s) bs with
    | none => exact h
    | some n =>
      obtain ⟨hn, hc, hr⟩ := pickB_lt hp
      simp only [getD_at hn]
      exact h.set n _ (take_spec (h _ (List.getElem_mem hn)) (classN_ne hz) hc hr).2.2.2.1
theorem drop_ok {x : Bk} (h : x.Ok) (i : Nat) (hc : x.c ≠ 0) : (dropN x i).Ok := by
  unfold dropN
  split
  · exact Or.inl ⟨rfl, rfl⟩
  · next hz =>
    rcases h with ⟨h1, _⟩ | ⟨h1, h2, h3⟩
    · exact absurd h1 hc
    · exact Or.inr ⟨h1, Nat.pos_of_ne_zero hz, Nat.lt_of_le_of_lt Nat.and_le_left h3⟩
theorem atB_some {bs : List Bk} {i : Int} (h : atB bs i ≠ 0) : 0 ≤ i ∧ ∃ hn : i.toNat / 16 < bs.length, bs[i.toNat / 16].c ≠ 0 ∧ atB bs i = bs[i.toNat / 16].c ∧ i.toNat % 16 % bs[i.toNat / 16].c = 0 ∧ bs[i.toNat / 16].t.testBit (i.toNat % 16 / bs[i.toNat / 16].c) = true := by
  unfold atB at h ⊢
  split at h
  · exact absurd rfl h
  · next h1 =>
    have hn : i.toNat / 16 < bs.length := by omega
    rw [getD_at hn] at h
    unfold atN at h
    split at h
    · exact absurd rfl h
    · next h2 =>
      simp only [not_or, Decidable.not_not, Bool.not_eq_false] at h2
      refine ⟨by omega, hn, h2.1, ?_, h2.2.1, h2.2.2⟩
      rw [if_neg h1, getD_at hn]
      unfold atN
      rw [if_neg (by simp only [not_or, Decidable.not_not, Bool.not_eq_false]; exact h2)]
theorem AO.free {bs : List Bk} (h : AO bs) (i : Int) : AO (freeL bs i) := by
  unfold freeL
  split
  · exact h
  · next hz =>
    obtain ⟨_, hn, hc, _⟩ := atB_some hz
    rw [getD_at hn]
    exact h.set _ _ (drop_ok (h _ (List.getElem_mem hn)) _ hc)
theorem len_alloc (bs : List Bk) (s : Int) : (allocL bs s).length = bs.length := by
  unfold allocL
  split
  · rfl
  · split
    · rfl
    · simp
theorem len_free (bs : List Bk) (i : Int) : (freeL bs i).length = bs.length := by
  unfold freeL
  split
  · rfl
  · simp

end Go.Proofs.YtdafpfdmnccelaaDoor

namespace Go.Proofs.YtdafpfdmnccelaaDoor
open Go.RowKit

/-- A row of values in a block of its own. -/
def Row (w : World) (g : Nat) (T : TypeId) (l : List Value) : Prop := w.heap[g]? = some (.cells l.toArray T (0, 0))
theorem Row.kept {w w' : World} {S : Nat → Prop} {g : Nat} {T : TypeId} {l : List Value} (h : Row w g T l) (hk : Kept w w' S) (hs : ¬ S g) : Row w' g T l :=
  (hk.block g (Array.getElem?_eq_some_iff.1 h).1 hs).trans h
theorem Row.below {w w' : World} {g : Nat} {T : TypeId} {l : List Value} (h : Row w g T l) (hb : Below w.heap.size w w') : Row w' g T l := h.kept (kept_of_below hb (fun _ => False)) id
theorem Row.lt {w : World} {g : Nat} {T : TypeId} {l : List Value} (h : Row w g T l) : g < w.heap.size := (Array.getElem?_eq_some_iff.1 h).1
theorem Row.cell {w : World} {g : Nat} {T : TypeId} {l : List Value} (h : Row w g T l) (k : Nat) (hk : k < l.length) : w.cell? ⟨g, k, none⟩ = some l[k] := by
  rw [cell_of_row w g k _ _ _ h]
  simp [hk]
theorem Row.frozen {w : World} {g : Nat} {T : TypeId} {l : List Value} (h : Row w g T l) (k : Nat) : w.frozen? ⟨g, k, none⟩ = false := frozen_of_row w g k _ _ h
theorem Row.set {w : World} {g : Nat} {T : TypeId} {l : List Value} (h : Row w g T l) (k : Nat) (v : Value) : Row (w.setCell ⟨g, k, none⟩ v) g T (l.set k v) := by
  unfold Row at *
  rw [heap_setCell_same w g k _ _ v h]
  simp

theorem Tryd.infoInt : (Tryd.prog.info? 3).map (fun i => (i.zero, i.size, i.bytes)) = some (some (.int .i64 0), 1, 8) := by kernel_rfl

/-- A class as a value. -/
def cV (x : Bk) : Value := .int .i64 (x.c : Int)
/-- The classes of the first m blocks; behind them zeros. -/
def clsL (bs : List Bk) (m : Nat) : List Value := (bs.take m).map cV ++ List.replicate (bs.length - m) (.int .i64 0)
theorem clsL_len (bs : List Bk) (m : Nat) (hm : m ≤ bs.length) : (clsL bs m).length = bs.length := by
  simp [clsL]; omega
theorem clsL_at (bs : List Bk) (m : Nat) (hm : m < bs.length) : (clsL bs m)[m]? = some (.int .i64 0) := by
  unfold clsL
  rw [List.getElem?_append_right (by simp; omega)]
  have e : m - ((bs.take m).map cV).length = 0 := by simp; omega
  rw [e, List.getElem?_replicate, if_pos (by omega)]
theorem clsL_set (bs : List Bk) (m : Nat) (hm : m < bs.length) : (clsL bs m).set m (.int .i64 (bs[m].c : Int)) = clsL bs (m + 1) := by
  unfold clsL
  rw [List.take_succ_eq_append_getElem hm, List.map_append]
  obtain ⟨q, hq⟩ : ∃ q, bs.length - m = q + 1 := ⟨bs.length - m - 1, by omega⟩
  rw [hq, List.replicate_succ, List.set_append_right _ _ (by simp; omega)]
  have e : m - ((bs.take m).map cV).length = 0 := by simp; omega
  rw [e, List.set_cons_zero, show bs.length - (m + 1) = q by omega]
  simp [cV]
theorem clsL_all (bs : List Bk) (m : Nat) (hm : bs.length ≤ m) : clsL bs m = bs.map cV := by
  unfold clsL
  rw [List.take_of_length_le hm, show bs.length - m = 0 by omega]
  simp


end Go.Proofs.YtdafpfdmnccelaaDoor
