/- Blocks and their bits, reckoned. No program's text is in it. -/
import Derived.Lib.BitFns
import Derived.Lib.TrailingZeros
namespace Go.Proofs.YtlabdbfmfejkaaaDoor

/-- How many of the first sixteen bits are set. -/
def pc (t : Nat) : Nat := (List.range 16).countP (fun i => t.testBit i)

theorem popAux_eq : ∀ (f x : Nat), Lib.popAux f x = (List.range f).countP (fun i => x.testBit i) := by
  intro f
  induction f with
  | zero => intro x; rfl
  | succ f ih =>
    intro x
    rw [Lib.popAux, ih, List.range_succ_eq_map, List.countP_cons, List.countP_map]
    have e : ((fun i => x.testBit i) ∘ Nat.succ) = (fun i => (x / 2).testBit i) := by
      funext i
      simp [Nat.testBit_succ]
    rw [e]
    have e2 : (if x.testBit 0 = true then 1 else 0) = x % 2 := by
      rw [Nat.testBit_zero]
      have := Nat.mod_two_eq_zero_or_one x
      rcases this with h | h <;> simp [h]
    simp only [e2]
    omega
theorem popAux_zero : ∀ g, Lib.popAux g 0 = 0
  | 0 => rfl
  | g + 1 => by rw [Lib.popAux, Nat.zero_div, popAux_zero g]
theorem popAux_small : ∀ (f g x : Nat), x < 2 ^ f → f ≤ g → Lib.popAux g x = Lib.popAux f x
  | 0, g, x, hx, _ => by
    have : x = 0 := by simpa using hx
    subst this
    rw [popAux_zero, popAux_zero]
  | f + 1, g, x, hx, hg => by
    obtain ⟨g', rfl⟩ : ∃ g', g = g' + 1 := ⟨g - 1, by omega⟩
    rw [Lib.popAux, Lib.popAux, popAux_small f g' (x / 2) (by rw [Nat.pow_succ] at hx; omega) (by omega)]
theorem popAux_add : ∀ (f g x : Nat), Lib.popAux (f + g) x = Lib.popAux f (x % 2 ^ f) + Lib.popAux g (x / 2 ^ f)
  | 0, g, x => by simp [Lib.popAux]
  | f + 1, g, x => by
    rw [show f + 1 + g = (f + g) + 1 by omega, Lib.popAux, popAux_add f g (x / 2), Lib.popAux, Nat.div_div_eq_div_mul]
    have e1 : x % 2 ^ (f + 1) % 2 = x % 2 := by rw [Nat.pow_succ, Nat.mod_mul_left_mod]
    have e2 : x % 2 ^ (f + 1) / 2 = x / 2 % 2 ^ f := by rw [Nat.pow_succ, Nat.mul_comm, Nat.mod_mul_right_div_self]
    have e3 : 2 * 2 ^ f = 2 ^ (f + 1) := by rw [Nat.pow_succ, Nat.mul_comm]
    rw [e1, e2, e3]
    omega
theorem pc_split (x : Nat) (hx : x < 65536) : pc x = Lib.onesCount (x / 256) + Lib.onesCount (x % 256) := by
  have h := popAux_add 8 8 x
  have e : pc x = Lib.popAux 16 x := (popAux_eq 16 x).symm
  have e1 : Lib.onesCount (x / 256) = Lib.popAux 8 (x / 256) := popAux_small 8 64 _ (by omega) (by omega)
  have e2 : Lib.onesCount (x % 256) = Lib.popAux 8 (x % 256) := popAux_small 8 64 _ (by omega) (by omega)
  rw [e, e1, e2]
  rw [show (16 : Nat) = 8 + 8 from rfl, h, show (2 : Nat) ^ 8 = 256 from rfl]
  omega

/-- The least class that is s or more; 0: none. -/
def classN (s : Int) : Nat := if s < 1 then 0 else if s ≤ 1 then 1 else if s ≤ 2 then 2 else if s ≤ 4 then 4 else if s ≤ 8 then 8 else if s ≤ 16 then 16 else 0
/-- A class. -/
def IsC (k : Nat) : Prop := k = 1 ∨ k = 2 ∨ k = 4 ∨ k = 8 ∨ k = 16
theorem classN_no {s : Int} (h : s < 1 ∨ 16 < s) : classN s = 0 := by
  unfold classN
  rcases h with h | h
  · rw [if_pos h]
  · rw [if_neg (by omega), if_neg (by omega), if_neg (by omega), if_neg (by omega), if_neg (by omega), if_neg (by omega)]
theorem classN_is {s : Int} (h1 : 1 ≤ s) (h2 : s ≤ 16) : IsC (classN s) ∧ s ≤ classN s := by
  unfold classN IsC
  rw [if_neg (by omega)]
  split
  · omega
  · split
    · omega
    · split
      · omega
      · split
        · omega
        · omega
theorem classN_eq {s : Int} {k : Nat} (hk : IsC k) (h1 : 1 ≤ s) (h2 : s ≤ k) (h3 : k = 1 ∨ (k : Int) < 2 * s) : classN s = k := by
  unfold classN
  rw [if_neg (by omega)]
  rcases hk with rfl | rfl | rfl | rfl | rfl
  · rw [if_pos (by omega)]
  · rw [if_neg (by omega), if_pos (by omega)]
  · rw [if_neg (by omega), if_neg (by omega), if_pos (by omega)]
  · rw [if_neg (by omega), if_neg (by omega), if_neg (by omega), if_pos (by omega)]
  · rw [if_neg (by omega), if_neg (by omega), if_neg (by omega), if_neg (by omega), if_pos (by omega)]

/-- A block: its class, the bits of its places that are taken. -/
structure Bk where
  c : Nat
  t : Nat
/-- How many places of class k can be taken in it. -/
def roomN (x : Bk) (k : Nat) : Nat := if x.c = 0 ∨ x.c = k then 16 / k - pc x.t else 0
/-- The class of the place that is taken and begins at the block's cell i. -/
def atN (x : Bk) (i : Nat) : Nat := if x.c = 0 ∨ i % x.c ≠ 0 ∨ x.t.testBit (i / x.c) = false then 0 else x.c
/-- The first place that is free. -/
def placeN (t : Nat) : Nat := Lib.ctz 32 (4294967295 - t)
/-- The bits without one. -/
def offN (t p : Nat) : Nat := t &&& (4294967295 - 2 ^ p)
/-- The block behind its place at cell i is freed. -/
def dropN (x : Bk) (i : Nat) : Bk := if offN x.t (i / x.c) = 0 then ⟨0, 0⟩ else ⟨x.c, offN x.t (i / x.c)⟩

/-- What a block may be. -/
def Bk.Ok (x : Bk) : Prop := (x.c = 0 ∧ x.t = 0) ∨ (IsC x.c ∧ 0 < x.t ∧ x.t < 2 ^ (16 / x.c))
def AO (bs : List Bk) : Prop := ∀ x ∈ bs, x.Ok
theorem pow_le16 (k : Nat) (hk : IsC k) : 2 ^ (16 / k) ≤ 65536 := by rcases hk with rfl | rfl | rfl | rfl | rfl <;> decide
theorem Bk.Ok.lt {x : Bk} (h : x.Ok) : x.t < 65536 := by
  rcases h with ⟨_, h⟩ | ⟨h1, _, h2⟩
  · omega
  · have := pow_le16 _ h1; omega
theorem pc_zero : pc 0 = 0 := by decide
theorem pc_le (t n : Nat) (hn : n ≤ 16) (h : t < 2 ^ n) : pc t ≤ n := by
  have e : pc t = Lib.popAux 16 t := (popAux_eq 16 t).symm
  rw [e, popAux_small n 16 t h hn, popAux_eq]
  exact Nat.le_trans List.countP_le_length (by simp)
theorem Bk.Ok.pc {x : Bk} (h : x.Ok) (k : Nat) : x.c = 0 ∨ x.c = k → Go.Proofs.YtlabdbfmfejkaaaDoor.pc x.t ≤ 16 / k := by
  intro hk
  rcases h with ⟨h1, h2⟩ | ⟨h1, _, h2⟩
  · rw [h2, pc_zero]; exact Nat.zero_le _
  · have : x.c = k := by rcases hk with e | e; { unfold IsC at h1; omega }; { exact e }
    rw [← this]
    exact pc_le _ _ (Nat.div_le_self _ _) h2

/-- Is it a block of class f with room for class k? -/
def isB (f k : Nat) (x : Bk) : Bool := x.c == f && decide (0 < roomN x k)
/-- The first such. -/
def firstB (f k : Nat) (bs : List Bk) : Option Nat := bs.findIdx? (isB f k)
theorem firstB_some {f k : Nat} {bs : List Bk} {m : Nat} (hm : m < bs.length) (h : isB f k bs[m] = true) (h0 : ∀ x ∈ bs.take m, isB f k x = false) : firstB f k bs = some m := by
  unfold firstB
  rw [List.findIdx?_eq_some_iff_getElem]
  refine ⟨hm, h, fun j hj => ?_⟩
  have : bs[j] ∈ bs.take m := by
    rw [List.mem_take_iff_getElem]
    exact ⟨j, by omega, rfl⟩
  simp [h0 _ this]
theorem firstB_none {f k : Nat} {bs : List Bk} (h0 : ∀ x ∈ bs, isB f k x = false) : firstB f k bs = none := by
  unfold firstB
  rw [List.findIdx?_eq_none_iff]
  exact h0
theorem firstB_lt {f k : Nat} {bs : List Bk} {m : Nat} (h : firstB f k bs = some m) : ∃ hm : m < bs.length, isB f k bs[m] = true := by
  unfold firstB at h
  rw [List.findIdx?_eq_some_iff_getElem] at h
  obtain ⟨h1, h2, _⟩ := h
  exact ⟨h1, h2⟩
theorem take_more {p : Bk → Bool} {bs : List Bk} {m : Nat} (hm : m < bs.length) (h0 : ∀ x ∈ bs.take m, p x = false) (h : p bs[m] = false) : ∀ x ∈ bs.take (m + 1), p x = false := by
  intro x hx
  rw [List.take_succ_eq_append_getElem hm, List.mem_append] at hx
  rcases hx with hx | hx
  · exact h0 x hx
  · simp only [List.mem_singleton] at hx
    rw [hx]; exact h
/-- The block that the next place of class k is of. -/
def pickB (k : Nat) (bs : List Bk) : Option Nat := match firstB k k bs with
  | some n => some n
  | none => firstB 0 k bs
theorem pickB_lt {k : Nat} {bs : List Bk} {m : Nat} (h : pickB k bs = some m) : ∃ hm : m < bs.length, (bs[m].c = k ∨ bs[m].c = 0) ∧ 0 < roomN bs[m] k := by
  unfold pickB at h
  cases hf : firstB k k bs with
  | some n =>
    rw [hf] at h
    simp only [Option.some.injEq] at h
    subst h
    obtain ⟨h1, h2⟩ := firstB_lt hf
    simp only [isB, Bool.and_eq_true, beq_iff_eq, decide_eq_true_eq] at h2
    exact ⟨h1, Or.inl h2.1, h2.2⟩
  | none =>
    rw [hf] at h
    obtain ⟨h1, h2⟩ := firstB_lt h
    simp only [isB, Bool.and_eq_true, beq_iff_eq, decide_eq_true_eq] at h2
    exact ⟨h1, Or.inr h2.1, h2.2⟩
/-- pick's two answers. -/
def pickV (k : Nat) (bs : List Bk) : Nat × Bool := match pickB k bs with
  | some n => (n, true)
  | none => (0, false)

/-- No block. -/
def bk0 : Bk := ⟨0, 0⟩
/-- The block behind its first free place is taken. -/
def takeB (x : Bk) (k : Nat) : Bk := ⟨k, x.t ||| 2 ^ placeN x.t⟩
/-- What Alloc answers. -/
def allocR (bs : List Bk) (s : Int) : Nat × Nat := if classN s = 0 then (0, 1) else match pickB (classN s) bs with
  | none => (0, 2)
  | some n => (n * 16 + placeN (bs.getD n bk0).t * classN s, 0)
/-- The blocks behind Alloc. -/
def allocL (bs : List Bk) (s : Int) : List Bk := if classN s = 0 then bs else match pickB (classN s) bs with
  | none => bs
  | some n => bs.set n (takeB (bs.getD n bk0) (classN s))
/-- What At answers. -/
def atB (bs : List Bk) (i : Int) : Nat := if i < 0 ∨ (bs.length * 16 : Int) ≤ i then 0 else atN (bs.getD (i.toNat / 16) bk0) (i.toNat % 16)
/-- The blocks behind Free. -/
def freeL (bs : List Bk) (i : Int) : List Bk := if atB bs i = 0 then bs else bs.set (i.toNat / 16) (dropN (bs.getD (i.toNat / 16) bk0) (i.toNat % 16))
def freeR (bs : List Bk) (i : Int) : Nat := if atB bs i = 0 then 9 else 0
def roomB (bs : List Bk) (s : Int) : Nat := if classN s = 0 then 0 else (bs.map (fun x => roomN x (classN s))).sum
def usedN (x : Bk) : Nat := x.c * pc x.t
def usedB (bs : List Bk) : Nat := (bs.map usedN).sum

theorem roomN_le (x : Bk) (k : Nat) : roomN x k ≤ 16 := by
  unfold roomN
  split
  · exact Nat.le_trans (Nat.sub_le _ _) (Nat.div_le_self _ _)
  · omega
theorem pc_le16 (t : Nat) : pc t ≤ 16 := Nat.le_trans List.countP_le_length (by simp)
theorem c_le16 {x : Bk} (h : x.Ok) : x.c ≤ 16 := by
  rcases h with ⟨h, _⟩ | ⟨h, _⟩
  · omega
  · unfold IsC at h; omega
theorem usedN_le {x : Bk} (h : x.Ok) : usedN x ≤ 256 := Nat.mul_le_mul (c_le16 h) (pc_le16 _)
theorem sum_take_succ (f : Bk → Nat) (bs : List Bk) (m : Nat) (hm : m < bs.length) : ((bs.take (m + 1)).map f).sum = ((bs.take m).map f).sum + f bs[m] := by
  rw [List.take_succ_eq_append_getElem hm, List.map_append, List.sum_append]
  simp only [List.map_cons, List.map_nil, List.sum_cons, List.sum_nil, Nat.add_zero]
theorem sum_le (f : Bk → Nat) (M : Nat) : ∀ (bs : List Bk), (∀ x ∈ bs, f x ≤ M) → (bs.map f).sum ≤ bs.length * M
  | [], _ => by simp
  | x :: bs, h => by
    have h1 := sum_le f M bs (fun y hy => h y (List.mem_cons_of_mem _ hy))
    have h2 := h x List.mem_cons_self
    rw [List.map_cons, List.sum_cons, List.length_cons, Nat.succ_mul]
    omega
theorem classN_ne {s : Int} (h : classN s ≠ 0) : IsC (classN s) := by
  by_cases h1 : s < 1
  · exact absurd (classN_no (Or.inl h1)) h
  · by_cases h2 : 16 < s
    · exact absurd (classN_no (Or.inr h2)) h
    · exact (classN_is (by omega) (by omega)).1
theorem IsC.le {k : Nat} (h : IsC k) : k ≤ 16 := by unfold IsC at h; omega
theorem getD_at {bs : List Bk} {n : Nat} (h : n < bs.length) : bs.getD n bk0 = bs[n] := by
  rw [List.getD_eq_getElem?_getD, List.getElem?_eq_getElem h]
  rfl

end Go.Proofs.YtlabdbfmfejkaaaDoor
