import Derived.Lib.BitFns
import Derived.Lib.TrailingZeros
import Derived.Test.YtdafpfdmnccelaaDoorRows
import Derived.Test.YtdafpfdmnccelaaDoorBase
import Derived.Deep.QuietTactic
import Derived.BigQuiet
import Derived.Laws.ShiftsVarLaws
import Derived.Laws.BitsAllLaws
/- Blocks and their bits, reckoned. No program's text is in it. -/
/- What the small calls beneath package arena come to: bits, classes, blocks. -/
/- Class, plain Class, and the calls of one block. -/
namespace Go.Proofs.YtdafpfdmnccelaaDoor

/-- How many of the first sixteen bits are set. -/
def pc (t : Nat) : Nat := (List.range 16).countP (fun i => t.testBit i)

theorem popAux_eq : ∀ (f x : Nat), Lib.popAux f x = (List.range f).countP (fun i => x.testBit i) := by
  intro f
  induction f with
  | zero => intro x; rfl
  | succ f ih =>
    intro x
    rw [Lib.popAux, ih, List.range_succ_eq_map, List.countP_cons, List.countP_map]
    have e : ((fun i => x.testBit i) ∘ Nat.succ) = (fun i => (x / 2).testBit i) := by
      funext i
      simp [Nat.testBit_succ]
    rw [e]
    have e2 : (if x.testBit 0 = true then 1 else 0) = x % 2 := by
      rw [Nat.testBit_zero]
      have := Nat.mod_two_eq_zero_or_one x
      rcases this with h | h <;> simp [h]
    simp only [e2]
    omega
theorem popAux_zero : ∀ g, Lib.popAux g 0 = 0
  | 0 => rfl
  | g + 1 => by rw [Lib.popAux, Nat.zero_div, popAux_zero g]
theorem popAux_small : ∀ (f g x : Nat), x < 2 ^ f → f ≤ g → Lib.popAux g x = Lib.popAux f x
  | 0, g, x, hx, _ => by
    have : x = 0 := by simpa using hx
    subst this
    rw [popAux_zero, popAux_zero]
  | f + 1, g, x, hx, hg => by
    obtain ⟨g', rfl⟩ : ∃ g', g = g' + 1 := ⟨g - 1, by omega⟩
    rw [Lib.popAux, Lib.popAux, popAux_small f g' (x / 2) (by rw [Nat.pow_succ] at hx; omega) (by omega)]
theorem popAux_add : ∀ (f g x : Nat), Lib.popAux (f + g) x = Lib.popAux f (x % 2 ^ f) + Lib.popAux g (x / 2 ^ f)
  | 0, g, x => by simp [Lib.popAux]
  | f + 1, g, x => by
    rw [show f + 1 + g = (f + g) + 1 by omega, Lib.popAux, popAux_add f g (x / 2), Lib.popAux, Nat.div_div_eq_div_mul]
    have e1 : x % 2 ^ (f + 1) % 2 = x % 2 := by rw [Nat.pow_succ, Nat.mod_mul_left_mod]
    have e2 : x % 2 ^ (f + 1) / 2 = x / 2 % 2 ^ f := by rw [Nat.pow_succ, Nat.mul_comm, Nat.mod_mul_right_div_self]
    have e3 : 2 * 2 ^ f = 2 ^ (f + 1) := by rw [Nat.pow_succ, Nat.mul_comm]
    rw [e1, e2, e3]
    omega
theorem pc_split (x : Nat) (hx : x < 65536) : pc x = Lib.onesCount (x / 256) + Lib.onesCount (x % 256) := by
  have h := popAux_add 8 8 x
  have e : pc x = Lib.popAux 16 x := (popAux_eq 16 x).symm
  have e1 : Lib.onesCount (x / 256) = Lib.popAux 8 (x / 256) := popAux_small 8 64 _ (by omega) (by omega)
  have e2 : Lib.onesCount (x % 256) = Lib.popAux 8 (x % 256) := popAux_small 8 64 _ (by omega) (by omega)
  rw [e, e1, e2]
  rw [show (16 : Nat) = 8 + 8 from rfl, h, show (2 : Nat) ^ 8 = 256 from rfl]
  omega

/-- The least class that is s or more; 0: none. -/
def classN (s : Int) : Nat := if s < 1 then 0 else if s ≤ 1 then 1 else if s ≤ 2 then 2 else if s ≤ 4 then 4 else if s ≤ 8 then 8 else if s ≤ 16 then 16 else 0
/-- A class. -/
def IsC (k : Nat) : Prop := k = 1 ∨ k = 2 ∨ k = 4 ∨ k = 8 ∨ k = 16
theorem classN_no {s : Int} (h : s < 1 ∨ 16 < s) : classN s = 0 := by
  unfold classN
  rcases h with h | h
  · rw [if_pos h]
  · rw [if_neg (by omega), if_neg (by omega), if_neg (by omega), if_neg (by omega), if_neg (by omega), if_neg (by omega)]
theorem classN_is {s : Int} (h1 : 1 ≤ s) (h2 : s ≤ 16) : IsC (classN s) ∧ s ≤ classN s := by
  unfold classN IsC
  rw [if_neg (by omega)]
  split
  · omega
  · split
    · omega
    · split
      · omega
      · split
        · omega
        · omega
theorem classN_eq {s : Int} {k : Nat} (hk : IsC k) (h1 : 1 ≤ s) (h2 : s ≤ k) (h3 : k = 1 ∨ (k : Int) < 2 * s) : classN s = k := by
  unfold classN
  rw [if_neg (by omega)]
  rcases hk with rfl | rfl | rfl | rfl | rfl
  · rw [if_pos (by omega)]
  · rw [if_neg (by omega), if_pos (by omega)]
  · rw [if_neg (by omega), if_neg (by omega), if_pos (by omega)]
  · rw [if_neg (by omega), if_neg (by omega), if_neg (by omega), if_pos (by omega)]
  · rw [if_neg (by omega), if_neg (by omega), if_neg (by omega), if_neg (by omega), if_pos (by omega)]

/-- A block: its class, the bits of its places that are taken. -/
structure Bk where
  c : Nat
  t : Nat
/-- How many places of class k can be taken in it. -/
def roomN (x : Bk) (k : Nat) : Nat := if x.c = 0 ∨ x.c = k then 16 / k - pc x.t else 0
/-- The class of the place that is taken and begins at the block's cell i. -/
def atN (x : Bk) (i : Nat) : Nat := if x.c = 0 ∨ i % x.c ≠ 0 ∨ x.t.testBit (i / x.c) = false then 0 else x.c
/-- The first place that is free. -/
def placeN (t : Nat) : Nat := Lib.ctz 32 (4294967295 - t)
/-- The bits without one. -/
def offN (t p : Nat) : Nat := t &&& (4294967295 - 2 ^ p)
/-- The block behind its place at cell i is freed. -/
def dropN (x : Bk) (i : Nat) : Bk := if offN x.t (i / x.c) = 0 then ⟨0, 0⟩ else ⟨x.c, offN x.t (i / x.c)⟩

/-- What a block may be. -/
def Bk.Ok (x : Bk) : Prop := (x.c = 0 ∧ x.t = 0) ∨ (IsC x.c ∧ 0 < x.t ∧ x.t < 2 ^ (16 / x.c))
def AO (bs : List Bk) : Prop := ∀ x ∈ bs, x.Ok
theorem pow_le16 (k : Nat) (hk : IsC k) : 2 ^ (16 / k) ≤ 65536 := by rcases hk with rfl | rfl | rfl | rfl | rfl <;> decide
theorem Bk.Ok.lt {x : Bk} (h : x.Ok) : x.t < 65536 := by
  rcases h with ⟨_, h⟩ | ⟨h1, _, h2⟩
  · omega
  · have := pow_le16 _ h1; omega
theorem pc_zero : pc 0 = 0 := by decide
theorem pc_le (t n : Nat) (hn : n ≤ 16) (h : t < 2 ^ n) : pc t ≤ n := by
  have e : pc t = Lib.popAux 16 t := (popAux_eq 16 t).symm
  rw [e, popAux_small n 16 t h hn, popAux_eq]
  exact Nat.le_trans List.countP_le_length (by simp)
theorem Bk.Ok.pc {x : Bk} (h : x.Ok) (k : Nat) : x.c = 0 ∨ x.c = k → Go.Proofs.YtdafpfdmnccelaaDoor.pc x.t ≤ 16 / k := by
  intro hk
  rcases h with ⟨h1, h2⟩ | ⟨h1, _, h2⟩
  · rw [h2, pc_zero]; exact Nat.zero_le _
  · have : x.c = k := by rcases hk with e | e; { unfold IsC at h1; omega }; { exact e }
    rw [← this]
    exact pc_le _ _ (Nat.div_le_self _ _) h2

/-- Is it a block of class f with room for class k? -/
def isB (f k : Nat) (x : Bk) : Bool := x.c == f && decide (0 < roomN x k)
/-- The first such. -/
def firstB (f k : Nat) (bs : List Bk) : Option Nat := bs.findIdx? (isB f k)
theorem firstB_some {f k : Nat} {bs : List Bk} {m : Nat} (hm : m < bs.length) (h : isB f k bs[m] = true) (h0 : ∀ x ∈ bs.take m, isB f k x = false) : firstB f k bs = some m := by
  unfold firstB
  rw [List.findIdx?_eq_some_iff_getElem]
  refine ⟨hm, h, fun j hj => ?_⟩
  have : bs[j] ∈ bs.take m := by
    rw [List.mem_take_iff_getElem]
    exact ⟨j, by omega, rfl⟩
  simp [h0 _ this]
theorem firstB_none {f k : Nat} {bs : List Bk} (h0 : ∀ x ∈ bs, isB f k x = false) : firstB f k bs = none := by
  unfold firstB
  rw [List.findIdx?_eq_none_iff]
  exact h0
theorem firstB_lt {f k : Nat} {bs : List Bk} {m : Nat} (h : firstB f k bs = some m) : ∃ hm : m < bs.length, isB f k bs[m] = true := by
  unfold firstB at h
  rw [List.findIdx?_eq_some_iff_getElem] at h
  obtain ⟨h1, h2, _⟩ := h
  exact ⟨h1, h2⟩
theorem take_more {p : Bk → Bool} {bs : List Bk} {m : Nat} (hm : m < bs.length) (h0 : ∀ x ∈ bs.take m, p x = false) (h : p bs[m] = false) : ∀ x ∈ bs.take (m + 1), p x = false := by
  intro x hx
  rw [List.take_succ_eq_append_getElem hm, List.mem_append] at hx
  rcases hx with hx | hx
  · exact h0 x hx
  · simp only [List.mem_singleton] at hx
    rw [hx]; exact h
/-- The block that the next place of class k is of. -/
def pickB (k : Nat) (bs : List Bk) : Option Nat := match firstB k k bs with
  | some n => some n
  | none => firstB 0 k bs
theorem pickB_lt {k : Nat} {bs : List Bk} {m : Nat} (h : pickB k bs = some m) : ∃ hm : m < bs.length, (bs[m].c = k ∨ bs[m].c = 0) ∧ 0 < roomN bs[m] k := by
  unfold pickB at h
  cases hf : firstB k k bs with
  | some n =>
    rw [hf] at h
    simp only [Option.some.injEq] at h
    subst h
    obtain ⟨h1, h2⟩ := firstB_lt hf
    simp only [isB, Bool.and_eq_true, beq_iff_eq, decide_eq_true_eq] at h2
    exact ⟨h1, Or.inl h2.1, h2.2⟩
  | none =>
    rw [hf] at h
    obtain ⟨h1, h2⟩ := firstB_lt h
    simp only [isB, Bool.and_eq_true, beq_iff_eq, decide_eq_true_eq] at h2
    exact ⟨h1, Or.inr h2.1, h2.2⟩
/-- pick's two answers. -/
def pickV (k : Nat) (bs : List Bk) : Nat × Bool := match pickB k bs with
  | some n => (n, true)
  | none => (0, false)

/-- No block. -/
def bk0 : Bk := ⟨0, 0⟩
/-- The block behind its first free place is taken. -/
def takeB (x : Bk) (k : Nat) : Bk := ⟨k, x.t ||| 2 ^ placeN x.t⟩
/-- What Alloc answers. -/
def allocR (bs : List Bk) (s : Int) : Nat × Nat := if classN s = 0 then (0, 1) else match pickB (classN s) bs with
  | none => (0, 2)
  | some n => (n * 16 + placeN (bs.getD n bk0).t * classN s, 0)
/-- The blocks behind Alloc. -/
def allocL (bs : List Bk) (s : Int) : List Bk := if classN s = 0 then bs else match pickB (classN s) bs with
  | none => bs
  | some n => bs.set n (takeB (bs.getD n bk0) (classN s))
/-- What At answers. -/
def atB (bs : List Bk) (i : Int) : Nat := if i < 0 ∨ (bs.length * 16 : Int) ≤ i then 0 else atN (bs.getD (i.toNat / 16) bk0) (i.toNat % 16)
/-- The blocks behind Free. -/
def freeL (bs : List Bk) (i : Int) : List Bk := if atB bs i = 0 then bs else bs.set (i.toNat / 16) (dropN (bs.getD (i.toNat / 16) bk0) (i.toNat % 16))
def freeR (bs : List Bk) (i : Int) : Nat := if atB bs i = 0 then 9 else 0
def roomB (bs : List Bk) (s : Int) : Nat := if classN s = 0 then 0 else (bs.map (fun x => roomN x (classN s))).sum
def usedN (x : Bk) : Nat := x.c * pc x.t
def usedB (bs : List Bk) : Nat := (bs.map usedN).sum

theorem roomN_le (x : Bk) (k : Nat) : roomN x k ≤ 16 := by
  unfold roomN
  split
  · exact Nat.le_trans (Nat.sub_le _ _) (Nat.div_le_self _ _)
  · omega
theorem pc_le16 (t : Nat) : pc t ≤ 16 := Nat.le_trans List.countP_le_length (by simp)
theorem c_le16 {x : Bk} (h : x.Ok) : x.c ≤ 16 := by
  rcases h with ⟨h, _⟩ | ⟨h, _⟩
  · omega
  · unfold IsC at h; omega
theorem usedN_le {x : Bk} (h : x.Ok) : usedN x ≤ 256 := Nat.mul_le_mul (c_le16 h) (pc_le16 _)
theorem sum_take_succ (f : Bk → Nat) (bs : List Bk) (m : Nat) (hm : m < bs.length) : ((bs.take (m + 1)).map f).sum = ((bs.take m).map f).sum + f bs[m] := by
  rw [List.take_succ_eq_append_getElem hm, List.map_append, List.sum_append]
  simp only [List.map_cons, List.map_nil, List.sum_cons, List.sum_nil, Nat.add_zero]
theorem sum_le (f : Bk → Nat) (M : Nat) : ∀ (bs : List Bk), (∀ x ∈ bs, f x ≤ M) → (bs.map f).sum ≤ bs.length * M
  | [], _ => by simp
  | x :: bs, h => by
    have h1 := sum_le f M bs (fun y hy => h y (List.mem_cons_of_mem _ hy))
    have h2 := h x List.mem_cons_self
    rw [List.map_cons, List.sum_cons, List.length_cons, Nat.succ_mul]
    omega
theorem classN_ne {s : Int} (h : classN s ≠ 0) : IsC (classN s) := by
  by_cases h1 : s < 1
  · exact absurd (classN_no (Or.inl h1)) h
  · by_cases h2 : 16 < s
    · exact absurd (classN_no (Or.inr h2)) h
    · exact (classN_is (by omega) (by omega)).1
theorem IsC.le {k : Nat} (h : IsC k) : k ≤ 16 := by unfold IsC at h; omega
theorem getD_at {bs : List Bk} {n : Nat} (h : n < bs.length) : bs.getD n bk0 = bs[n] := by
  rw [List.getD_eq_getElem?_getD, List.getElem?_eq_getElem h]
  rfl

end Go.Proofs.YtdafpfdmnccelaaDoor

namespace Go.Proofs.YtdafpfdmnccelaaDoor
open Go.RowKit

/-- The table of math/bits lies in its variable. -/
structure TB (w : World) : Prop where
  size : 0 < w.heap.size
  tab : ∀ j, j < 32 → w.cell? ⟨0, j, none⟩ = some (.int .u8 ((Lib.deBruijn32tab.getD j 0 : Nat) : Int))
theorem TB.kept {w w' : World} {S : Nat → Prop} (h : TB w) (hk : Kept w w' S) (hs : ¬ S 0) : TB w' :=
  ⟨Nat.lt_of_lt_of_le h.size hk.size, fun j hj => (World.cell?_of_block (a := ⟨0, j, none⟩) (hk.block 0 h.size hs)).trans (h.tab j hj)⟩
theorem TB.below {w w' : World} (h : TB w) (hb : Below w.heap.size w w') : TB w' := h.kept (kept_of_below hb (fun _ => False)) id

set_option maxRecDepth 20000 in
set_option maxHeartbeats 1000000 in
theorem tz_core (x k idx : Nat) (w : World) (hx0 : ((x : Int) == 0) = false)
    (key : bits BinOp.and IntKind.u32 (x : Int) (-(x : Int) % 4294967296) * 125613361 % 4294967296 / 134217728 = (idx : Int))
    (hi : idx < 32) (hk : k < 32) (hcell : w.cell? ⟨0, idx, none⟩ = some (.int .u8 k)) :
    Calls Tryd.prog 79 #[.int .u32 x] w fun e w' => e = .returned (.int .i64 k) ∧ w = w' := by
  go_enter Tryd.func79, Tryd.ntmps79
  go_wp2_with (simp only [key])
  go_ret
  exact ⟨rfl, rfl⟩
theorem tz_key (x a : Nat) (hx : x < 4294967296) (hx0 : x ≠ 0) (hlow : x &&& (4294967296 - x) = a) :
    bits BinOp.and IntKind.u32 (x : Int) (-(x : Int) % 4294967296) * 125613361 % 4294967296 / 134217728 = ((a * 125613361 % 4294967296 / 134217728 : Nat) : Int) := by
  have hn : -(x : Int) % 4294967296 = ((4294967296 - x : Nat) : Int) := by omega
  have hb := u32_and_nat x (4294967296 - x) hx (by omega)
  rw [hlow] at hb
  rw [hn, hb]
  omega
/-- math/bits.TrailingZeros32 of a number that is not 0. -/
theorem tz_any (x : Nat) (hx : x < 4294967296) (hx0 : x ≠ 0) (w : World) (hT : TB w) :
    Calls Tryd.prog 79 #[.int .u32 x] w fun e w' => e = .returned (.int .i64 (Lib.ctz 32 x : Nat)) ∧ w = w' := by
  obtain ⟨hlow, hk⟩ := Lib.lowest_bit 32 x hx0 hx
  obtain ⟨hi, htab⟩ := Lib.deBruijn32_at _ hk
  have hcell := hT.tab _ hi
  rw [htab] at hcell
  exact tz_core x _ _ w (by simp; omega) (tz_key x _ hx hx0 hlow) hi hk hcell

set_option maxRecDepth 20000 in
set_option maxHeartbeats 1000000 in
/-- math/bits.OnesCount32 of a number below 65536. -/
theorem ones_any (x : Nat) (hx : x < 65536) (w : World) :
    Calls Tryd.prog 81 #[.int .u32 x] w fun e w' => e = .returned (.int .i64 (pc x : Nat)) ∧ ∃ n, w' = w.drewN n := by
  have h24 : (x : Int) / 16777216 = 0 := by omega
  have h16 : (x : Int) / 65536 = 0 := by omega
  have h8 : (0 : Int) ≤ (x : Int) / 256 := by omega
  have h8' : (x : Int) / 256 ≤ 255 := by omega
  have b0 : bits BinOp.and IntKind.u32 0 255 = 0 := by decide
  have b8 : bits BinOp.and IntKind.u32 ((x : Int) / 256) 255 = (x : Int) / 256 := by
    have h := u32_and_nat (x / 256) 255 (by omega) (by omega)
    have e : x / 256 &&& 255 = x / 256 := by rw [show (255 : Nat) = 2 ^ 8 - 1 from rfl, Nat.and_two_pow_sub_one_eq_mod]; omega
    rw [e] at h
    simpa using h
  have b1 : bits BinOp.and IntKind.u32 (x : Int) 255 = ((x % 256 : Nat) : Int) := by
    have h := u32_and_nat x 255 (by omega) (by omega)
    have e : x &&& 255 = x % 256 := by rw [show (255 : Nat) = 2 ^ 8 - 1 from rfl, Nat.and_two_pow_sub_one_eq_mod]
    rw [e] at h
    exact h
  obtain ⟨lo, hlo⟩ : ∃ lo, lo = x % 256 := ⟨_, rfl⟩
  rw [← hlo] at b1
  have hl : lo ≤ 255 := by omega
  have hl' : (lo : Int) ≤ 255 := by omega
  have p0 : Lib.pop8 0 = 0 := by decide +kernel
  have p8 := Lib.pop8_eq ⟨x / 256, by omega⟩
  have pl := Lib.pop8_eq ⟨lo, by omega⟩
  have l8 := Lib.onesCount_le8 ⟨x / 256, by omega⟩
  have ll := Lib.onesCount_le8 ⟨lo, by omega⟩
  simp only at p8 pl l8 ll
  rw [show ((x / 256 : Nat) : Int) = (x : Int) / 256 by omega] at p8
  have hpc : Hid (pc x = Lib.onesCount (x / 256) + Lib.onesCount lo) := by
    have e : pc x = Lib.onesCount (x / 256) + Lib.onesCount lo := by rw [hlo]; exact pc_split x hx
    exact e
  clear hlo
  generalize Lib.onesCount (x / 256) = A at *
  generalize Lib.onesCount lo = B at *
  go_enter Tryd.func81, Tryd.ntmps81
  go_wp2
  go_quiet (fail)
  go_wp2
  go_ret
  refine ⟨congrArg (fun x => Ending.returned (.int .i64 x)) ?_, _, rfl⟩
  rw [hpc.out]
  omega

end Go.Proofs.YtdafpfdmnccelaaDoor

namespace Go.Proofs.YtdafpfdmnccelaaDoor
open Go.RowKit

set_option maxRecDepth 20000 in
set_option maxHeartbeats 400000 in
theorem class_any (s : Int) (w : World) : Calls Tryd.prog 70 #[.int .i64 s] w fun e w' => e = .returned (.int .i64 (classN s : Nat)) ∧ w = w' := by
  by_cases h1 : s < 1
  · rw [classN_no (Or.inl h1)]
    go_enter Tryd.func70, Tryd.ntmps70
    go_wp2
    go_ret
    exact ⟨rfl, rfl⟩
  by_cases h2 : 16 < s
  · rw [classN_no (Or.inr h2)]
    go_enter Tryd.func70, Tryd.ntmps70
    go_wp2
    go_ret
    exact ⟨rfl, rfl⟩
  go_enter Tryd.func70, Tryd.ntmps70
  go_wp2
  go_loop [3] (fun i => ∃ k : Nat, i = .int .i64 k ∧ IsC k ∧ (k = 1 ∨ (k : Int) < 2 * s)) (fun i => 32 - (intOf i).toNat)
  case atStart => exact ⟨1, rfl, Or.inl rfl, Or.inl rfl⟩
  case round =>
    obtain ⟨k, rfl, hk, hks⟩ := hrel
    have hk16 : k ≤ 16 ∧ 1 ≤ k := by rcases hk with h | h | h | h | h <;> omega
    obtain ⟨hk16, hk1⟩ := hk16
    have HK : Hid (IsC k) := hk
    have HS : Hid (k = 1 ∨ (k : Int) < 2 * s) := hks
    clear hk hks
    by_cases hlt : (k : Int) < s
    · go_wp2
      go_round
      case rel =>
        have hk := HK.out
        refine ⟨2 * k, by go_num, ?_, Or.inr (by omega)⟩
        unfold IsC at hk ⊢
        omega
      case measure => simp [intOf]; omega
    · go_wp2
      go_ret
      exact ⟨congrArg (fun x : Nat => Ending.returned (.int .i64 (x : Int))) (classN_eq HK.out (by omega) (by omega) HS.out).symm, rfl⟩

set_option maxRecDepth 20000 in
set_option maxHeartbeats 400000 in
theorem rclass_any (s : Int) (w : World) : Calls Tryd.prog 73 #[.int .i64 s] w fun e w' => e = .returned (.int .i64 (classN s : Nat)) ∧ w = w' := by
  go_enter Tryd.func73, Tryd.ntmps73
  go_wp2
  go_loop [3] (fun i => ∃ k : Nat, i = .int .i64 k ∧ (IsC k ∨ k = 32) ∧ (s < 1 ∨ k = 1 ∨ (k : Int) < 2 * s)) (fun i => 64 - (intOf i).toNat)
  case atStart => exact ⟨1, rfl, Or.inl (Or.inl rfl), Or.inr (Or.inl rfl)⟩
  case round =>
    obtain ⟨k, rfl, hk, hks⟩ := hrel
    have hk16 : k ≤ 32 ∧ 1 ≤ k := by rcases hk with (h | h | h | h | h) | h <;> omega
    obtain ⟨hk16, hk1⟩ := hk16
    have HK : Hid (IsC k ∨ k = 32) := hk
    have HS : Hid (s < 1 ∨ k = 1 ∨ (k : Int) < 2 * s) := hks
    clear hk hks
    by_cases h16 : (k : Int) ≤ 16
    · have HC : Hid (IsC k) := by
        have e : IsC k := by rcases HK.out with h | h; { exact h }; { omega }
        exact e
      by_cases h1 : (1 : Int) ≤ s
      · by_cases hlt : s ≤ (k : Int)
        · go_wp2
          go_ret
          exact ⟨congrArg (fun x : Nat => Ending.returned (.int .i64 (x : Int))) (classN_eq HC.out h1 hlt (by have := HS.out; omega)).symm, rfl⟩
        · go_wp2
          go_round
          case rel =>
            have hk := HC.out
            refine ⟨2 * k, by go_num, ?_, Or.inr (Or.inr (by omega))⟩
            unfold IsC at hk ⊢
            omega
          case measure => simp [intOf]; omega
      · go_wp2
        go_round
        case rel =>
          have hk := HC.out
          refine ⟨2 * k, by go_num, ?_, Or.inl (by omega)⟩
          unfold IsC at hk ⊢
          omega
        case measure => simp [intOf]; omega
    · have HE : Hid (classN s = 0) := by
        have e : classN s = 0 := classN_no (by
          have hk := HK.out
          have hs := HS.out
          unfold IsC at hk
          omega)
        exact e
      go_wp2
      go_ret
      exact ⟨congrArg (fun x : Nat => Ending.returned (.int .i64 (x : Int))) HE.out.symm, rfl⟩

/-- A block as a value. -/
@[reducible] def bkV (x : Bk) : Value := .agg #[.int .i64 (x.c : Int), .int .u32 (x.t : Int)]

theorem below_drewN0 (w : World) (n : Nat) : Below w.heap.size w (w.drewN n) := ⟨rfl, rfl, rfl, Nat.le_refl _, fun _ _ => rfl⟩

set_option maxRecDepth 20000 in
set_option maxHeartbeats 400000 in
theorem broom_no (x : Bk) (k : Nat) (h0 : x.c ≠ 0) (h1 : x.c ≠ k) (w : World) :
    Calls Tryd.prog 78 #[bkV x, .int .i64 (k : Int)] w fun e w' => e = .returned (.int .i64 0) ∧ Below w.heap.size w w' := by
  have e0 : ((x.c : Int) == 0) = false := by rw [beq_eq_false_iff_ne]; omega
  have e1 : ((x.c : Int) == (k : Int)) = false := by rw [beq_eq_false_iff_ne]; omega
  go_enter Tryd.func78, Tryd.ntmps78
  go_wp2
  go_ret
  exact ⟨rfl, (Below.refl _ _).alloc (Nat.le_refl _) _⟩

set_option maxRecDepth 20000 in
set_option maxHeartbeats 400000 in
theorem broom_yes (x : Bk) (k : Nat) (hk : IsC k) (ht : x.t < 65536) (h : x.c = 0 ∨ x.c = k) (hp : pc x.t ≤ 16 / k) (w : World) :
    Calls Tryd.prog 78 #[bkV x, .int .i64 (k : Int)] w fun e w' => e = .returned (.int .i64 (16 / k - pc x.t : Nat)) ∧ Below w.heap.size w w' := by
  rcases hk with rfl | rfl | rfl | rfl | rfl
  · have hw : IntKind.i64.wrap (16 - (pc x.t : Int)) = ((16 / 1 - pc x.t : Nat) : Int) := by rw [IntKind.wrap_i64]; omega
    have hp' : pc x.t ≤ 16 := by omega
    clear hp
    generalize (16 / 1 - pc x.t : Nat) = R at *
    by_cases h0 : x.c = 0
    · have e0 : ((x.c : Int) == 0) = true := by rw [beq_iff_eq]; omega
      go_enter Tryd.func78, Tryd.ntmps78
      go_wp2
      go_quiet ((go_at_call 81; exact Calls.quiet_of (ones_any x.t ht _)))
      go_wp2
      go_ret
      exact ⟨rfl, ((Below.refl _ _).alloc (Nat.le_refl _) _).trans ((below_drewN0 _ _).mono (by simp))⟩
    · have h1 : x.c = 1 := by omega
      have e0 : ((x.c : Int) == 0) = false := by rw [beq_eq_false_iff_ne]; omega
      have e1 : ((x.c : Int) == 1) = true := by rw [beq_iff_eq]; omega
      clear h h0 h1
      go_enter Tryd.func78, Tryd.ntmps78
      go_wp2
      go_quiet ((go_at_call 81; exact Calls.quiet_of (ones_any x.t ht _)))
      go_wp2
      go_ret
      exact ⟨rfl, ((Below.refl _ _).alloc (Nat.le_refl _) _).trans ((below_drewN0 _ _).mono (by simp))⟩
  · have hw : IntKind.i64.wrap (8 - (pc x.t : Int)) = ((16 / 2 - pc x.t : Nat) : Int) := by rw [IntKind.wrap_i64]; omega
    have hp' : pc x.t ≤ 8 := by omega
    clear hp
    generalize (16 / 2 - pc x.t : Nat) = R at *
    by_cases h0 : x.c = 0
    · have e0 : ((x.c : Int) == 0) = true := by rw [beq_iff_eq]; omega
      go_enter Tryd.func78, Tryd.ntmps78
      go_wp2
      go_quiet ((go_at_call 81; exact Calls.quiet_of (ones_any x.t ht _)))
      go_wp2
      go_ret
      exact ⟨rfl, ((Below.refl _ _).alloc (Nat.le_refl _) _).trans ((below_drewN0 _ _).mono (by simp))⟩
    · have h1 : x.c = 2 := by omega
      have e0 : ((x.c : Int) == 0) = false := by rw [beq_eq_false_iff_ne]; omega
      have e1 : ((x.c : Int) == 2) = true := by rw [beq_iff_eq]; omega
      clear h h0 h1
      go_enter Tryd.func78, Tryd.ntmps78
      go_wp2
      go_quiet ((go_at_call 81; exact Calls.quiet_of (ones_any x.t ht _)))
      go_wp2
      go_ret
      exact ⟨rfl, ((Below.refl _ _).alloc (Nat.le_refl _) _).trans ((below_drewN0 _ _).mono (by simp))⟩
  · have hw : IntKind.i64.wrap (4 - (pc x.t : Int)) = ((16 / 4 - pc x.t : Nat) : Int) := by rw [IntKind.wrap_i64]; omega
    have hp' : pc x.t ≤ 4 := by omega
    clear hp
    generalize (16 / 4 - pc x.t : Nat) = R at *
    by_cases h0 : x.c = 0
    · have e0 : ((x.c : Int) == 0) = true := by rw [beq_iff_eq]; omega
      go_enter Tryd.func78, Tryd.ntmps78
      go_wp2
      go_quiet ((go_at_call 81; exact Calls.quiet_of (ones_any x.t ht _)))
      go_wp2
      go_ret
      exact ⟨rfl, ((Below.refl _ _).alloc (Nat.le_refl _) _).trans ((below_drewN0 _ _).mono (by simp))⟩
    · have h1 : x.c = 4 := by omega
      have e0 : ((x.c : Int) == 0) = false := by rw [beq_eq_false_iff_ne]; omega
      have e1 : ((x.c : Int) == 4) = true := by rw [beq_iff_eq]; omega
      clear h h0 h1
      go_enter Tryd.func78, Tryd.ntmps78
      go_wp2
      go_quiet ((go_at_call 81; exact Calls.quiet_of (ones_any x.t ht _)))
      go_wp2
      go_ret
      exact ⟨rfl, ((Below.refl _ _).alloc (Nat.le_refl _) _).trans ((below_drewN0 _ _).mono (by simp))⟩
  · have hw : IntKind.i64.wrap (2 - (pc x.t : Int)) = ((16 / 8 - pc x.t : Nat) : Int) := by rw [IntKind.wrap_i64]; omega
    have hp' : pc x.t ≤ 2 := by omega
    clear hp
    generalize (16 / 8 - pc x.t : Nat) = R at *
    by_cases h0 : x.c = 0
    · have e0 : ((x.c : Int) == 0) = true := by rw [beq_iff_eq]; omega
      go_enter Tryd.func78, Tryd.ntmps78
      go_wp2
      go_quiet ((go_at_call 81; exact Calls.quiet_of (ones_any x.t ht _)))
      go_wp2
      go_ret
      exact ⟨rfl, ((Below.refl _ _).alloc (Nat.le_refl _) _).trans ((below_drewN0 _ _).mono (by simp))⟩
    · have h1 : x.c = 8 := by omega
      have e0 : ((x.c : Int) == 0) = false := by rw [beq_eq_false_iff_ne]; omega
      have e1 : ((x.c : Int) == 8) = true := by rw [beq_iff_eq]; omega
      clear h h0 h1
      go_enter Tryd.func78, Tryd.ntmps78
      go_wp2
      go_quiet ((go_at_call 81; exact Calls.quiet_of (ones_any x.t ht _)))
      go_wp2
      go_ret
      exact ⟨rfl, ((Below.refl _ _).alloc (Nat.le_refl _) _).trans ((below_drewN0 _ _).mono (by simp))⟩
  · have hw : IntKind.i64.wrap (1 - (pc x.t : Int)) = ((16 / 16 - pc x.t : Nat) : Int) := by rw [IntKind.wrap_i64]; omega
    have hp' : pc x.t ≤ 1 := by omega
    clear hp
    generalize (16 / 16 - pc x.t : Nat) = R at *
    by_cases h0 : x.c = 0
    · have e0 : ((x.c : Int) == 0) = true := by rw [beq_iff_eq]; omega
      go_enter Tryd.func78, Tryd.ntmps78
      go_wp2
      go_quiet ((go_at_call 81; exact Calls.quiet_of (ones_any x.t ht _)))
      go_wp2
      go_ret
      exact ⟨rfl, ((Below.refl _ _).alloc (Nat.le_refl _) _).trans ((below_drewN0 _ _).mono (by simp))⟩
    · have h1 : x.c = 16 := by omega
      have e0 : ((x.c : Int) == 0) = false := by rw [beq_eq_false_iff_ne]; omega
      have e1 : ((x.c : Int) == 16) = true := by rw [beq_iff_eq]; omega
      clear h h0 h1
      go_enter Tryd.func78, Tryd.ntmps78
      go_wp2
      go_quiet ((go_at_call 81; exact Calls.quiet_of (ones_any x.t ht _)))
      go_wp2
      go_ret
      exact ⟨rfl, ((Below.refl _ _).alloc (Nat.le_refl _) _).trans ((below_drewN0 _ _).mono (by simp))⟩

/-- How many places can be taken in a block. -/
theorem broom_any (x : Bk) (k : Nat) (hk : IsC k) (ht : x.t < 65536) (hp : x.c = 0 ∨ x.c = k → pc x.t ≤ 16 / k) (w : World) :
    Calls Tryd.prog 78 #[bkV x, .int .i64 (k : Int)] w fun e w' => e = .returned (.int .i64 (roomN x k : Nat)) ∧ Below w.heap.size w w' := by
  unfold roomN
  by_cases h : x.c = 0 ∨ x.c = k
  · rw [if_pos h]
    exact broom_yes x k hk ht h (hp h) w
  · rw [if_neg h]
    exact broom_no x k (fun e => h (Or.inl e)) (fun e => h (Or.inr e)) w

theorem bit_test (t q : Nat) (ht : t < 65536) : (bits BinOp.and IntKind.u32 ((t : Int) / 2 ^ q) 1 == 0) = !t.testBit q := by
  have e1 : (t : Int) / 2 ^ q = ((t / 2 ^ q : Nat) : Int) := by simp
  have hle : t / 2 ^ q ≤ t := Nat.div_le_self _ _
  rw [e1, show (1 : Int) = ((1 : Nat) : Int) from rfl, u32_and_nat _ 1 (by omega) (by omega), Nat.and_one_is_mod, Nat.testBit_eq_decide_div_mod_eq]
  have := Nat.mod_two_eq_zero_or_one (t / 2 ^ q)
  rcases this with h | h <;> rw [h] <;> decide

set_option maxRecDepth 20000 in
set_option maxHeartbeats 400000 in
theorem bat_any (x : Bk) (i : Nat) (ht : x.t < 65536) (hi : i < 16) (w : World) :
    Calls Tryd.prog 80 #[bkV x, .int .i64 (i : Int)] w fun e w' => e = .returned (.int .i64 (atN x i : Nat)) ∧ Below w.heap.size w w' := by
  unfold atN
  by_cases h0 : x.c = 0
  · rw [if_pos (Or.inl h0)]
    have e0 : ((x.c : Int) == 0) = true := by rw [beq_iff_eq]; omega
    go_enter Tryd.func80, Tryd.ntmps80
    go_wp2
    go_quiet (fail)
    go_wp2
    go_ret
    exact ⟨rfl, ((Below.refl _ _).alloc (Nat.le_refl _) _).trans ((below_drewN0 _ _).mono (by simp))⟩
  have e0 : ((x.c : Int) == 0) = false := by rw [beq_eq_false_iff_ne]; omega
  have hm : Int.tmod (i : Int) (x.c : Int) = ((i % x.c : Nat) : Int) := by rfl
  have hq : Int.tdiv (i : Int) (x.c : Int) = ((i / x.c : Nat) : Int) := by rfl
  by_cases h1 : i % x.c = 0
  · have hm : Int.tmod (i : Int) (x.c : Int) = 0 := by rw [hm, h1]; rfl
    have hql : i / x.c < 16 := Nat.lt_of_le_of_lt (Nat.div_le_self _ _) hi
    have hbit := bit_test x.t (i / x.c) (by omega)
    generalize hQ : i / x.c = q at *
    by_cases hb : x.t.testBit q = false
    · rw [if_pos (Or.inr (Or.inr hb))]
      rw [hb] at hbit
      clear hb
      go_enter Tryd.func80, Tryd.ntmps80
      go_wp2
      go_quiet (fail)
      go_wp2
      go_ret
      exact ⟨rfl, ((Below.refl _ _).alloc (Nat.le_refl _) _).trans ((below_drewN0 _ _).mono (by simp))⟩
    · rw [if_neg (fun h => h.elim h0 (fun h => h.elim (fun h => h h1) hb))]
      rw [show x.t.testBit q = true by simpa using hb] at hbit
      clear hb
      go_enter Tryd.func80, Tryd.ntmps80
      go_wp2
      go_quiet (fail)
      go_wp2
      go_ret
      exact ⟨rfl, ((Below.refl _ _).alloc (Nat.le_refl _) _).trans ((below_drewN0 _ _).mono (by simp))⟩
  · rw [if_pos (Or.inr (Or.inl h1))]
    have hne : (((i : Int) % (x.c : Int)) != 0) = true := by
      rw [bne_iff_ne, ← Int.natCast_emod]
      omega
    go_enter Tryd.func80, Tryd.ntmps80
    go_wp2
    go_quiet (fail)
    go_wp2
    go_ret
    exact ⟨rfl, ((Below.refl _ _).alloc (Nat.le_refl _) _).trans ((below_drewN0 _ _).mono (by simp))⟩
end Go.Proofs.YtdafpfdmnccelaaDoor
