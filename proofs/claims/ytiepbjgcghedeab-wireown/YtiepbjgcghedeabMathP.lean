import Derived.WalkKit
import Derived.Laws.BitsAllLaws
import Derived.Test.YtiepbjgcghedeabRows
import Derived.Test.YtiepbjgcghedeabBaseP
import Derived.Deep.RegionHeldLaw
/- Plain facts on bytes, sums and numbers: no program's text is in it. -/
/- What the sums of package codec do, call by call. -/
/- Copies, seals: call by call. -/
/- The Writer: call by call. -/
/- The plain Num: its walk. -/
/- An append inside a region that draws its order. -/
namespace Go.Proofs.Ytiepbjgcghedeab

/-- One step of the sum, on naturals. -/
def hvN (h : Nat) : Nat := if h % 2 = 1 then (h / 2) ^^^ 3988292384 else h / 2

theorem hvN_lt (h : Nat) (hh : h < 4294967296) : hvN h < 4294967296 := by
  unfold hvN
  split
  · exact Nat.xor_lt_two_pow (n := 32) (by omega) (by omega)
  · omega

def hvs : Nat → Nat → Nat
  | 0, h => h
  | k + 1, h => hvN (hvs k h)

theorem hvs_lt (k h : Nat) (hh : h < 4294967296) : hvs k h < 4294967296 := by
  induction k with
  | zero => exact hh
  | succ k ih => exact hvN_lt _ ih

/-- One byte. -/
def crcB (h : Nat) (x : UInt8) : Nat := hvs 8 (h ^^^ x.toNat)
theorem xor_byte_lt (h : Nat) (x : UInt8) (hh : h < 4294967296) : h ^^^ x.toNat < 4294967296 :=
  Nat.xor_lt_two_pow (n := 32) (by omega) (by have := x.toNat_lt; omega)
theorem crcB_lt (h : Nat) (x : UInt8) (hh : h < 4294967296) : crcB h x < 4294967296 := hvs_lt _ _ (xor_byte_lt h x hh)

/-- The state behind some bytes. -/
def crcS (l : List UInt8) : Nat := l.foldl crcB 4294967295
theorem foldl_crcB_lt (l : List UInt8) : ∀ h, h < 4294967296 → l.foldl crcB h < 4294967296 := by
  induction l with
  | nil => intro h hh; exact hh
  | cons x l ih => intro h hh; exact ih _ (crcB_lt h x hh)
theorem crcS_lt (l : List UInt8) : crcS l < 4294967296 := foldl_crcB_lt l _ (by omega)
def crc (l : List UInt8) : Nat := crcS l ^^^ 4294967295
theorem crc_lt (l : List UInt8) : crc l < 4294967296 := Nat.xor_lt_two_pow (n := 32) (by have := crcS_lt l; omega) (by omega)

theorem crcS_snoc (l : List UInt8) (x : UInt8) : crcS (l ++ [x]) = crcB (crcS l) x := by simp [crcS]

/-! the step is one to one -/
theorem testBit31_lt (a : Nat) (h : a < 2147483648) : a.testBit 31 = false := Nat.testBit_lt_two_pow (by omega)
theorem hvN_inj {a b : Nat} (ha : a < 4294967296) (hb : b < 4294967296) (h : hvN a = hvN b) : a = b := by
  have hC : Nat.testBit 3988292384 31 = true := by decide
  have da := Nat.div_add_mod a 2
  have db := Nat.div_add_mod b 2
  have ta := testBit31_lt (a / 2) (by omega)
  have tb := testBit31_lt (b / 2) (by omega)
  unfold hvN at h
  split at h <;> split at h
  · have h2 := congrArg (· ^^^ 3988292384) h
    simp only [Nat.xor_assoc, Nat.xor_self, Nat.xor_zero] at h2
    omega
  · have h2 := congrArg (Nat.testBit · 31) h
    simp only [Nat.testBit_xor, ta, tb, hC] at h2
    exact absurd h2 (by decide)
  · have h2 := congrArg (Nat.testBit · 31) h
    simp only [Nat.testBit_xor, ta, tb, hC] at h2
    exact absurd h2 (by decide)
  · omega
theorem hvs_inj (k : Nat) : ∀ {a b : Nat}, a < 4294967296 → b < 4294967296 → hvs k a = hvs k b → a = b := by
  induction k with
  | zero => intro a b _ _ h; exact h
  | succ k ih => intro a b ha hb h; exact ih ha hb (hvN_inj (hvs_lt k a ha) (hvs_lt k b hb) h)
theorem xor_right_cancel {a b c : Nat} (h : a ^^^ c = b ^^^ c) : a = b := by
  have h2 := congrArg (· ^^^ c) h
  simpa only [Nat.xor_assoc, Nat.xor_self, Nat.xor_zero] using h2
theorem xor_left_cancel {a b c : Nat} (h : c ^^^ a = c ^^^ b) : a = b := xor_right_cancel (c := c) (by rw [Nat.xor_comm a, Nat.xor_comm b]; exact h)
theorem crcB_inj_state {a b : Nat} (x : UInt8) (ha : a < 4294967296) (hb : b < 4294967296) (h : crcB a x = crcB b x) : a = b :=
  xor_right_cancel (hvs_inj 8 (xor_byte_lt a x ha) (xor_byte_lt b x hb) h)
theorem crcB_inj_byte {a : Nat} {x y : UInt8} (ha : a < 4294967296) (h : crcB a x = crcB a y) : x = y :=
  UInt8.toNat_inj.1 (xor_left_cancel (hvs_inj 8 (xor_byte_lt a x ha) (xor_byte_lt a y ha) h))
theorem foldl_crcB_inj (l : List UInt8) : ∀ {a b : Nat}, a < 4294967296 → b < 4294967296 → l.foldl crcB a = l.foldl crcB b → a = b := by
  induction l with
  | nil => intro a b _ _ h; exact h
  | cons x l ih => intro a b ha hb h; exact crcB_inj_state x ha hb (ih (crcB_lt a x ha) (crcB_lt b x hb) h)

/-- One byte turned: another sum. -/
theorem crc_set_ne (l : List UInt8) (k : Nat) (x : UInt8) (hk : k < l.length) (hx : l[k] ≠ x) : crc (l.set k x) ≠ crc l := by
  intro h
  have h1 : crcS (l.set k x) = crcS l := xor_right_cancel h
  rw [List.set_eq_take_append_cons_drop, if_pos hk] at h1
  have e : l = l.take k ++ l[k] :: l.drop (k + 1) := by simp
  have h2 : crcS (l.take k ++ x :: l.drop (k + 1)) = crcS (l.take k ++ l[k] :: l.drop (k + 1)) := by rw [h1, ← e]
  simp only [crcS, List.foldl_append, List.foldl_cons] at h2
  have hl := foldl_crcB_lt (l.take k) 4294967295 (by omega)
  exact hx (crcB_inj_byte hl (foldl_crcB_inj _ (crcB_lt _ _ hl) (crcB_lt _ _ hl) h2)).symm

/-! the four bytes of a sum -/
def sumBytes (s : Nat) : List UInt8 := [UInt8.ofNat s, UInt8.ofNat (s / 256), UInt8.ofNat (s / 65536), UInt8.ofNat (s / 16777216)]
def sumOf (a b c d : UInt8) : Nat := a.toNat + 256 * b.toNat + 65536 * c.toNat + 16777216 * d.toNat
theorem length_sumBytes (s : Nat) : (sumBytes s).length = 4 := rfl
theorem sumOf_sumBytes (s : Nat) (h : s < 4294967296) : sumOf (UInt8.ofNat s) (UInt8.ofNat (s / 256)) (UInt8.ofNat (s / 65536)) (UInt8.ofNat (s / 16777216)) = s := by
  simp only [sumOf, UInt8.toNat_ofNat']
  omega
theorem sumOf_inj {a b c d a' b' c' d' : UInt8} (h : sumOf a b c d = sumOf a' b' c' d') : a = a' ∧ b = b' ∧ c = c' ∧ d = d' := by
  have := a.toNat_lt; have := b.toNat_lt; have := c.toNat_lt; have := d.toNat_lt
  have := a'.toNat_lt; have := b'.toNat_lt; have := c'.toNat_lt; have := d'.toNat_lt
  unfold sumOf at h
  refine ⟨UInt8.toNat_inj.1 ?_, UInt8.toNat_inj.1 ?_, UInt8.toNat_inj.1 ?_, UInt8.toNat_inj.1 ?_⟩ <;> omega

theorem known_sum : crc [49, 50, 51, 52, 53, 54, 55, 56, 57] = 3421780262 := by decide +kernel

/-! numbers as bytes -/
def numF : Nat → Nat → List UInt8
  | 0, n => [UInt8.ofNat n]
  | f + 1, n => if n < 128 then [UInt8.ofNat n] else UInt8.ofNat (n % 128 + 128) :: numF f (n / 128)
def numB (n : Nat) : List UInt8 := numF 9 n
theorem numF_last (f n : Nat) (h : n < 128) : numF f n = [UInt8.ofNat n] := by
  cases f with
  | zero => rfl
  | succ f => simp [numF, h]
theorem numF_more (f n : Nat) (h : ¬ n < 128) : numF (f + 1) n = UInt8.ofNat (n % 128 + 128) :: numF f (n / 128) := by simp [numF, h]
theorem length_numF (f : Nat) : ∀ n, (numF f n).length ≤ f + 1 := by
  induction f with
  | zero => intro n; simp [numF]
  | succ f ih =>
    intro n
    by_cases h : n < 128
    · simp [numF, h]
    · rw [numF_more f n h, List.length_cons]
      have := ih (n / 128)
      omega
theorem length_numB (n : Nat) : (numB n).length ≤ 10 := length_numF 9 n

/-! bytes as numbers -/
/-- The number at the beginning of some bytes: its value, how many bytes it has, what is wrong. -/
def nm : List UInt8 → Nat → Nat → Nat × Nat × Nat
  | [], _, _ => (0, 0, 20)
  | d :: r, k, acc =>
    if k = 9 ∧ 1 < d.toNat then (0, 0, 21) else
    if 128 ≤ d.toNat then nm r (k + 1) (acc + 2 ^ (7 * k) * (d.toNat % 128)) else
    if d.toNat = 0 ∧ 0 < k then (0, 0, 21) else (acc + 2 ^ (7 * k) * (d.toNat % 128), k + 1, 0)

theorem nm_bad {d : UInt8} {r : List UInt8} {k acc : Nat} (h1 : k = 9) (h2 : 1 < d.toNat) : nm (d :: r) k acc = (0, 0, 21) := by
  rw [nm, if_pos ⟨h1, h2⟩]
theorem nm_more {d : UInt8} {r : List UInt8} {k acc : Nat} (h1 : k ≠ 9) (h2 : 128 ≤ d.toNat) : nm (d :: r) k acc = nm r (k + 1) (acc + 2 ^ (7 * k) * (d.toNat % 128)) := by
  rw [nm, if_neg (fun h => h1 h.1), if_pos h2]
theorem nm_zero {d : UInt8} {r : List UInt8} {k acc : Nat} (h1 : d.toNat = 0) (h2 : 0 < k) : nm (d :: r) k acc = (0, 0, 21) := by
  rw [nm, if_neg (by omega), if_neg (by omega), if_pos ⟨h1, h2⟩]
theorem nm_last {d : UInt8} {r : List UInt8} {k acc : Nat} (h1 : k = 9 → d.toNat ≤ 1) (h2 : d.toNat < 128) (h3 : d.toNat = 0 → k = 0) : nm (d :: r) k acc = (acc + 2 ^ (7 * k) * (d.toNat % 128), k + 1, 0) := by
  rw [nm, if_neg (fun h => by have := h1 h.1; omega), if_neg (by omega), if_neg (fun h => by have := h3 h.1; omega)]

theorem nm_spec (l : List UInt8) : ∀ k acc, k ≤ 9 → acc < 2 ^ (7 * k) → (nm l k acc).2.1 ≤ k + l.length ∧ (nm l k acc).1 < 18446744073709551616 ∧ ((nm l k acc).2.2 = 0 → k < (nm l k acc).2.1) := by
  induction l with
  | nil => intro k acc _ _; simp [nm]
  | cons d r ih =>
    intro k acc hk ha
    have hd := d.toNat_lt
    by_cases h1 : k = 9 ∧ 1 < d.toNat
    · rw [nm_bad h1.1 h1.2]; simp
    · by_cases h2 : 128 ≤ d.toNat
      · have hk9 : k ≠ 9 := fun h => h1 ⟨h, by omega⟩
        rw [nm_more hk9 h2]
        have hm : 2 ^ (7 * k) * (d.toNat % 128) ≤ 2 ^ (7 * k) * 127 := Nat.mul_le_mul_left _ (by omega)
        have he : 2 ^ (7 * (k + 1)) = 2 ^ (7 * k) * 128 := by rw [show 7 * (k + 1) = 7 * k + 7 by omega, Nat.pow_add]
        have := ih (k + 1) (acc + 2 ^ (7 * k) * (d.toNat % 128)) (by omega) (by omega)
        simp only [List.length_cons]
        omega
      · by_cases h3 : d.toNat = 0 ∧ 0 < k
        · rw [nm_zero h3.1 h3.2]; simp
        · rw [nm_last (by omega) (by omega) (by omega)]
          simp only [List.length_cons]
          refine ⟨by omega, ?_, by omega⟩
          by_cases hk9 : k = 9
          · subst hk9
            have : d.toNat % 128 ≤ 1 := by omega
            have hm : 2 ^ (7 * 9) * (d.toNat % 128) ≤ 2 ^ (7 * 9) * 1 := Nat.mul_le_mul_left _ this
            omega
          · have hm : 2 ^ (7 * k) * (d.toNat % 128) ≤ 2 ^ (7 * k) * 127 := Nat.mul_le_mul_left _ (by omega)
            have he : 2 ^ (7 * k) ≤ 2 ^ 56 := Nat.pow_le_pow_right (by omega) (by omega)
            omega

end Go.Proofs.Ytiepbjgcghedeab

namespace Go.Proofs.Ytiepbjgcghedeab
open Go.RowKit

theorem hv_odd (h : Nat) (h1 : h < 4294967296) (ho : ((h : Int) % 2 == 1) = true) : bits .xor .u32 ((h : Int) / 2) 3988292384 = (hvN h : Int) := by
  have e : ((h : Int) / 2) = ((h / 2 : Nat) : Int) := by omega
  have ho' : h % 2 = 1 := by have := beq_iff_eq.1 ho; omega
  rw [e, show (3988292384 : Int) = ((3988292384 : Nat) : Int) from rfl, u32_xor_nat _ _ (by omega) (by omega), hvN, if_pos ho']
theorem hv_even (h : Nat) (ho : ((h : Int) % 2 == 1) = false) : (h : Int) / 2 = (hvN h : Int) := by
  have ho' : ¬ h % 2 = 1 := by have := beq_eq_false_iff_ne.1 ho; omega
  rw [hvN, if_neg ho']; omega

set_option maxHeartbeats 400000 in
theorem halve_any (h : Nat) (h1 : h < 4294967296) (w : World) :
    Calls Try.prog 55 #[.int .u32 (h : Int)] w fun e w' => e = .returned (.int .u32 (hvN h : Int)) ∧ w = w' := by
  go_enter Try.func55, Try.ntmps55
  go_wp2
  · go_ret
    exact ⟨congrArg (fun x => Ending.returned (.int .u32 x)) (hv_odd h h1 ‹_›), rfl⟩
  · go_ret
    exact ⟨congrArg (fun x => Ending.returned (.int .u32 x)) (hv_even h ‹_›), rfl⟩

set_option maxHeartbeats 400000 in
theorem sum_any (v : Value) (l : List UInt8) (w : World) (hv : Bs w v l) (hl : l.length ≤ 140737488355328) :
    Calls Try.prog 35 #[v] w fun e w' => e = .returned (.int .u32 (crc l : Int)) ∧ w = w' := by
  obtain ⟨ao, cap, rfl, hc, hx⟩ := hv
  go_enter Try.func35, Try.ntmps35
  go_wp2
  go_loop [3, 8] (fun h i => ∃ k : Nat, k ≤ l.length ∧ i = .int .i64 k ∧ h = .int .u32 (crcS (l.take k) : Int)) (fun _ i => l.length - (intOf i).toNat)
  case atStart => exact ⟨0, Nat.zero_le _, rfl, rfl⟩
  case round =>
    obtain ⟨k, hk, rfl, rfl⟩ := hrel
    have hs := crcS_lt (l.take k)
    by_cases hlt : k < l.length
    · obtain ⟨b, off, rfl, _, hseg⟩ := hx (by intro e; subst e; simp at hlt)
      have hcell := hseg.at k hlt
      have hb := l[k].toNat_lt
      have hxl := xor_byte_lt _ l[k] hs
      have hxx : bits .xor .u32 (crcS (l.take k) : Int) (l[k].toNat : Int) = ((crcS (l.take k) ^^^ l[k].toNat : Nat) : Int) := u32_xor_nat _ _ (by omega) (by omega)
      have HT : Hid (crcS (l.take (k + 1)) = hvs 8 (crcS (l.take k) ^^^ l[k].toNat)) := by
        show _ = _
        rw [List.take_succ_eq_append_getElem hlt, crcS_snoc]; rfl
      generalize hX : (crcS (l.take k) ^^^ l[k].toNat) = X at *
      clear hX
      go_wp2
      go_loop [3, 16] (fun h i => ∃ j : Nat, j ≤ 8 ∧ i = .int .i64 j ∧ h = .int .u32 (hvs j X : Int)) (fun _ i => 8 - (intOf i).toNat)
      case atStart => exact ⟨0, Nat.zero_le _, rfl, rfl⟩
      case round =>
        obtain ⟨j, hj, rfl, rfl⟩ := hrel
        have hjl := hvs_lt j X hxl
        by_cases hjt : j < 8
        · go_wp2_with (go_at_call 55; refine (halve_any _ hjl _).mono ?_; rintro e w' ⟨rfl, rfl⟩)
          go_round
          case rel => exact ⟨j + 1, by omega, by go_num, rfl⟩
          case measure => simp [intOf]; omega
        · have hj8 : j = 8 := by omega
          subst hj8
          go_wp2
          go_round
          case rel => exact ⟨k + 1, by omega, by go_num, by rw [HT.out]⟩
          case measure => simp [intOf]; omega
    · have hkl : k = l.length := by omega
      have HE : Hid (bits .xor .u32 (crcS (l.take k) : Int) 4294967295 = (crc l : Int)) := by
        show _ = _
        rw [show (4294967295 : Int) = ((4294967295 : Nat) : Int) from rfl, u32_xor_nat _ _ hs (by omega), hkl, List.take_length]; rfl
      clear hkl
      go_wp2
      go_ret
      exact ⟨congrArg (fun x => Ending.returned (.int .u32 x)) HE.out, rfl⟩

end Go.Proofs.Ytiepbjgcghedeab

namespace Go.Proofs.Ytiepbjgcghedeab
open Go.RowKit

theorem Try.infoByte : (Try.prog.info? 5).map (fun i => (i.zero, i.size, i.bytes)) = some (some (.int .u8 0), 1, 1) := by kernel_rfl

set_option maxHeartbeats 400000 in
theorem fresh_any (v : Value) (l : List UInt8) (w : World) (hv : Bs w v l) (hl : l.length ≤ 140737488355328) :
    Calls Try.prog 39 #[v] w fun e w' => e = .returned (.slice (some ⟨w.heap.size, 0, none⟩) l.length l.length) ∧
      w'.heap[w.heap.size]? = some (.cells (l.map bv).toArray 5 (0, 0)) ∧ Below w.heap.size w w' ∧ w.heap.size < w'.heap.size := by
  obtain ⟨ao, cap, rfl, hc, hx⟩ := hv
  obtain ⟨i, hi, hz0, hz1, hz2⟩ := info_parts Try.infoByte
  have hsz : (Try.prog.info? 5).map (·.size) = some 1 := by rw [hi]; simp [hz1]
  go_enter Try.func39, Try.ntmps39
  go_wp2_with (first
    | (at_make; refine wpList_make_row _ rfl _ _ 30 rfl 5 i _ Try.underlying30 hi hz0 hz1 rfl _ _ _ _ l.length rfl rfl rfl rfl (by rw [hz2]; omega) (by unfold maxLen; omega) ?_; intro w1 hg1 hb1 hlt1)
    | (refine wpList_copy_splice rfl (.tmp 7) (.tmp 8) 30 30 rfl 5 Try.underlying30 hsz _ ao l.length l.length l.length cap rfl rfl w.heap.size 0 (List.replicate l.length (.int .u8 0)) 5 hg1 (l.map bv) (by simp) (fun hp => ⟨rfl, src_of hx hb1 hp⟩) (by simp) (bv_oneCell l) w.heap.size w hb1 (Nat.le_refl _) ?_; intro w2 hg2 hb2))
  go_ret
  have hg3 := hg2.out
  rw [show List.replicate l.length (Value.int .u8 0) = List.replicate (l.map bv).length (Value.int .u8 0) by simp, splice_all] at hg3
  exact ⟨rfl, hg3, hb2, (Array.getElem?_eq_some_iff.1 hg3).1⟩

end Go.Proofs.Ytiepbjgcghedeab

namespace Go.Proofs.Ytiepbjgcghedeab
open Go.RowKit

/-- A Writer lies at the head of block b; it has laid l, which lies where v says. -/
structure WR (w : World) (b : Nat) (v : Value) (l : List UInt8) : Prop where
  box : w.heap[b]? = some (.cells #[v] 70 (0, 0))
  own : w.ownsRow (b + 1) 5 1 v l.length (l.map bv)

theorem WR.lt {w : World} {b : Nat} {v : Value} {l : List UInt8} (h : WR w b v l) : b < w.heap.size := (Array.getElem?_eq_some_iff.1 h.box).1
theorem WR.cell {w : World} {b : Nat} {v : Value} {l : List UInt8} (h : WR w b v l) : w.cell? ⟨b, 0, none⟩ = some v := by rw [cell_of_row w b 0 _ _ _ h.box]; rfl
theorem WR.free {w : World} {b : Nat} {v : Value} {l : List UInt8} (h : WR w b v l) : w.frozen? ⟨b, 0, none⟩ = false := frozen_of_row w b 0 _ _ h.box

/-- What a Writer's call may turn. -/
def WS (b : Nat) (v : Value) (k : Nat) : Prop := k = b ∨ v.ownBlock = some k

theorem WR.apart {w : World} {b : Nat} {v : Value} {l : List UInt8} (h : WR w b v l) : ∀ k, v.ownBlock = some k → b < k ∧ k < w.heap.size := by
  intro k hk
  have := h.own.lt k hk
  omega

/-- What it is told of a Writer stays, where neither of its blocks turns. -/
theorem WR.keep {w w' : World} {b : Nat} {v : Value} {l : List UInt8} {S : Nat → Prop} (h : WR w b v l) (hk : Kept w w' S) (hs : ∀ k, WS b v k → ¬ S k) : WR w' b v l := by
  refine ⟨(hk.block b h.lt (hs b (Or.inl rfl))).trans h.box, ?_⟩
  obtain ⟨h1, h2 | ⟨g, cap, cur, hv, hb, hg, r⟩⟩ := h.own
  · exact ⟨h1, Or.inl h2⟩
  · refine ⟨h1, Or.inr ⟨g, cap, cur, hv, hb, ?_, r⟩⟩
    rw [hk.block g (Array.getElem?_eq_some_iff.1 hg).1 (hs g (Or.inr (by rw [hv]; rfl)))]
    exact hg

theorem WR.alloc {w : World} {b : Nat} {v : Value} {l : List UInt8} (h : WR w b v l) (o : Obj) : WR (w.alloc o) b v l := h.keep (Kept.alloc w o (fun _ => False)) (fun _ _ e => e)
theorem WR.below {w w' : World} {b : Nat} {v : Value} {l : List UInt8} (h : WR w b v l) (hb : Below w.heap.size w w') : WR w' b v l := h.keep (kept_of_below hb (fun _ => False)) (fun _ _ e => e)
theorem WR.new_apart {w : World} {b : Nat} {v : Value} {l : List UInt8} (h : WR w b v l) {k : Nat} (hk : w.heap.size ≤ k) : ¬ WS b v k := by
  intro e
  rcases e with e | e
  · have := h.lt; omega
  · have := h.apart k e; omega

/-- The store that ends a Writer's call. -/
theorem WR.stored {w w1 : World} {b : Nat} {v v' : Value} {l m : List UInt8} (h : WR w b v l) (hk : Kept w w1 (fun k => v.ownBlock = some k)) (ho : w1.ownsRow (b + 1) 5 1 v' m.length (m.map bv)) :
    WR (w1.setCell ⟨b, 0, none⟩ v') b v' m ∧ Kept w (w1.setCell ⟨b, 0, none⟩ v') (WS b v) := by
  have hb1 : w1.heap[b]? = some (.cells #[v] 70 (0, 0)) := (hk.block b h.lt (fun e => by have := h.apart b e; omega)).trans h.box
  refine ⟨⟨?_, ownsRow_setCell_below ho (by simp) _⟩, ?_⟩
  · rw [heap_setCell_same w1 b 0 _ _ _ hb1]; rfl
  · refine (hk.mono (fun i _ e => Or.inr e)).trans (Kept.setCell w1 _ _) ?_
    intro i _ e
    exact Or.inl e

theorem WR.still {w w1 : World} {b : Nat} {v : Value} {l : List UInt8} (h : WR w b v l) (hk : Kept w w1 (fun k => v.ownBlock = some k)) : w1.cell? ⟨b, 0, none⟩ = some v ∧ w1.frozen? ⟨b, 0, none⟩ = false := by
  have hb1 : w1.heap[b]? = some (.cells #[v] 70 (0, 0)) := (hk.block b h.lt (fun e => by have := h.apart b e; omega)).trans h.box
  exact ⟨by rw [cell_of_row w1 b 0 _ _ _ hb1]; rfl, frozen_of_row w1 b 0 _ _ hb1⟩

set_option maxHeartbeats 400000 in
theorem newWriter_any (w : World) :
    Calls Try.prog 15 #[] w fun e w' => e = .returned (.pointer (some ⟨w.heap.size, 0, none⟩)) ∧ WR w' w.heap.size (.slice none 0 0) [] ∧ Below w.heap.size w w' := by
  go_enter Try.func15, Try.ntmps15
  go_wp2
  go_ret
  exact ⟨rfl, ⟨heap_alloc_new w _, World.ownsRow_nil _ _ _ _⟩, (Below.refl _ _).alloc (Nat.le_refl _) _⟩

set_option maxHeartbeats 400000 in
theorem wbyte_any (w : World) (b : Nat) (v : Value) (l : List UInt8) (x : Int) (u : UInt8) (hx : x = (u.toNat : Int)) (h : WR w b v l) (hl : l.length < 140737488355328) :
    Calls Try.prog 18 #[.pointer (some ⟨b, 0, none⟩), .int .u8 x] w fun e w' => e = .returned (.tuple #[]) ∧
      ∃ v', WR w' b v' (l ++ [u]) ∧ Kept w w' (WS b v) ∧ Moved w v v' := by
  subst hx
  have hcell := h.cell
  have hfz := h.free
  have hlt := h.lt
  obtain ⟨i, hi, hz0, hz1, hz2⟩ := info_parts Try.infoByte
  go_enter Try.func18, Try.ntmps18
  go_wp2_with (at_builtin; refine wpList_append_bs rfl _ _ 30 rfl (b + 1) 5 i Try.underlying30 hi hz0 hz1 hz2 v l.length l rfl rfl (h.own.alloc _) _ rfl [u] (Bs.one w u _) (by simp; omega) (by simp; omega) ?_; intro v' w1 hown hkept hmoved; have hk1 := (Kept.alloc w _ (fun k => v.ownBlock = some k)).trans hkept (fun _ _ h => h); have hm1 := Moved.trans (Moved.refl w v) hmoved (by simp); obtain ⟨ao', n', cp', rfl⟩ := own_form hown; obtain ⟨hc1, hf1⟩ := h.still hk1)
  go_end0
  have hs := h.stored hk1 hown
  exact ⟨rfl, _, hs.1, hs.2, hm1⟩

theorem WS.moved {w : World} {b : Nat} {v v1 : Value} (hm : Moved w v v1) : ∀ i, i < w.heap.size → WS b v1 i → WS b v i := by
  intro i hi h
  rcases h with h | h
  · exact Or.inl h
  · rcases hm i h with h1 | h1
    · exact Or.inr h1
    · omega

/-- How far a Writer has come since w. -/
structure WTo (w w' : World) (b : Nat) (v v' : Value) (l : List UInt8) : Prop where
  wr : WR w' b v' l
  kept : Kept w w' (WS b v)
  moved : Moved w v v'
theorem WTo.refl {w : World} {b : Nat} {v : Value} {l : List UInt8} (h : WR w b v l) : WTo w w b v v l := ⟨h, Kept.refl _ _, Moved.refl _ _⟩
theorem WTo.trans {w w1 w2 : World} {b : Nat} {v v1 v2 : Value} {l m : List UInt8} (h : WTo w w1 b v v1 l) (k : WTo w1 w2 b v1 v2 m) : WTo w w2 b v v2 m :=
  ⟨k.wr, h.kept.trans k.kept (WS.moved h.moved), h.moved.trans k.moved h.kept.size⟩

theorem WTo.below {w w' : World} {b : Nat} {v v' : Value} {l m : List UInt8} (h : WTo w w' b v v' m) (hr : WR w b v l) : Below b w w' :=
  h.kept.below (Nat.le_of_lt hr.lt) (fun i hi e => by
    rcases e with e | e
    · omega
    · have := hr.apart i e; omega)

theorem wbyte_to (w : World) (b : Nat) (v : Value) (l : List UInt8) (x : Int) (u : UInt8) (hx : x = (u.toNat : Int)) (h : WR w b v l) (hl : l.length < 140737488355328) :
    Calls Try.prog 18 #[.pointer (some ⟨b, 0, none⟩), .int .u8 x] w fun e w' => e = .returned (.tuple #[]) ∧ ∃ v', WTo w w' b v v' (l ++ [u]) :=
  (wbyte_any w b v l x u hx h hl).mono fun _ _ ⟨h1, v', h2, h3, h4⟩ => ⟨h1, v', h2, h3, h4⟩

theorem byte_more (m : Nat) : (m : Int) % 128 + 128 = ((UInt8.ofNat (m % 128 + 128)).toNat : Int) := by
  rw [UInt8.toNat_ofNat']; omega
theorem byte_last (m : Nat) (h : m < 128) : (m : Int) = ((UInt8.ofNat m).toNat : Int) := by
  rw [UInt8.toNat_ofNat']; omega

set_option maxRecDepth 20000 in
set_option maxHeartbeats 400000 in
theorem wnum_any (w : World) (b : Nat) (v : Value) (l : List UInt8) (N : Nat) (hN : N < 18446744073709551616) (h : WR w b v l) (hl : l.length + 10 ≤ 140737488355328) :
    Calls Try.prog 19 #[.pointer (some ⟨b, 0, none⟩), .int .u64 (N : Int)] w fun e w' => e = .returned (.tuple #[]) ∧ ∃ v', WTo w w' b v v' (l ++ numB N) := by
  go_enter Try.func19, Try.ntmps19
  go_wp2
  go_loopw [1] (fun n wr => ∃ (m f : Nat) (pre : List UInt8) (v1 : Value), n = .int .u64 m ∧ m < 18446744073709551616 ∧ m < 128 ^ (f + 1) ∧ pre ++ numF f m = numB N ∧ WTo w wr b v v1 (l ++ pre)) (fun n _ => (intOf n).toNat)
  case atStart => exact ⟨N, 9, [], v, rfl, hN, by omega, rfl, by simpa using WTo.refl h⟩
  case round =>
    obtain ⟨m, f, pre, v1, rfl, hm, hmf, hpre, hto⟩ := hrel
    have hlen : (l ++ pre).length < 140737488355328 := by
      have h1 := length_numB N
      have h2 : 0 < (numF f m).length := by cases f <;> simp [numF]; split <;> simp
      have h3 := congrArg List.length hpre
      simp only [List.length_append] at h3 ⊢
      omega
    by_cases hlt : m < 128
    · have HP : Hid (pre ++ numF f m = numB N) := hpre
      have HM : Hid (m < 128 ^ (f + 1)) := hmf
      clear hpre hmf
      go_wp2_with (go_at_call 18; refine (wbyte_to _ b v1 (l ++ pre) _ (UInt8.ofNat m) (byte_last m hlt) hto.wr hlen).mono ?_; rintro e w' ⟨rfl, v2, hto2⟩)
      go_end0
      refine ⟨rfl, v2, ?_⟩
      have e := HP.out
      rw [numF_last f m hlt] at e
      rw [← e, ← List.append_assoc]
      exact hto.trans hto2
    · obtain ⟨f, rfl⟩ : ∃ f', f = f' + 1 := by
        cases f with
        | zero => omega
        | succ f => exact ⟨f, rfl⟩
      have HP : Hid (pre ++ numF (f + 1) m = numB N) := hpre
      have HM : Hid (m < 128 ^ (f + 1 + 1)) := hmf
      clear hpre hmf
      go_wp2_with (go_at_call 18; refine (wbyte_to _ b v1 (l ++ pre) _ (UInt8.ofNat (m % 128 + 128)) (byte_more m) hto.wr hlen).mono ?_; rintro e w' ⟨rfl, v2, hto2⟩)
      go_roundw
      case rel =>
        refine ⟨m / 128, f, pre ++ [UInt8.ofNat (m % 128 + 128)], v2, by go_num, by omega, ?_, ?_, ?_⟩
        · have := HM.out
          rw [Nat.pow_succ] at this
          omega
        · have e := HP.out
          rw [numF_more f m hlt] at e
          rw [← e, List.append_assoc]; rfl
        · rw [← List.append_assoc]
          exact hto.trans hto2
      case measure => simp [intOf]; omega

theorem WR.stored_to {w w1 : World} {b : Nat} {v v' : Value} {l m : List UInt8} (h : WR w b v l) (hk : Kept w w1 (fun k => v.ownBlock = some k)) (hm : Moved w v v') (ho : w1.ownsRow (b + 1) 5 1 v' m.length (m.map bv)) :
    WTo w (w1.setCell ⟨b, 0, none⟩ v') b v v' m := ⟨(h.stored hk ho).1, (h.stored hk ho).2, hm⟩

set_option maxRecDepth 20000 in
set_option maxHeartbeats 400000 in
theorem wtext_any (w : World) (b : Nat) (v : Value) (l : List UInt8) (sv : Value) (m : List UInt8) (hsv : Bs w sv m) (hap : ∀ k, m ≠ [] → sv.ownBlock = some k → k < w.heap.size → ¬ WS b v k) (h : WR w b v l) (hl : l.length + m.length + 10 ≤ 140737488355328) :
    Calls Try.prog 21 #[.pointer (some ⟨b, 0, none⟩), sv] w fun e w' => e = .returned (.tuple #[]) ∧ ∃ v', WTo w w' b v v' (l ++ (numB m.length ++ m)) := by
  have hsv0 := hsv
  obtain ⟨ao, cap, rfl, hc, hx⟩ := hsv
  obtain ⟨i, hi, hz0, hz1, hz2⟩ := info_parts Try.infoByte
  have hnb := length_numB m.length
  have HL : Hid (l.length + m.length + 10 ≤ 140737488355328) := hl
  clear hx
  go_enter Try.func21, Try.ntmps21
  go_wp2_with (first
    | (go_at_call 19; refine (wnum_any _ b v l m.length (by omega) h (by omega)).mono ?_; rintro e w1 ⟨rfl, v1, hto1⟩; have hs1 := hsv0.kept hto1.kept hap; have hcell := hto1.wr.cell; have hfz := hto1.wr.free; have hlt := hto1.wr.lt)
    | (at_builtin; refine wpList_append_bs rfl _ _ 30 rfl (b + 1) 5 i Try.underlying30 hi hz0 hz1 hz2 v1 _ (l ++ numB m.length) rfl rfl hto1.wr.own _ rfl m hs1 (by simp; omega) hlt ?_; intro v' w2 hown hkept hmoved; obtain ⟨ao', n', cp', rfl⟩ := own_form hown; obtain ⟨hc1, hf1⟩ := hto1.wr.still hkept))
  go_end0
  have ho := hto1.trans (hto1.wr.stored_to hkept hmoved hown)
  rw [List.append_assoc] at ho
  exact ⟨rfl, _, ho⟩

set_option maxHeartbeats 400000 in
theorem wbytes_any (w : World) (b : Nat) (v : Value) (l : List UInt8) (h : WR w b v l) (hl : l.length ≤ 140737488355328) :
    Calls Try.prog 23 #[.pointer (some ⟨b, 0, none⟩)] w fun e w' => e = .returned (.slice (some ⟨w.heap.size, 0, none⟩) l.length l.length) ∧
      w'.heap[w.heap.size]? = some (.cells (l.map bv).toArray 5 (0, 0)) ∧ Below w.heap.size w w' ∧ w.heap.size < w'.heap.size := by
  have hcell := h.cell
  have hv := Bs.ofOwns h.own
  obtain ⟨ao', n', cp', rfl⟩ := own_form h.own
  go_enter Try.func23, Try.ntmps23
  go_wp2_with (go_at_call 39; refine (fresh_any _ l _ hv hl).mono ?_; rintro e w' ⟨rfl, hg, hb, hlt⟩)
  go_ret
  exact ⟨rfl, hg, hb, hlt⟩

end Go.Proofs.Ytiepbjgcghedeab

namespace Go.Proofs.Ytiepbjgcghedeab
open Go.RowKit

theorem Bs.one' (w : World) (x : UInt8) (t : TypeId) (z : Int) (hz : z = (x.toNat : Int)) : Bs (w.alloc (.cells #[.int .u8 z] t)) (.slice (some ⟨w.heap.size, 0, none⟩) 1 1) [x] := by
  subst hz
  exact Bs.one w x t

set_option maxRecDepth 20000 in
set_option maxHeartbeats 1000000 in
theorem refNum_any (N : Nat) (hN : N < 18446744073709551616) (w : World) :
    Calls Try.prog 20 #[.int .u64 (N : Int)] w fun e w' => ∃ v, e = .returned v ∧ w'.ownsRow w.heap.size 5 1 v (numB N).length ((numB N).map bv) ∧ Below w.heap.size w w' := by
  obtain ⟨i, hi, hz0, hz1, hz2⟩ := info_parts Try.infoByte
  go_enter Try.func20, Try.ntmps20
  go_wp2
  go_loopw [0, 3] (fun n out wr => ∃ (m f : Nat) (pre : List UInt8), n = .int .u64 (m : Int) ∧ m < 18446744073709551616 ∧ m < 128 ^ (f + 1) ∧ pre ++ numF f m = numB N ∧ wr.ownsRow w.heap.size 5 1 out pre.length (pre.map bv) ∧ Below w.heap.size w wr) (fun n _ _ => (intOf n).toNat)
  case atStart => exact ⟨N, 9, [], rfl, hN, by omega, rfl, World.ownsRow_nil _ _ _ _, Below.refl _ _⟩
  case round =>
    obtain ⟨m, f, pre, rfl, hm, hmf, hpre, hown, hbr⟩ := hrel
    have hzr := hbr.size
    have hlen : pre.length < 100 := by
      have h1 := length_numB N
      have h3 := congrArg List.length hpre
      simp only [List.length_append] at h3
      omega
    obtain ⟨ao, n0, c0, hv⟩ := own_form hown
    subst hv
    by_cases hlt : m < 128
    · have HP : Hid (pre ++ numF f m = numB N) := hpre
      have HM : Hid (m < 128 ^ (f + 1)) := hmf
      clear hpre hmf
      go_wp2_with (at_builtin; refine wpList_append_bs rfl (.tmp 15) (.tmp 18) 30 rfl w.heap.size 5 i Try.underlying30 hi hz0 hz1 hz2 (.slice ao n0 c0) pre.length pre rfl rfl (hown.alloc _) _ rfl [UInt8.ofNat m] (Bs.one' wr (UInt8.ofNat m) _ _ (byte_last m hlt)) ((by simp; omega)) ((by simp; omega)) ?_; intro v2 w2 hown2 hk2 hmv2)
      go_ret
      have e := HP.out
      rw [numF_last f m hlt] at e
      rw [e] at hown2
      refine ⟨v2, rfl, hown2, hbr.trans (((Below.refl _ _).alloc hzr _).trans (own_below (hown.alloc _) hk2 (by simp; omega)))⟩
    · obtain ⟨f, rfl⟩ : ∃ f', f = f' + 1 := by
        cases f with
        | zero => omega
        | succ f => exact ⟨f, rfl⟩
      have HP : Hid (pre ++ numF (f + 1) m = numB N) := hpre
      have HM : Hid (m < 128 ^ (f + 1 + 1)) := hmf
      clear hpre hmf
      go_wp2_with (at_builtin; refine wpList_append_bs rfl (.tmp 6) (.tmp 11) 30 rfl w.heap.size 5 i Try.underlying30 hi hz0 hz1 hz2 (.slice ao n0 c0) pre.length pre rfl rfl (hown.alloc _) _ rfl [UInt8.ofNat (m % 128 + 128)] (Bs.one' wr (UInt8.ofNat (m % 128 + 128)) _ _ (byte_more m)) ((by simp; omega)) ((by simp; omega)) ?_; intro v2 w2 hown2 hk2 hmv2)
      go_roundw
      case rel =>
        refine ⟨m / 128, f, pre ++ [UInt8.ofNat (m % 128 + 128)], by go_num, by omega, ?_, ?_, hown2, hbr.trans (((Below.refl _ _).alloc hzr _).trans (own_below (hown.alloc _) hk2 (by simp; omega)))⟩
        · have := HM.out
          rw [Nat.pow_succ] at this
          omega
        · have e := HP.out
          rw [numF_more f m hlt] at e
          rw [← e, List.append_assoc]; rfl
      case measure => simp [intOf]; omega

end Go.Proofs.Ytiepbjgcghedeab

namespace Go.Proofs.Ytiepbjgcghedeab
open Go.RowKit

/-- The same as one step of a region that draws its order. -/
theorem step_append_bs {P : Program} {w : World} {ops : Array Oper} {o : Oper} {a : Act} {K : Act → World → Prop} {Q : Exit → Act → World → Prop} {E : Prop} (hgd : o.guard = none) (s x : Operand) (t : TypeId)
    (ho : o.op = .call { callee := .builtin .append, args := #[s, x], argTypes := #[t, t] })
    (base : Nat) (e : TypeId) (i : TypeInfo) (ht : P.underlying t = some (.slice e)) (hi : P.info? e = some i) (hz : i.zero = some (.int .u8 0)) (hsize : i.size = 1) (hby : i.bytes = 1)
    (v : Value) (n : Nat) (l : List UInt8) (hs : a.eval s = v) (hn : n = l.length) (hown : w.ownsRow base e 1 v n (l.map bv))
    (sv : Value) (hx : a.eval x = sv) (m : List UInt8) (hsv : Bs w sv m) (hlen : n + m.length ≤ 140737488355328) (hbase : base ≤ w.heap.size)
    (h : ∀ v' w', w'.ownsRow base e 1 v' (l ++ m).length ((l ++ m).map bv) → Kept w w' (fun k => v.ownBlock = some k) → Moved w v v' → K (a.put o.dst v') w') :
    if Region.wanted o (yielded ops a.tmps) = true then Oper.wp P o a w K Q else E := by
  have hw : Region.wanted o (yielded ops a.tmps) = true := by simp [Region.wanted, hgd]
  rw [if_pos hw]
  subst hn
  obtain ⟨ao, cap, rfl, hc, hxx⟩ := hsv
  cases ao with
  | none =>
    have hm : m.length = 0 := by have := hc.2 rfl; omega
    have hm' : m = [] := List.eq_nil_of_length_eq_zero hm
    subst hm'
    have h0 : cap = 0 := hc.2 rfl
    subst h0
    have hr := run_append_owned_none (P := P) (w := w) base t o.type e i 1 ht hi v l.length (l.map bv) hown
    unfold Oper.wp
    simp [execOp, ho, resolve, invoke, builtin, hs, hx, hr, Result.andThen]
    exact h v w (by simpa using hown) (Kept.refl _ _) (Moved.refl _ _)
  | some ad =>
    obtain ⟨v', w', hr, h1, h2, _, h4⟩ := run_append_own_at (P := P) w base t o.type e i (.int .u8 0) 1 1 ht hi hz hsize hby rfl (by decide) v l.length (l.map bv) hown ad m.length cap (m.map bv) (by simp) (by
      intro j u hu
      have hne : m ≠ [] := by intro e; subst e; simp at hu
      obtain ⟨b, off, e, _, hseg⟩ := hxx hne
      cases e
      exact hseg.src j u hu) (bv_oneCell m) (by unfold maxLen; omega) (by omega) hbase
    unfold Oper.wp execOp
    simp only [ho, resolve, invoke, builtin, Sem.run_bind, Sem.run_pure, Result.andThen_ok, List.map_toArray, List.map_cons, List.map_nil, hs, hx, hr]
    refine h v' w' (by simpa using h1) (Kept.grown h2) ?_
    intro k hk
    rcases h4 with h4 | h4
    · exact Or.inl (h4 ▸ hk)
    · rw [h4] at hk
      simp only [Option.some.injEq] at hk
      exact Or.inr (by omega)

end Go.Proofs.Ytiepbjgcghedeab

