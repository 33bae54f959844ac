import Derived.Test.YtdafpfdmnccelaaDoorArMP
import Derived.Test.YtdafpfdmnccelaaDoorTbL
/- An arena in memory; take, drop, all. -/
/- take and drop of a block. -/
/- New. -/
/- pick. -/
namespace Go.Proofs.YtdafpfdmnccelaaDoor
open Go.RowKit

/-- An arena of the blocks bs, at block b. -/
structure AR (w : World) (b : Nat) (bs : List Bk) : Prop where
  tb : TB w
  pos : 0 < b
  len : bs.length ≤ 256
  ex : ∃ cs, w.heap[b]? = some (.cells cs 146 (0, 0)) ∧ cs.size = 513 ∧ cs[0]? = some (.int .i64 (bs.length : Int)) ∧ ∀ i (hi : i < bs.length), cs[1 + i * 2]? = some (.int .i64 (bs[i].c : Int)) ∧ cs[1 + i * 2 + 1]? = some (.int .u32 (bs[i].t : Int))

section
variable {w w' : World} {b : Nat} {bs : List Bk} {S : Nat → Prop}
theorem AR.lt (h : AR w b bs) : b < w.heap.size := by
  obtain ⟨cs, h1, _⟩ := h.ex
  exact (Array.getElem?_eq_some_iff.1 h1).1
theorem AR.kept (h : AR w b bs) (hk : Kept w w' S) (h0 : ¬ S 0) (hb : ¬ S b) : AR w' b bs := by
  obtain ⟨cs, h1, h2⟩ := h.ex
  exact ⟨h.tb.kept hk h0, h.pos, h.len, cs, (hk.block b h.lt hb).trans h1, h2⟩
theorem AR.below (h : AR w b bs) (hb : Below w.heap.size w w') : AR w' b bs := h.kept (kept_of_below hb (fun _ => False)) id id
theorem AR.cnt (h : AR w b bs) : w.cell? ⟨b, 0, none⟩ = some (.int .i64 (bs.length : Int)) := by
  obtain ⟨cs, h1, _, h2, _⟩ := h.ex
  rw [cell_of_row w b 0 _ _ _ h1, h2]
theorem AR.cls (h : AR w b bs) (i : Nat) (hi : i < bs.length) : w.cell? ⟨b, 1 + i * 2, none⟩ = some (.int .i64 (bs[i].c : Int)) := by
  obtain ⟨cs, h1, _, _, h2⟩ := h.ex
  rw [cell_of_row w b _ _ _ _ h1, (h2 i hi).1]
theorem AR.tkn (h : AR w b bs) (i : Nat) (hi : i < bs.length) : w.cell? ⟨b, 1 + i * 2 + 1, none⟩ = some (.int .u32 (bs[i].t : Int)) := by
  obtain ⟨cs, h1, _, _, h2⟩ := h.ex
  rw [cell_of_row w b _ _ _ _ h1, (h2 i hi).2]
theorem AR.free (h : AR w b bs) (j : Nat) : w.frozen? ⟨b, j, none⟩ = false := by
  obtain ⟨cs, h1, _⟩ := h.ex
  exact frozen_of_row w b j _ _ h1
/-- One of its blocks is another. -/
theorem AR.set (h : AR w b bs) (n : Nat) (x : Bk) (hn : n < bs.length) (hk : Kept w w' (fun k => k = b))
    (hb : ∀ cs, w.heap[b]? = some (.cells cs 146 (0, 0)) → w'.heap[b]? = some (.cells ((cs.setIfInBounds (1 + n * 2) (.int .i64 (x.c : Int))).setIfInBounds (1 + n * 2 + 1) (.int .u32 (x.t : Int))) 146 (0, 0))) : AR w' b (bs.set n x) := by
  obtain ⟨cs, h1, h2, h3, h4⟩ := h.ex
  have hl := h.len
  refine ⟨h.tb.kept hk (by have := h.pos; show ¬ (0 = b); omega), h.pos, by simpa using h.len, _, hb cs h1, by simpa using h2, ?_, fun i hi => ?_⟩
  · rw [Array.getElem?_setIfInBounds_ne (by omega), Array.getElem?_setIfInBounds_ne (by omega), h3, List.length_set]
  · rw [List.length_set] at hi
    by_cases e : n = i
    · subst e
      rw [List.getElem_set_self]
      constructor
      · rw [Array.getElem?_setIfInBounds_ne (by omega), Array.getElem?_setIfInBounds_self_of_lt (by omega)]
      · rw [Array.getElem?_setIfInBounds_self_of_lt (by simp; omega)]
    · rw [List.getElem_set_ne e]
      obtain ⟨h5, h6⟩ := h4 i hi
      constructor
      · rw [Array.getElem?_setIfInBounds_ne (by omega), Array.getElem?_setIfInBounds_ne (by omega), h5]
      · rw [Array.getElem?_setIfInBounds_ne (by omega), Array.getElem?_setIfInBounds_ne (by omega), h6]
end

set_option maxRecDepth 20000 in
set_option maxHeartbeats 400000 in
theorem all_any (b : Nat) (bs : List Bk) (w : World) (h : AR w b bs) :
    Calls Tryd.prog 77 #[.pointer (some ⟨b, 0, none⟩)] w fun e w' => e = .returned (.slice (some ⟨b, 1, none⟩) bs.length 256) ∧ ∃ n, w' = w.drewN n := by
  have c0 := h.cnt
  have hli : (bs.length : Int) ≤ 256 := by have := h.len; omega
  have hl := h.len
  go_enter Tryd.func77, Tryd.ntmps77
  go_wp2
  go_quiet (fail)
  go_wp2
  go_ret
  exact ⟨rfl, _, rfl⟩

end Go.Proofs.YtdafpfdmnccelaaDoor

namespace Go.Proofs.YtdafpfdmnccelaaDoor
open Go.RowKit

/-- Two cells of block b are others. -/
def Two (w w' : World) (b o : Nat) (u v : Value) : Prop :=
  Kept w w' (fun k => k = b) ∧ ∀ cs T, w.heap[b]? = some (.cells cs T (0, 0)) → w'.heap[b]? = some (.cells ((cs.setIfInBounds o u).setIfInBounds (o + 1) v) T (0, 0))

theorem placeN_lt (t : Nat) (ht : t < 65536) : placeN t < 32 := (Lib.lowest_bit 32 (4294967295 - t) (by omega) (by omega)).2

theorem not_u32 (t : Nat) (ht : t < 65536) : bits BinOp.xor IntKind.u32 IntKind.u32.max (t : Int) = ((4294967295 - t : Nat) : Int) := by
  have h := u32_xor_nat 4294967295 t (by omega) (by omega)
  have e : 4294967295 ^^^ t = 4294967295 - t := by
    apply Nat.eq_of_testBit_eq
    intro i
    have h1 := Nat.testBit_two_pow_sub_succ (x := t) (n := 32) (by omega) i
    rw [show 2 ^ 32 - (t + 1) = 4294967295 - t by omega] at h1
    have h2 := Nat.testBit_two_pow_sub_one 32 i
    rw [show 2 ^ 32 - 1 = 4294967295 from rfl] at h2
    rw [Nat.testBit_xor, h1, h2]
    by_cases hi : i < 32
    · simp [hi]
    · have : t < 2 ^ i := Nat.lt_of_lt_of_le ht (Nat.le_trans (by decide : 65536 ≤ 2 ^ 32) (Nat.pow_le_pow_right (by decide) (by omega)))
      simp [hi, Nat.testBit_lt_two_pow this]
  rw [e] at h
  exact h

theorem Kept.drew (w : World) : Kept w w.drew (fun _ => False) := ⟨rfl, rfl, rfl, Nat.le_refl _, fun _ _ _ => rfl⟩
theorem two_set (w : World) (b o : Nat) (u v : Value) : Two w ((w.setCell ⟨b, o, none⟩ u).setCell ⟨b, o + 1, none⟩ v).drew b o u v := by
  refine ⟨((Kept.setCell w ⟨b, o, none⟩ u).trans (Kept.setCell _ ⟨b, o + 1, none⟩ v) (fun _ _ e => e)).trans (Kept.drew _) (fun _ _ e => e.elim), fun cs T h => ?_⟩
  have h1 := heap_setCell_same w b o _ _ u h
  exact heap_setCell_same _ b (o + 1) _ _ v h1
theorem two_back (w : World) (b o : Nat) (u v : Value) : Two w ((w.setCell ⟨b, o + 1, none⟩ v).drew.setCell ⟨b, o, none⟩ u) b o u v := by
  refine ⟨((Kept.setCell w ⟨b, o + 1, none⟩ v).trans (Kept.drew _) (fun _ _ e => e.elim)).trans (Kept.setCell _ ⟨b, o, none⟩ u) (fun _ _ e => e), fun cs T h => ?_⟩
  have h1 := heap_setCell_same w b (o + 1) _ _ v h
  have h2 := heap_setCell_same (w.setCell ⟨b, o + 1, none⟩ v).drew b o _ _ u h1
  rw [h2, Array.setIfInBounds_comm _ _ (by omega)]
theorem two_one (w : World) (b o : Nat) (u v : Value) (h0 : w.cell? ⟨b, o, none⟩ = some u) : Two w (w.setCell ⟨b, o + 1, none⟩ v).drew b o u v := by
  refine ⟨(Kept.setCell w ⟨b, o + 1, none⟩ v).trans (Kept.drew _) (fun _ _ e => e.elim), fun cs T h => ?_⟩
  have h1 := heap_setCell_same w b (o + 1) _ _ v h
  rw [cell_of_row w b o _ _ _ h] at h0
  have e : cs.setIfInBounds o u = cs := by
    obtain ⟨hlt, h2⟩ := Array.getElem?_eq_some_iff.1 h0
    apply Array.ext'
    rw [Array.toList_setIfInBounds, ← h2, ← Array.getElem_toList, List.set_getElem_self]
  rw [e]
  exact h1
theorem pow_u32 (p : Nat) (hp : p < 32) : 2 ^ p < 4294967296 ∧ (2 : Int) ^ p % 4294967296 = ((2 ^ p : Nat) : Int) := by
  have h : 2 ^ p < 2 ^ 32 := Nat.pow_lt_pow_right (by decide) hp
  have h1 : 2 ^ p < 4294967296 := by simpa using h
  refine ⟨h1, ?_⟩
  rw [show (2 : Int) ^ p = ((2 ^ p : Nat) : Int) from (Int.natCast_pow 2 p).symm]
  generalize 2 ^ p = z at *
  omega
theorem andNot_u32 (t p : Nat) (ht : t < 65536) (hp : p < 32) : bits BinOp.andNot IntKind.u32 (t : Int) (2 ^ p % 4294967296) = ((offN t p : Nat) : Int) := by
  rw [(pow_u32 p hp).2]
  exact u32_andNot_nat t (2 ^ p) (by omega) (pow_u32 p hp).1
theorem or_u32 (t p : Nat) (ht : t < 65536) (hp : p < 32) : bits BinOp.or IntKind.u32 (t : Int) (2 ^ p % 4294967296) = ((t ||| 2 ^ p : Nat) : Int) := by
  rw [(pow_u32 p hp).2]
  exact u32_or_nat t (2 ^ p) (by omega) (pow_u32 p hp).1
theorem mul_small (p k : Nat) (hp : p ≤ 32) (hk : k ≤ 16) : (p : Int) * (k : Int) = ((p * k : Nat) : Int) ∧ p * k ≤ 512 := by
  refine ⟨by simp, ?_⟩
  exact Nat.mul_le_mul hp hk

set_option maxRecDepth 20000 in
set_option maxHeartbeats 400000 in
theorem take_any (b o c t k : Nat) (w : World) (hT : TB w) (c0 : w.cell? ⟨b, o, none⟩ = some (.int .i64 (c : Int))) (c1 : w.cell? ⟨b, o + 1, none⟩ = some (.int .u32 (t : Int))) (f0 : w.frozen? ⟨b, o, none⟩ = false) (f1 : w.frozen? ⟨b, o + 1, none⟩ = false) (ht : t < 65536) (hk : k ≤ 16) :
    Calls Tryd.prog 72 #[.pointer (some ⟨b, o, none⟩), .int .i64 (k : Int)] w fun e w' => e = .returned (.int .i64 (placeN t * k : Nat)) ∧ Two w w' b o (.int .i64 (k : Int)) (.int .u32 (t ||| 2 ^ placeN t : Nat)) := by
  have hp := placeN_lt t ht
  have hn := not_u32 t ht
  have hC : ∀ w, TB w → Calls Tryd.prog 79 #[.int .u32 ((4294967295 - t : Nat) : Int)] w fun e w' => e = .returned (.int .i64 (placeN t : Nat)) ∧ w = w' := fun w h => tz_any (4294967295 - t) (by omega) (by omega) w h
  generalize 4294967295 - t = y at *
  generalize placeN t = p at *
  have hor := or_u32 t p ht hp
  have hmul := mul_small p k (by omega) hk
  generalize t ||| 2 ^ p = T at *
  generalize p * k = M at *
  go_enter Tryd.func72, Tryd.ntmps72
  go_wp2_with fail
  refine (hC _ hT).mono ?_
  rintro e _ ⟨rfl, rfl⟩
  go_wp2
  go_region
  go_wp2
  go_ret
  refine ⟨rfl, two_set w b o _ _⟩

set_option maxRecDepth 20000 in
set_option maxHeartbeats 400000 in
theorem drop_any (b o i : Nat) (x : Bk) (w : World) (hc : IsC x.c) (c0 : w.cell? ⟨b, o, none⟩ = some (.int .i64 (x.c : Int))) (c1 : w.cell? ⟨b, o + 1, none⟩ = some (.int .u32 (x.t : Int))) (f0 : w.frozen? ⟨b, o, none⟩ = false) (f1 : w.frozen? ⟨b, o + 1, none⟩ = false) (ht : x.t < 65536) (hi : i < 16) :
    Calls Tryd.prog 75 #[.pointer (some ⟨b, o, none⟩), .int .i64 (i : Int)] w fun e w' => e = .returned (.tuple #[]) ∧ Two w w' b o (.int .i64 ((dropN x i).c : Int)) (.int .u32 ((dropN x i).t : Int)) := by
  have hc0 : x.c ≠ 0 := by rcases hc with h | h | h | h | h <;> omega
  have hqi : (i : Int) / (x.c : Int) = ((i / x.c : Nat) : Int) := by simp
  have hq16 : i / x.c < 16 := Nat.lt_of_le_of_lt (Nat.div_le_self _ _) hi
  unfold dropN
  generalize i / x.c = q at *
  have han := andNot_u32 x.t q ht (by omega)
  generalize offN x.t q = T at *
  by_cases hT : T = 0
  · subst hT
    rw [if_pos rfl]
    go_enter Tryd.func75, Tryd.ntmps75
    go_wp2
    go_region
    go_wp2
    go_end0
    exact ⟨rfl, two_back w b o _ _⟩
  · rw [if_neg hT]
    have hT0 : ((T : Int) == 0) = false := by rw [beq_eq_false_iff_ne]; omega
    clear hT
    go_enter Tryd.func75, Tryd.ntmps75
    go_wp2
    go_region
    go_wp2
    go_end0
    exact ⟨rfl, two_one w b o _ _ c0⟩
end Go.Proofs.YtdafpfdmnccelaaDoor

namespace Go.Proofs.YtdafpfdmnccelaaDoor
open Go.RowKit

set_option maxRecDepth 20000 in
set_option maxHeartbeats 400000 in
theorem new_no (n : Int) (h : n < 16 ∨ 4096 < n ∨ n % 16 ≠ 0) (w : World) :
    Calls Tryd.prog 61 #[.int .i64 n] w fun e w' => e = .returned (.tuple #[.pointer none, .int .i64 1]) ∧ w = w' := by
  by_cases h1 : n < 16
  · go_enter Tryd.func61, Tryd.ntmps61
    go_wp2
    go_ret2
    exact ⟨rfl, rfl⟩
  by_cases h2 : 4096 < n
  · go_enter Tryd.func61, Tryd.ntmps61
    go_wp2
    go_ret2
    exact ⟨rfl, rfl⟩
  · have h3 : n % 16 ≠ 0 := by omega
    have h0 : 0 ≤ n := by omega
    obtain ⟨m, rfl⟩ : ∃ m : Nat, n = (m : Int) := ⟨n.toNat, by omega⟩
    have hb : ((m : Int) % 16 != 0) = true := by rw [bne_iff_ne]; exact h3
    go_enter Tryd.func61, Tryd.ntmps61
    go_wp2
    go_ret2
    exact ⟨rfl, rfl⟩

/-- The cells of an arena that is all zero. -/
def zeroA : Array Value := Array.ofFn (n := 513) fun i => if i.val % 2 = 0 ∧ i.val ≠ 0 then .int .u32 0 else .int .i64 0
theorem zeroA_info : (Tryd.prog.info? 146).map (·.zero) = some (some (.agg zeroA)) := by kernel_rfl
theorem zeroA_run (w : World) : (zeroValue 146).run Tryd.prog w = .ok (.agg zeroA) w := by
  cases hq : Tryd.prog.info? 146 with
  | none => have := zeroA_info; rw [hq] at this; cases this
  | some i =>
    have h := zeroA_info
    rw [hq] at h
    simp only [Option.map_some, Option.some.injEq] at h
    simp [zeroValue, typeInfo, hq, h]
theorem zeroA_at (i : Nat) (hi : i < 513) : zeroA[i]? = some (if i % 2 = 0 ∧ i ≠ 0 then .int .u32 0 else .int .i64 0) := by
  unfold zeroA
  rw [Array.getElem?_ofFn]
  simp [hi]
theorem zeroA_ex : ∃ Z : Array Value, (∀ w, (zeroValue 146).run Tryd.prog w = .ok (.agg Z) w) ∧ Z.size = 513 ∧ ∀ i, i < 256 → Z[1 + i * 2]? = some (.int .i64 0) ∧ Z[1 + i * 2 + 1]? = some (.int .u32 0) := by
  refine ⟨zeroA, zeroA_run, by simp [zeroA], fun i hi => ⟨?_, ?_⟩⟩
  · rw [zeroA_at _ (by omega), if_neg (by omega)]
  · rw [zeroA_at _ (by omega), if_pos (by omega)]

set_option maxRecDepth 20000 in
set_option maxHeartbeats 400000 in
theorem new_ok (n : Nat) (h1 : 1 ≤ n) (h2 : n ≤ 256) (w : World) (hT : TB w) :
    Calls Tryd.prog 61 #[.int .i64 ((16 * n : Nat) : Int)] w fun e w' => e = .returned (.tuple #[.pointer (some ⟨w.heap.size, 0, none⟩), .int .i64 0]) ∧ AR w' w.heap.size (List.replicate n ⟨0, 0⟩) ∧ Below w.heap.size w w' := by
  have e1 : ((16 * n : Nat) : Int) = 16 * (n : Int) := by omega
  have hm : (16 * (n : Int)) % 16 = 0 := by omega
  have hq : (16 * (n : Int)) / 16 = (n : Int) := by omega
  rw [e1]
  obtain ⟨Z, hz, hs, hc⟩ := zeroA_ex
  have hne : (Z = #[]) = False := eq_false (fun e => by subst e; simp at hs)
  have HS : Hid (Z.size = 513) := hs
  have HC : Hid (∀ i, i < 256 → Z[1 + i * 2]? = some (.int .i64 0) ∧ Z[1 + i * 2 + 1]? = some (.int .u32 0)) := hc
  clear hs hc
  go_enter Tryd.func61, Tryd.ntmps61
  go_wp2
  go_ret2
  have hs := HS.out
  refine ⟨rfl, ⟨hT.below ((Below.refl _ _).alloc (Nat.le_refl _) _), hT.size, by simpa using h2, _, heap_alloc_new w _, by simpa using hs, ?_, fun i hi => ?_⟩, (Below.refl _ _).alloc (Nat.le_refl _) _⟩
  · rw [Array.getElem?_setIfInBounds_self_of_lt (by omega), List.length_replicate]
  · rw [List.length_replicate] at hi
    obtain ⟨h3, h4⟩ := HC.out i (by omega)
    rw [Array.getElem?_setIfInBounds_ne (by omega), Array.getElem?_setIfInBounds_ne (by omega), h3, h4]
    simp

end Go.Proofs.YtdafpfdmnccelaaDoor

namespace Go.Proofs.YtdafpfdmnccelaaDoor
open Go.RowKit

set_option maxRecDepth 20000 in
theorem pick_index (k j f : Nat) (hj : j < 2) (hf : j = 0 → f = k) (hF : j = 1 → f = 0) (W : World) : (Instr.index 152 (.agg #[.int .i64 (k : Int), .int .i64 0]) (.int .i64 (j : Int))).run Tryd.prog W = .ok (.int .i64 (f : Int)) W := by
  by_cases e : j = 0
  · rw [hf e, e]; rfl
  · have e1 : j = 1 := by omega
    rw [hF e1, e1]; rfl
theorem isB_cls {f k : Nat} {x : Bk} (h : x.c ≠ f) : isB f k x = false := by
  unfold isB
  have : (x.c == f) = false := by rw [beq_eq_false_iff_ne]; exact h
  rw [this]; rfl
theorem isB_yes {f k : Nat} {x : Bk} (h : x.c = f) : isB f k x = decide (0 < roomN x k) := by
  unfold isB
  have : (x.c == f) = true := by rw [beq_iff_eq]; exact h
  rw [this]; rfl

set_option maxRecDepth 20000 in
set_option maxHeartbeats 1000000 in
theorem pick_any' (b k : Nat) (bs : List Bk) (hk : IsC k) (hO : AO bs) (w : World) (h : AR w b bs) :
    Calls Tryd.prog 71 #[.pointer (some ⟨b, 0, none⟩), .int .i64 (k : Int)] w fun e w' => e = .returned (.tuple #[.int .i64 (pickV k bs).1, .bool (pickV k bs).2]) ∧ Below w.heap.size w w' := by
  have hl : (bs.length : Int) ≤ 256 := by have := h.len; omega
  go_enter Tryd.func71, Tryd.ntmps71
  go_wp2
  go_loopw [12] (fun i wr => ∃ j : Nat, j ≤ 2 ∧ i = .int .i64 (j : Int) ∧ (1 ≤ j → firstB k k bs = none) ∧ (2 ≤ j → firstB 0 k bs = none) ∧ Below w.heap.size w wr) (fun i _ => 2 - (intOf i).toNat)
  case atStart => exact ⟨0, by omega, rfl, fun h => by omega, fun h => by omega, Below.refl _ _⟩
  case round =>
    obtain ⟨j, hj, rfl, hj1, hj2, hb⟩ := hrel
    have H1 : Hid (1 ≤ j → firstB k k bs = none) := hj1
    have H2 : Hid (2 ≤ j → firstB 0 k bs = none) := hj2
    clear hj1 hj2
    by_cases hlt : (j : Int) < 2
    · have har := h.below hb
      obtain ⟨f, hf, hF⟩ : ∃ f : Nat, (j = 0 → f = k) ∧ (j = 1 → f = 0) := ⟨if j = 0 then k else 0, by intro e; simp [e], by intro e; simp [e]⟩
      have hix := pick_index k j f (by omega) hf hF
      have HF : Hid ((j = 0 → f = k) ∧ (j = 1 → f = 0)) := ⟨hf, hF⟩
      clear hf hF
      go_wp2_with (go_at_call 77; refine (all_any b bs _ har).mono ?_; rintro e w1 ⟨rfl, n1, hw1⟩; have hb1 : Below w.heap.size w w1 := by { rw [hw1]; exact hb.trans ((below_drewN0 _ _).mono hb.size) }; clear hw1)
      go_loopw [18] (fun i wr => ∃ m : Nat, m ≤ bs.length ∧ i = .int .i64 (m : Int) ∧ (∀ x ∈ bs.take m, isB f k x = false) ∧ Below w.heap.size w wr) (fun i _ => bs.length - (intOf i).toNat)
      case atStart => exact ⟨0, Nat.zero_le _, rfl, by simp, hb1⟩
      case round =>
        obtain ⟨m, hm, rfl, hall, hb2⟩ := hrel
        have HA : Hid (∀ x ∈ bs.take m, isB f k x = false) := hall
        clear hall har hb hb1
        by_cases hml : (m : Int) < (bs.length : Int)
        · have har := h.below hb2
          have hm' : m < bs.length := by omega
          have c0 := har.cls m hm'
          have c1 := har.tkn m hm'
          have hbl := har.lt
          have HY : Hid (isB f k bs[m] = true → firstB f k bs = some m) := fun h => firstB_some hm' h HA.out
          have HN : Hid (isB f k bs[m] = false → ∀ x ∈ bs.take (m + 1), isB f k x = false) := fun h => take_more hm' HA.out h
          have hOk := hO bs[m] (List.getElem_mem hm')
          generalize bs[m] = x at *
          clear HA
          by_cases hc : x.c = f
          · have hce : ((x.c : Int) == (f : Int)) = true := by rw [beq_iff_eq]; omega
            have hR : roomN x k ≤ 16 := by
              unfold roomN
              split
              · exact Nat.le_trans (Nat.sub_le _ _) (Nat.div_le_self _ _)
              · omega
            have HYN : Hid (isB f k x = decide (0 < roomN x k)) := isB_yes hc
            clear hc
            by_cases hr0 : 0 < roomN x k
            · have hri : (0 : Int) < (roomN x k : Int) := by omega
              have hP : Hid (pickV k bs = (m, true)) := by
                have hy := HY.out (by rw [HYN.out]; exact decide_eq_true hr0)
                have hf := HF.out
                have e : pickV k bs = (m, true) := by
                  unfold pickV pickB
                  by_cases e : j = 0
                  · rw [hf.1 e] at hy
                    rw [hy]
                  · rw [hf.2 (by omega)] at hy
                    rw [H1.out (by omega), hy]
                exact e
              go_wp2_with (go_at_call 78; refine (broom_any x k hk hOk.lt (hOk.pc k) _).mono ?_; rintro e w3 ⟨rfl, hb3⟩)
              go_ret2
              rw [hP.out]
              exact ⟨rfl, (hb2.alloc hb2.size _).trans (hb3.mono (by have := hb2.size; simp; omega))⟩
            · have hri : ¬ (0 : Int) < (roomN x k : Int) := by omega
              go_wp2_with (go_at_call 78; refine (broom_any x k hk hOk.lt (hOk.pc k) _).mono ?_; rintro e w3 ⟨rfl, hb3⟩)
              go_roundw
              case rel => exact ⟨m + 1, by omega, by go_num, HN.out (by rw [HYN.out]; exact decide_eq_false hr0), (hb2.alloc hb2.size _).trans (hb3.mono (by have := hb2.size; simp; omega))⟩
              case measure => simp [intOf]; omega
          · have hce : ((x.c : Int) == (f : Int)) = false := by rw [beq_eq_false_iff_ne]; omega
            go_wp2
            go_roundw
            case rel => exact ⟨m + 1, by omega, by go_num, HN.out (isB_cls hc), hb2.alloc hb2.size _⟩
            case measure => simp [intOf]; omega
        · have HN : Hid (firstB f k bs = none) := by
            have e : firstB f k bs = none := firstB_none (by
              have := HA.out
              rwa [List.take_of_length_le (by omega)] at this)
            exact e
          clear HA
          go_wp2
          go_roundw
          case rel =>
            have hf := HF.out
            refine ⟨j + 1, by omega, by go_num, fun _ => ?_, fun h2 => ?_, hb2⟩
            · by_cases e : j = 0
              · have := HN.out
                rwa [hf.1 e] at this
              · exact H1.out (by omega)
            · have := HN.out
              rwa [hf.2 (by omega)] at this
          case measure => simp [intOf]; omega
    · have hP : Hid (pickV k bs = (0, false)) := by
        have e : pickV k bs = (0, false) := by
          unfold pickV pickB
          rw [H1.out (by omega), H2.out (by omega)]
        exact e
      go_wp2
      go_ret2
      rw [hP.out]
      exact ⟨rfl, hb⟩
end Go.Proofs.YtdafpfdmnccelaaDoor
