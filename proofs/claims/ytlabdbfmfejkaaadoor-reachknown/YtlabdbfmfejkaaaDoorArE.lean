/- take and drop of a block. -/
import Derived.Test.YtlabdbfmfejkaaaDoorArD
namespace Go.Proofs.YtlabdbfmfejkaaaDoor
open Go.RowKit

/-- Two cells of block b are others. -/
def Two (w w' : World) (b o : Nat) (u v : Value) : Prop :=
  Kept w w' (fun k => k = b) ∧ ∀ cs T, w.heap[b]? = some (.cells cs T (0, 0)) → w'.heap[b]? = some (.cells ((cs.setIfInBounds o u).setIfInBounds (o + 1) v) T (0, 0))

theorem placeN_lt (t : Nat) (ht : t < 65536) : placeN t < 32 := (Lib.lowest_bit 32 (4294967295 - t) (by omega) (by omega)).2

theorem not_u32 (t : Nat) (ht : t < 65536) : bits BinOp.xor IntKind.u32 IntKind.u32.max (t : Int) = ((4294967295 - t : Nat) : Int) := by
  have h := u32_xor_nat 4294967295 t (by omega) (by omega)
  have e : 4294967295 ^^^ t = 4294967295 - t := by
    apply Nat.eq_of_testBit_eq
    intro i
    have h1 := Nat.testBit_two_pow_sub_succ (x := t) (n := 32) (by omega) i
    rw [show 2 ^ 32 - (t + 1) = 4294967295 - t by omega] at h1
    have h2 := Nat.testBit_two_pow_sub_one 32 i
    rw [show 2 ^ 32 - 1 = 4294967295 from rfl] at h2
    rw [Nat.testBit_xor, h1, h2]
    by_cases hi : i < 32
    · simp [hi]
    · have : t < 2 ^ i := Nat.lt_of_lt_of_le ht (Nat.le_trans (by decide : 65536 ≤ 2 ^ 32) (Nat.pow_le_pow_right (by decide) (by omega)))
      simp [hi, Nat.testBit_lt_two_pow this]
  rw [e] at h
  exact h

theorem Kept.drew (w : World) : Kept w w.drew (fun _ => False) := ⟨rfl, rfl, rfl, Nat.le_refl _, fun _ _ _ => rfl⟩
theorem two_set (w : World) (b o : Nat) (u v : Value) : Two w ((w.setCell ⟨b, o, none⟩ u).setCell ⟨b, o + 1, none⟩ v).drew b o u v := by
  refine ⟨((Kept.setCell w ⟨b, o, none⟩ u).trans (Kept.setCell _ ⟨b, o + 1, none⟩ v) (fun _ _ e => e)).trans (Kept.drew _) (fun _ _ e => e.elim), fun cs T h => ?_⟩
  have h1 := heap_setCell_same w b o _ _ u h
  exact heap_setCell_same _ b (o + 1) _ _ v h1
theorem two_back (w : World) (b o : Nat) (u v : Value) : Two w ((w.setCell ⟨b, o + 1, none⟩ v).drew.setCell ⟨b, o, none⟩ u) b o u v := by
  refine ⟨((Kept.setCell w ⟨b, o + 1, none⟩ v).trans (Kept.drew _) (fun _ _ e => e.elim)).trans (Kept.setCell _ ⟨b, o, none⟩ u) (fun _ _ e => e), fun cs T h => ?_⟩
  have h1 := heap_setCell_same w b (o + 1) _ _ v h
  have h2 := heap_setCell_same (w.setCell ⟨b, o + 1, none⟩ v).drew b o _ _ u h1
  rw [h2, Array.setIfInBounds_comm _ _ (by omega)]
theorem two_one (w : World) (b o : Nat) (u v : Value) (h0 : w.cell? ⟨b, o, none⟩ = some u) : Two w (w.setCell ⟨b, o + 1, none⟩ v).drew b o u v := by
  refine ⟨(Kept.setCell w ⟨b, o + 1, none⟩ v).trans (Kept.drew _) (fun _ _ e => e.elim), fun cs T h => ?_⟩
  have h1 := heap_setCell_same w b (o + 1) _ _ v h
  rw [cell_of_row w b o _ _ _ h] at h0
  have e : cs.setIfInBounds o u = cs := by
    obtain ⟨hlt, h2⟩ := Array.getElem?_eq_some_iff.1 h0
    apply Array.ext'
    rw [Array.toList_setIfInBounds, ← h2, ← Array.getElem_toList, List.set_getElem_self]
  rw [e]
  exact h1
theorem pow_u32 (p : Nat) (hp : p < 32) : 2 ^ p < 4294967296 ∧ (2 : Int) ^ p % 4294967296 = ((2 ^ p : Nat) : Int) := by
  have h : 2 ^ p < 2 ^ 32 := Nat.pow_lt_pow_right (by decide) hp
  have h1 : 2 ^ p < 4294967296 := by simpa using h
  refine ⟨h1, ?_⟩
  rw [show (2 : Int) ^ p = ((2 ^ p : Nat) : Int) from (Int.natCast_pow 2 p).symm]
  generalize 2 ^ p = z at *
  omega
theorem andNot_u32 (t p : Nat) (ht : t < 65536) (hp : p < 32) : bits BinOp.andNot IntKind.u32 (t : Int) (2 ^ p % 4294967296) = ((offN t p : Nat) : Int) := by
  rw [(pow_u32 p hp).2]
  exact u32_andNot_nat t (2 ^ p) (by omega) (pow_u32 p hp).1
theorem or_u32 (t p : Nat) (ht : t < 65536) (hp : p < 32) : bits BinOp.or IntKind.u32 (t : Int) (2 ^ p % 4294967296) = ((t ||| 2 ^ p : Nat) : Int) := by
  rw [(pow_u32 p hp).2]
  exact u32_or_nat t (2 ^ p) (by omega) (pow_u32 p hp).1
theorem mul_small (p k : Nat) (hp : p ≤ 32) (hk : k ≤ 16) : (p : Int) * (k : Int) = ((p * k : Nat) : Int) ∧ p * k ≤ 512 := by
  refine ⟨by simp, ?_⟩
  exact Nat.mul_le_mul hp hk

set_option maxRecDepth 20000 in
set_option maxHeartbeats 400000 in
theorem take_any (b o c t k : Nat) (w : World) (hT : TB w) (c0 : w.cell? ⟨b, o, none⟩ = some (.int .i64 (c : Int))) (c1 : w.cell? ⟨b, o + 1, none⟩ = some (.int .u32 (t : Int))) (f0 : w.frozen? ⟨b, o, none⟩ = false) (f1 : w.frozen? ⟨b, o + 1, none⟩ = false) (ht : t < 65536) (hk : k ≤ 16) :
    Calls Tryd.prog 92 #[.pointer (some ⟨b, o, none⟩), .int .i64 (k : Int)] w fun e w' => e = .returned (.int .i64 (placeN t * k : Nat)) ∧ Two w w' b o (.int .i64 (k : Int)) (.int .u32 (t ||| 2 ^ placeN t : Nat)) := by
  have hp := placeN_lt t ht
  have hn := not_u32 t ht
  have hC : ∀ w, TB w → Calls Tryd.prog 117 #[.int .u32 ((4294967295 - t : Nat) : Int)] w fun e w' => e = .returned (.int .i64 (placeN t : Nat)) ∧ w = w' := fun w h => tz_any (4294967295 - t) (by omega) (by omega) w h
  generalize 4294967295 - t = y at *
  generalize placeN t = p at *
  have hor := or_u32 t p ht hp
  have hmul := mul_small p k (by omega) hk
  generalize t ||| 2 ^ p = T at *
  generalize p * k = M at *
  go_enter Tryd.func92, Tryd.ntmps92
  go_wp2_with fail
  refine (hC _ hT).mono ?_
  rintro e _ ⟨rfl, rfl⟩
  go_wp2
  go_region
  go_wp2
  go_ret
  refine ⟨rfl, two_set w b o _ _⟩

end Go.Proofs.YtlabdbfmfejkaaaDoor
