/- What the calls of package clock come to, one by one. -/
import Derived.Test.YtojgaiodbdgehaaRows
import Derived.Test.YtojgaiodbdgehaaBase
namespace Go.Proofs.Ytojgaiodbdgehaa
open Go.RowKit

/-- Where n lies, seen from a least and a most. -/
def sideN (n l m : Nat) : Nat := if n < l then 0 else if m < n then 2 else 1

set_option maxRecDepth 20000 in
theorem side_any (n l m : Nat) (w : World) :
    Calls Try.prog 17 #[.int .u64 (n : Int), .int .u64 (l : Int), .int .u64 (m : Int)] w fun e w' => e = .returned (.int .i64 (sideN n l m : Int)) ∧ w = w' := by
  unfold sideN
  by_cases h1 : n < l
  · rw [if_pos h1]
    go_enter Try.func17, Try.ntmps17
    go_wp2
    go_ret
    exact ⟨rfl, rfl⟩
  · rw [if_neg h1]
    by_cases h2 : m < n
    · rw [if_pos h2]
      go_enter Try.func17, Try.ntmps17
      go_wp2
      go_ret
      exact ⟨rfl, rfl⟩
    · rw [if_neg h2]
      go_enter Try.func17, Try.ntmps17
      go_wp2
      go_ret
      exact ⟨rfl, rfl⟩

/-- A clock lies in block b and is at n. -/
structure CK (w : World) (b n : Nat) : Prop where
  box : w.heap[b]? = some (.cells #[.int .u64 (n : Int)] 41 (0, 0))
  le : n ≤ 4611686018427387904

section
variable {w w' : World} {b n : Nat}
theorem CK.size (h : CK w b n) : b < w.heap.size := (Array.getElem?_eq_some_iff.1 h.box).1
theorem CK.c0 (h : CK w b n) : w.cell? ⟨b, 0, none⟩ = some (.int .u64 (n : Int)) := by rw [cell_of_row w b 0 _ _ _ h.box]; rfl
theorem CK.free (h : CK w b n) (j : Nat) : w.frozen? ⟨b, j, none⟩ = false := frozen_of_row w b j _ _ h.box
theorem CK.keep {S : Nat → Prop} (h : CK w b n) (hk : Kept w w' S) (h1 : ¬ S b) : CK w' b n := ⟨(hk.block b h.size h1).trans h.box, h.le⟩
theorem CK.below (h : CK w b n) (hb : Below w.heap.size w w') : CK w' b n := h.keep (kept_of_below hb (fun _ => False)) (fun x => x)
theorem CK.set (h : CK w b n) (m : Nat) (x : Int) (hx : x = (m : Int)) (hm : m ≤ 4611686018427387904) : CK (w.setCell ⟨b, 0, none⟩ (.int .u64 x)) b m ∧ Kept w (w.setCell ⟨b, 0, none⟩ (.int .u64 x)) (fun k => k = b) := by
  subst hx
  refine ⟨⟨?_, hm⟩, Kept.setCell w _ _⟩
  rw [heap_setCell_same w b 0 _ _ _ h.box]; rfl
end

set_option maxRecDepth 20000 in
theorem new_ok (s : Nat) (hs : s ≤ 4611686018427387904) (w : World) :
    Calls Try.prog 9 #[.int .u64 (s : Int)] w fun e w' => e = .returned (.tuple #[.pointer (some ⟨w.heap.size, 0, none⟩), .int .i64 0]) ∧ CK w' w.heap.size s ∧ Below w.heap.size w w' ∧ w'.heap.size = w.heap.size + 1 := by
  have e : sideN s 0 4611686018427387904 = 1 := by unfold sideN; rw [if_neg (by omega), if_neg (by omega)]
  go_enter Try.func9, Try.ntmps9
  go_wp2_with (go_at_call 17; refine (side_any s 0 4611686018427387904 _).mono ?_; rintro e w' ⟨rfl, rfl⟩; rw [e])
  go_ret2
  exact ⟨rfl, ⟨heap_alloc_new w _, hs⟩, (Below.refl _ _).alloc (Nat.le_refl _) _, by simp⟩

set_option maxRecDepth 20000 in
theorem new_no (s : Nat) (hs : 4611686018427387904 < s) (w : World) :
    Calls Try.prog 9 #[.int .u64 (s : Int)] w fun e w' => e = .returned (.tuple #[.pointer none, .int .i64 1]) ∧ w = w' := by
  have e : sideN s 0 4611686018427387904 = 2 := by unfold sideN; rw [if_neg (by omega), if_pos (by omega)]
  go_enter Try.func9, Try.ntmps9
  go_wp2_with (go_at_call 17; refine (side_any s 0 4611686018427387904 _).mono ?_; rintro e w' ⟨rfl, rfl⟩; rw [e])
  go_ret2
  exact ⟨rfl, rfl⟩

set_option maxRecDepth 20000 in
theorem now_any (b n : Nat) (w : World) (h : CK w b n) :
    Calls Try.prog 14 #[.pointer (some ⟨b, 0, none⟩)] w fun e w' => e = .returned (.int .u64 (n : Int)) ∧ w = w' := by
  have c0 := h.c0
  go_enter Try.func14, Try.ntmps14
  go_wp2
  go_ret
  exact ⟨rfl, rfl⟩

/-- What Tick answers, and where the clock is then. -/
def tickE (n by_ : Nat) : Nat := if 4294967295 < by_ then 1 else if 4611686018427387904 - n < by_ then 7 else 0
def tickN (n by_ : Nat) : Nat := if 4294967295 < by_ then n else if 4611686018427387904 - n < by_ then n else n + by_

set_option maxRecDepth 20000 in
set_option maxHeartbeats 400000 in
theorem tick_any (b n by_ : Nat) (w : World) (h : CK w b n) :
    Calls Try.prog 11 #[.pointer (some ⟨b, 0, none⟩), .int .u64 (by_ : Int)] w fun e w' => e = .returned (.int .i64 (tickE n by_ : Int)) ∧ CK w' b (tickN n by_) ∧ Kept w w' (fun k => k = b) := by
  have c0 := h.c0
  have f0 := h.free 0
  have hle := h.le
  unfold tickE tickN
  by_cases h1 : 4294967295 < by_
  · rw [if_pos h1, if_pos h1]
    have e : sideN by_ 0 4294967295 = 2 := by unfold sideN; rw [if_neg (by omega), if_pos (by omega)]
    go_enter Try.func11, Try.ntmps11
    go_wp2_with (go_at_call 17; refine (side_any by_ 0 4294967295 _).mono ?_; rintro e w' ⟨rfl, rfl⟩; rw [e])
    go_ret
    exact ⟨rfl, h, Kept.refl _ _⟩
  · rw [if_neg h1, if_neg h1]
    obtain ⟨r, hr⟩ : ∃ r, r = 4611686018427387904 - n := ⟨_, rfl⟩
    have e1 : sideN by_ 0 4294967295 = 1 := by unfold sideN; rw [if_neg (by omega), if_neg (by omega)]
    rw [← hr]
    by_cases h2 : r < by_
    · rw [if_pos h2, if_pos h2]
      have e2 : sideN by_ 0 r = 2 := by unfold sideN; rw [if_neg (by omega), if_pos (by omega)]
      go_enter Try.func11, Try.ntmps11
      go_wp2_with fail
      refine (side_any by_ 0 4294967295 _).mono ?_
      rintro e w' ⟨rfl, rfl⟩
      rw [e1]
      go_wp2_with fail
      rw [show (4611686018427387904 : Int) - (n : Int) = (r : Int) by omega]
      refine (side_any by_ 0 r _).mono ?_
      rintro e w' ⟨rfl, rfl⟩
      rw [e2]
      go_wp2
      go_ret
      exact ⟨rfl, h, Kept.refl _ _⟩
    · rw [if_neg h2, if_neg h2]
      have e2 : sideN by_ 0 r = 1 := by unfold sideN; rw [if_neg (by omega), if_neg (by omega)]
      go_enter Try.func11, Try.ntmps11
      go_wp2_with fail
      refine (side_any by_ 0 4294967295 _).mono ?_
      rintro e w' ⟨rfl, rfl⟩
      rw [e1]
      go_wp2_with fail
      rw [show (4611686018427387904 : Int) - (n : Int) = (r : Int) by omega]
      refine (side_any by_ 0 r _).mono ?_
      rintro e w' ⟨rfl, rfl⟩
      rw [e2]
      go_wp2
      go_ret
      have hs := h.set (n + by_) ((n : Int) + (by_ : Int)) (by omega) (by omega)
      exact ⟨rfl, hs.1, hs.2⟩

/-- Has a span gone by? -/
def pastB (a s n : Nat) : Bool := decide (a + s ≤ n)

set_option maxRecDepth 20000 in
theorem past_any (a s n : Nat) (hn : n < 18446744073709551616) (w : World) :
    Calls Try.prog 13 #[.int .u64 (a : Int), .int .u64 (s : Int), .int .u64 (n : Int)] w fun e w' => e = .returned (.bool (pastB a s n)) ∧ w = w' := by
  unfold pastB
  by_cases h1 : n < a
  · rw [decide_eq_false (by omega)]
    go_enter Try.func13, Try.ntmps13
    go_wp2
    go_ret
    exact ⟨rfl, rfl⟩
  · have e : decide (a + s ≤ n) = decide ((s : Int) ≤ (n : Int) - (a : Int)) := by
      rw [decide_eq_decide]; omega
    rw [e]
    go_enter Try.func13, Try.ntmps13
    go_wp2
    go_ret
    exact ⟨rfl, rfl⟩

end Go.Proofs.Ytojgaiodbdgehaa
