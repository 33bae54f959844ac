/- The plain Has, by its words; ID, None, within, number, serial: their walks. -/
import Derived.Test.YtcpegfjjdojinaaRHas
import Derived.Test.YtcpegfjjdojinaaWFitB
import Derived.Test.YtcpegfjjdojinaaWFitC
namespace Go.Proofs.Ytcpegfjjdojinaa
open Go.RowKit

/-- The field's word. -/
def wordOf (f : Nat) : List UInt8 :=
  if f = 1 then [99, 97, 108, 108] else
  if f = 2 then [102, 108, 111, 111, 114] else
  if f = 4 then [105, 116, 101, 109] else
  if f = 8 then [111, 112] else
  if f = 16 then [102, 105, 101, 108, 100] else
  if f = 32 then [116, 97, 114, 103, 101, 116] else
  if f = 64 then [115, 101, 113] else
  if f = 128 then [118, 111, 117, 99, 104, 101, 114] else
  if f = 256 then [97, 116] else
  if f = 512 then [100, 105, 115, 116] else
  if f = 1024 then [99, 111, 100, 101] else
  if f = 2048 then [118, 97, 108, 117, 101] else
  if f = 4096 then [114, 101, 102, 115] else
  if f = 8192 then [115, 116, 97, 109, 112] else
  if f = 16384 then [108, 105, 115, 116] else []
def hasB (k : Int) (f : Nat) : Bool := !(hasF k &&& f == 0)
theorem hasF_out {k : Int} (h : ¬ (1 ≤ k ∧ k ≤ 11)) : hasF k = 0 := by
  unfold hasF
  repeat rw [if_neg (by omega)]
theorem has_tab : ∀ n : Nat, n ≤ 11 → ∀ f ∈ [1, 2, 4, 8, 16, 32, 64, 128, 256, 512, 1024, 2048, 4096, 8192, 16384], hasW (n : Int) (wordOf f) = hasB (n : Int) f := by decide +kernel
theorem has_word (k : Int) {f : Nat} (hf : Fld f) : hasW k (wordOf f) = hasB k f := by
  by_cases h : 1 ≤ k ∧ k ≤ 11
  · obtain ⟨n, rfl⟩ : ∃ n : Nat, k = (n : Int) := ⟨k.toNat, by omega⟩
    refine has_tab n (by omega) f ?_
    unfold Fld at hf
    simp
    omega
  · unfold hasW hasB
    rw [if_neg h, hasF_out h]
    simp
theorem rhas_any (k : Int) (f : Nat) (hf : Fld f) (W : List UInt8) (hw : wordOf f = W) (w : World) :
    Calls Try.prog 38 #[.int .i64 k, sv W] w fun e w' => e = .returned (.bool (hasB k f)) ∧ Below w.heap.size w w' := by
  subst hw
  rw [← has_word k hf]
  exact has_any k _ w

set_option maxRecDepth 20000 in
theorem rwithin_any (n lo hi : Int) (w : World) :
    Calls Try.prog 35 #[.int .i64 n, .int .i64 lo, .int .i64 hi] w fun e w' => e = .returned (.bool (decide (lo ≤ n) && decide (n ≤ hi))) ∧ w = w' := by
  go_enter Try.func35, Try.ntmps35
  go_wp2
  all_goals
    go_ret
    refine ⟨congrArg (fun x => Ending.returned (.bool x)) ?_, rfl⟩
    exact Bool.eq_iff_iff.2 (by simp; omega)

def numR (h : Bool) (n lo hi : Int) : Bool := if h = true then decide (lo ≤ n) && decide (n ≤ hi) else n == 0
def serR (h : Bool) (n : Nat) : Bool := if h = true then isSerialB n else n == 0

set_option maxRecDepth 20000 in
theorem rnumber_any (h : Bool) (n lo hi : Int) (w : World) :
    Calls Try.prog 65 #[.bool h, .int .i64 n, .int .i64 lo, .int .i64 hi] w fun e w' => e = .returned (.bool (numR h n lo hi)) ∧ w = w' := by
  cases h
  · go_enter Try.func65, Try.ntmps65
    go_wp2
    go_ret
    exact ⟨rfl, rfl⟩
  · go_enter Try.func65, Try.ntmps65
    go_wp2_with (go_at_call 35; refine (rwithin_any _ _ _ _).mono ?_; rintro e w' ⟨rfl, rfl⟩)
    go_ret
    exact ⟨rfl, rfl⟩

set_option maxRecDepth 20000 in
theorem rserial_any (h : Bool) (n : Nat) (w : World) :
    Calls Try.prog 64 #[.bool h, .int .u64 (n : Int)] w fun e w' => e = .returned (.bool (serR h n)) ∧ w = w' := by
  cases h
  · go_enter Try.func64, Try.ntmps64
    go_wp2
    go_ret
    refine ⟨congrArg (fun x => Ending.returned (.bool x)) ?_, rfl⟩
    exact Bool.eq_iff_iff.2 (by simp [serR])
  · go_enter Try.func64, Try.ntmps64
    go_wp2
    all_goals
      go_ret
      refine ⟨congrArg (fun x => Ending.returned (.bool x)) ?_, rfl⟩
      exact Bool.eq_iff_iff.2 (by simp [serR, isSerialB]; omega)

set_option maxRecDepth 20000 in
set_option maxHeartbeats 400000 in
theorem rnone_any (x : Int × Nat) (w : World) : Calls Try.prog 66 #[idv x] w fun e w' => e = .returned (.bool (isNoneB x)) ∧ Below w.heap.size w w' := by
  go_enter Try.func66, Try.ntmps66
  go_wp2
  all_goals
    go_ret
    refine ⟨congrArg (fun x => Ending.returned (.bool x)) ?_, (Below.refl _ _).alloc (Nat.le_refl _) _⟩
    exact Bool.eq_iff_iff.2 (by simp [isNoneB]; try omega)

set_option maxRecDepth 20000 in
set_option maxHeartbeats 400000 in
theorem rid_any (x : Int × Nat) (w : World) : Calls Try.prog 39 #[idv x] w fun e w' => e = .returned (.bool (isIDB x)) ∧ Below w.heap.size w w' := by
  by_cases h0 : x.1 = 0
  · go_enter Try.func39, Try.ntmps39
    go_wp2
    all_goals
      go_ret
      refine ⟨congrArg (fun x => Ending.returned (.bool x)) ?_, (Below.refl _ _).alloc (Nat.le_refl _) _⟩
      exact Bool.eq_iff_iff.2 (by simp [isIDB, isNoneB, isNodeB, isSerialB]; try omega)
  · go_enter Try.func39, Try.ntmps39
    go_wp2
    all_goals
      go_ret
      refine ⟨congrArg (fun x => Ending.returned (.bool x)) ?_, (Below.refl _ _).alloc (Nat.le_refl _) _⟩
      exact Bool.eq_iff_iff.2 (by simp [isIDB, isNoneB, isNodeB, isSerialB]; try omega)

end Go.Proofs.Ytcpegfjjdojinaa
