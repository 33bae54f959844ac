/- What the small calls beneath package arena come to: bits, classes, blocks. -/
import Derived.Test.YtlabdbfmfejkaaaDoorRows
import Derived.Test.YtlabdbfmfejkaaaDoorBase
import Derived.Test.YtlabdbfmfejkaaaDoorArM
import Derived.Deep.QuietTactic
import Derived.BigQuiet
import Derived.Lib.BitFns
import Derived.Lib.TrailingZeros
import Derived.Laws.ShiftsVarLaws
import Derived.Laws.BitsAllLaws
namespace Go.Proofs.YtlabdbfmfejkaaaDoor
open Go.RowKit

/-- The table of math/bits lies in its variable. -/
structure TB (w : World) : Prop where
  size : 0 < w.heap.size
  tab : ∀ j, j < 32 → w.cell? ⟨0, j, none⟩ = some (.int .u8 ((Lib.deBruijn32tab.getD j 0 : Nat) : Int))
theorem TB.kept {w w' : World} {S : Nat → Prop} (h : TB w) (hk : Kept w w' S) (hs : ¬ S 0) : TB w' :=
  ⟨Nat.lt_of_lt_of_le h.size hk.size, fun j hj => (World.cell?_of_block (a := ⟨0, j, none⟩) (hk.block 0 h.size hs)).trans (h.tab j hj)⟩
theorem TB.below {w w' : World} (h : TB w) (hb : Below w.heap.size w w') : TB w' := h.kept (kept_of_below hb (fun _ => False)) id

set_option maxRecDepth 20000 in
set_option maxHeartbeats 1000000 in
theorem tz_core (x k idx : Nat) (w : World) (hx0 : ((x : Int) == 0) = false)
    (key : bits BinOp.and IntKind.u32 (x : Int) (-(x : Int) % 4294967296) * 125613361 % 4294967296 / 134217728 = (idx : Int))
    (hi : idx < 32) (hk : k < 32) (hcell : w.cell? ⟨0, idx, none⟩ = some (.int .u8 k)) :
    Calls Tryd.prog 117 #[.int .u32 x] w fun e w' => e = .returned (.int .i64 k) ∧ w = w' := by
  go_enter Tryd.func117, Tryd.ntmps117
  go_wp2_with (simp only [key])
  go_ret
  exact ⟨rfl, rfl⟩
theorem tz_key (x a : Nat) (hx : x < 4294967296) (hx0 : x ≠ 0) (hlow : x &&& (4294967296 - x) = a) :
    bits BinOp.and IntKind.u32 (x : Int) (-(x : Int) % 4294967296) * 125613361 % 4294967296 / 134217728 = ((a * 125613361 % 4294967296 / 134217728 : Nat) : Int) := by
  have hn : -(x : Int) % 4294967296 = ((4294967296 - x : Nat) : Int) := by omega
  have hb := u32_and_nat x (4294967296 - x) hx (by omega)
  rw [hlow] at hb
  rw [hn, hb]
  omega
/-- math/bits.TrailingZeros32 of a number that is not 0. -/
theorem tz_any (x : Nat) (hx : x < 4294967296) (hx0 : x ≠ 0) (w : World) (hT : TB w) :
    Calls Tryd.prog 117 #[.int .u32 x] w fun e w' => e = .returned (.int .i64 (Lib.ctz 32 x : Nat)) ∧ w = w' := by
  obtain ⟨hlow, hk⟩ := Lib.lowest_bit 32 x hx0 hx
  obtain ⟨hi, htab⟩ := Lib.deBruijn32_at _ hk
  have hcell := hT.tab _ hi
  rw [htab] at hcell
  exact tz_core x _ _ w (by simp; omega) (tz_key x _ hx hx0 hlow) hi hk hcell

set_option maxRecDepth 20000 in
set_option maxHeartbeats 1000000 in
/-- math/bits.OnesCount32 of a number below 65536. -/
theorem ones_any (x : Nat) (hx : x < 65536) (w : World) :
    Calls Tryd.prog 128 #[.int .u32 x] w fun e w' => e = .returned (.int .i64 (pc x : Nat)) ∧ ∃ n, w' = w.drewN n := by
  have h24 : (x : Int) / 16777216 = 0 := by omega
  have h16 : (x : Int) / 65536 = 0 := by omega
  have h8 : (0 : Int) ≤ (x : Int) / 256 := by omega
  have h8' : (x : Int) / 256 ≤ 255 := by omega
  have b0 : bits BinOp.and IntKind.u32 0 255 = 0 := by decide
  have b8 : bits BinOp.and IntKind.u32 ((x : Int) / 256) 255 = (x : Int) / 256 := by
    have h := u32_and_nat (x / 256) 255 (by omega) (by omega)
    have e : x / 256 &&& 255 = x / 256 := by rw [show (255 : Nat) = 2 ^ 8 - 1 from rfl, Nat.and_two_pow_sub_one_eq_mod]; omega
    rw [e] at h
    simpa using h
  have b1 : bits BinOp.and IntKind.u32 (x : Int) 255 = ((x % 256 : Nat) : Int) := by
    have h := u32_and_nat x 255 (by omega) (by omega)
    have e : x &&& 255 = x % 256 := by rw [show (255 : Nat) = 2 ^ 8 - 1 from rfl, Nat.and_two_pow_sub_one_eq_mod]
    rw [e] at h
    exact h
  obtain ⟨lo, hlo⟩ : ∃ lo, lo = x % 256 := ⟨_, rfl⟩
  rw [← hlo] at b1
  have hl : lo ≤ 255 := by omega
  have hl' : (lo : Int) ≤ 255 := by omega
  have p0 : Lib.pop8 0 = 0 := by decide +kernel
  have p8 := Lib.pop8_eq ⟨x / 256, by omega⟩
  have pl := Lib.pop8_eq ⟨lo, by omega⟩
  have l8 := Lib.onesCount_le8 ⟨x / 256, by omega⟩
  have ll := Lib.onesCount_le8 ⟨lo, by omega⟩
  simp only at p8 pl l8 ll
  rw [show ((x / 256 : Nat) : Int) = (x : Int) / 256 by omega] at p8
  have hpc : Hid (pc x = Lib.onesCount (x / 256) + Lib.onesCount lo) := by
    have e : pc x = Lib.onesCount (x / 256) + Lib.onesCount lo := by rw [hlo]; exact pc_split x hx
    exact e
  clear hlo
  generalize Lib.onesCount (x / 256) = A at *
  generalize Lib.onesCount lo = B at *
  go_enter Tryd.func128, Tryd.ntmps128
  go_wp2
  go_quiet (fail)
  go_wp2
  go_ret
  refine ⟨congrArg (fun x => Ending.returned (.int .i64 x)) ?_, _, rfl⟩
  rw [hpc.out]
  omega

end Go.Proofs.YtlabdbfmfejkaaaDoor
