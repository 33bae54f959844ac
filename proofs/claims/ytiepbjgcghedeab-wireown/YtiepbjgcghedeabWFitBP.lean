import Derived.Test.YtiepbjgcghedeabBaseP
/- Which fields a Kind has: the walk of the switch that falls through. -/
/- What package wire knows of one field: the walks of its small calls. -/
/- IDs, and what package wire asks of the fields. -/
/- The plain Has, by its words; ID, None, within, number, serial: their walks. -/
namespace Go.Proofs.Ytiepbjgcghedeab
open Go.RowKit

/-- What a Kind has. -/
def hasF (k : Int) : Nat :=
  if k = 1 then 6203 else if k = 2 then 7169 else if k = 3 then 1 else if k = 4 then 992 else if k = 5 then 1376 else if k = 6 then 96 else if k = 7 then 96 else
  if k = 8 then 45 else if k = 9 then 25605 else if k = 10 then 8229 else if k = 11 then 5 else 0

theorem kinds (k : Int) : k = 1 ∨ k = 2 ∨ k = 3 ∨ k = 4 ∨ k = 5 ∨ k = 6 ∨ k = 7 ∨ k = 8 ∨ k = 9 ∨ k = 10 ∨ k = 11 ∨ ¬ (1 ≤ k ∧ k ≤ 11) := by omega

set_option maxHeartbeats 2000000 in
theorem fieldsOf_any (k : Int) (w : World) : Calls Try.prog 24 #[.int .i64 k] w fun e w' => e = .returned (.int .u64 (hasF k : Int)) ∧ w = w' := by
  rcases kinds k with rfl | rfl | rfl | rfl | rfl | rfl | rfl | rfl | rfl | rfl | rfl | h
  case inr.inr.inr.inr.inr.inr.inr.inr.inr.inr.inr =>
    have e : hasF k = 0 := by
      unfold hasF
      repeat rw [if_neg (by omega)]
    have n1 : (k == 1) = false := beq_eq_false_iff_ne.2 (by omega)
    have n2 : (k == 2) = false := beq_eq_false_iff_ne.2 (by omega)
    have n3 : (k == 3) = false := beq_eq_false_iff_ne.2 (by omega)
    have n4 : (k == 4) = false := beq_eq_false_iff_ne.2 (by omega)
    have n5 : (k == 5) = false := beq_eq_false_iff_ne.2 (by omega)
    have n6 : (k == 6) = false := beq_eq_false_iff_ne.2 (by omega)
    have n7 : (k == 7) = false := beq_eq_false_iff_ne.2 (by omega)
    have n8 : (k == 8) = false := beq_eq_false_iff_ne.2 (by omega)
    have n9 : (k == 9) = false := beq_eq_false_iff_ne.2 (by omega)
    have n10 : (k == 10) = false := beq_eq_false_iff_ne.2 (by omega)
    have n11 : (k == 11) = false := beq_eq_false_iff_ne.2 (by omega)
    clear h
    go_enter Try.func24, Try.ntmps24
    go_wp2
    go_ret
    exact ⟨congrArg (fun x => Ending.returned (.int .u64 x)) (by rw [e]; rfl), rfl⟩
  all_goals
    go_enter Try.func24, Try.ntmps24
    go_wp2
    go_ret
    exact ⟨congrArg (fun x => Ending.returned (.int .u64 x)) (by decide +kernel), rfl⟩

end Go.Proofs.Ytiepbjgcghedeab

namespace Go.Proofs.Ytiepbjgcghedeab
open Go.RowKit

theorem wrap_u64 (z : Int) : IntKind.u64.wrap z = ((u64 z : Nat) : Int) := by
  have h := Int.emod_nonneg z (show (18446744073709551616 : Int) ≠ 0 by decide)
  simp only [u64, Int.toNat_of_nonneg h]
  rfl

set_option maxHeartbeats 400000 in
theorem isNode_any (z : Int) (w : World) : Calls Try.prog 26 #[.int .i64 z] w fun e w' => e = .returned (.bool (decide (1 ≤ z) && decide (z ≤ 64))) ∧ w = w' := by
  go_enter Try.func26, Try.ntmps26
  go_wp2
  all_goals
    go_ret
    refine ⟨congrArg (fun x => Ending.returned (.bool x)) ?_, rfl⟩
    exact Bool.eq_iff_iff.2 (by simp; omega)

set_option maxHeartbeats 400000 in
theorem isSerial_any (n : Nat) (w : World) : Calls Try.prog 65 #[.int .u64 (n : Int)] w fun e w' => e = .returned (.bool (decide (1 ≤ n) && decide (n ≤ 72057594037927935))) ∧ w = w' := by
  go_enter Try.func65, Try.ntmps65
  go_wp2
  all_goals
    go_ret
    refine ⟨congrArg (fun x => Ending.returned (.bool x)) ?_, rfl⟩
    exact Bool.eq_iff_iff.2 (by simp; omega)

set_option maxHeartbeats 2000000 in
theorem wnumber_any (m : Msg) (f : Nat) (hf : Fld f) (ro lo : Option Addr) (rc lc : Nat) (w : World) :
    Calls Try.prog 44 #[m.v ro lo rc lc, .int .u64 (f : Int)] w fun e w' => e = .returned (.int .u64 (m.num f : Int)) ∧ Below w.heap.size w w' := by
  rcases hf with rfl | rfl | rfl | rfl | rfl | rfl | rfl | rfl | rfl | rfl | rfl | rfl | rfl | rfl | rfl
  all_goals
    go_enter Try.func44, Try.ntmps44
    go_wp2
    go_ret
    exact ⟨congrArg (fun x => Ending.returned (.int .u64 x)) (by simp [Msg.num, wrap_u64]), (Below.refl _ _).alloc (Nat.le_refl _) _⟩

/-- How small and how great. -/
def lowF (f : Nat) : Nat := if f = 1 ∨ f = 2 ∨ f = 8 ∨ f = 64 ∨ f = 128 ∨ f = 512 then 1 else 0
def topF (k : Int) (f : Nat) : Nat :=
  if f = 1 ∨ f = 64 then 72057594037927935 else if f = 4 then 4095 else if f = 8 then (if k = 8 then 3 else 6) else if f = 16 then 63 else if f = 128 then 64 else if f = 512 then 40 else
  if f = 1024 then (if k = 9 then 2 else 10) else 18446744073709551615

set_option maxHeartbeats 2000000 in
theorem bounds_any (k : Int) (f : Nat) (hf : Fld f) (w : World) :
    Calls Try.prog 50 #[.int .i64 k, .int .u64 (f : Int)] w fun e w' => e = .returned (.tuple #[.int .u64 (lowF f : Int), .int .u64 (topF k f : Int)]) ∧ w = w' := by
  have go : ∀ {a b c d : Int}, a = b → c = d → Ending.returned (.tuple #[.int .u64 a, .int .u64 c]) = Ending.returned (.tuple #[.int .u64 b, .int .u64 d]) := by rintro a b c d rfl rfl; rfl
  rcases hf with rfl | rfl | rfl | rfl | rfl | rfl | rfl | rfl | rfl | rfl | rfl | rfl | rfl | rfl | rfl
  all_goals
    go_enter Try.func50, Try.ntmps50
    go_wp2
  all_goals
    go_ret2
    exact ⟨go rfl (by simp_all [topF]), rfl⟩

end Go.Proofs.Ytiepbjgcghedeab

namespace Go.Proofs.Ytiepbjgcghedeab
open Go.RowKit

@[reducible] def idv (x : Int × Nat) : Value := .agg #[.int .i64 x.1, .int .u64 (x.2 : Int)]
def isNoneB (x : Int × Nat) : Bool := x.1 == 0 && x.2 == 0
def isNodeB (z : Int) : Bool := decide (1 ≤ z) && decide (z ≤ 64)
def isSerialB (n : Nat) : Bool := decide (1 ≤ n) && decide (n ≤ 72057594037927935)
def isIDB (x : Int × Nat) : Bool := isNoneB x || (isNodeB x.1 && isSerialB x.2)

/-- What was boxed lies there as long as nothing below is written. -/
theorem boxed {w w1 : World} {vs : Array Value} {t : TypeId} (hb : Below (w.alloc (.cells vs t)).heap.size (w.alloc (.cells vs t)) w1) : w1.heap[w.heap.size]? = some (.cells vs t (0, 0)) := by
  rw [hb.block _ (by simp)]
  exact heap_alloc_new w _
theorem below_alloc {w w1 : World} {o : Obj} (hb : Below (w.alloc o).heap.size (w.alloc o) w1) : Below w.heap.size w w1 :=
  ((Below.refl _ _).alloc (Nat.le_refl _) o).trans (hb.mono (by simp))

set_option maxHeartbeats 400000 in
theorem isNone_any (x : Int × Nat) (w : World) : Calls Try.prog 45 #[idv x] w fun e w' => e = .returned (.bool (isNoneB x)) ∧ Below w.heap.size w w' := by
  go_enter Try.func45, Try.ntmps45
  go_wp2
  all_goals
    go_ret
    exact ⟨congrArg (fun x => Ending.returned (.bool x)) (by simp_all [isNoneB]), (Below.refl _ _).alloc (Nat.le_refl _) _⟩

set_option maxHeartbeats 400000 in
theorem isID_any (x : Int × Nat) (w : World) : Calls Try.prog 46 #[idv x] w fun e w' => e = .returned (.bool (isIDB x)) ∧ Below w.heap.size w w' := by
  have hn := fun w => isNone_any x w
  have hd := fun w => isNode_any x.1 w
  have hs := fun w => isSerial_any x.2 w
  have hid : isIDB x = (isNoneB x || (isNodeB x.1 && isSerialB x.2)) := rfl
  change ∀ w, Calls _ _ _ w fun e w' => e = .returned (.bool (isNodeB x.1)) ∧ w = w' at hd
  change ∀ w, Calls _ _ _ w fun e w' => e = .returned (.bool (isSerialB x.2)) ∧ w = w' at hs
  generalize isNoneB x = p at *
  generalize isNodeB x.1 = q at *
  generalize isSerialB x.2 = r at *
  rw [hid]
  cases p <;> cases q <;> cases r
  all_goals
    go_enter Try.func46, Try.ntmps46
    go_wp2_with (first
      | (go_at_call 45; refine (hn _).mono ?_; rintro e w1 ⟨rfl, hb1⟩; have c0 := cell_of_row w1 w.heap.size 0 _ _ _ (boxed hb1); have c1 := cell_of_row w1 w.heap.size 1 _ _ _ (boxed hb1))
      | (go_at_call 26; refine (hd _).mono ?_; rintro e w2 ⟨rfl, rfl⟩)
      | (go_at_call 65; refine (hs _).mono ?_; rintro e w2 ⟨rfl, rfl⟩))
    go_ret
    exact ⟨rfl, below_alloc hb1⟩

def wantsB (m : Msg) : Bool := if m.kind = 1 then m.op == 1 || m.op == 6 else if m.kind = 8 then m.op == 3 else false

set_option maxHeartbeats 400000 in
theorem wantsNone_any (m : Msg) (ro lo : Option Addr) (rc lc : Nat) (w : World) :
    Calls Try.prog 47 #[m.v ro lo rc lc] w fun e w' => e = .returned (.bool (wantsB m)) ∧ Below w.heap.size w w' := by
  go_enter Try.func47, Try.ntmps47
  go_wp2
  all_goals
    go_ret
    exact ⟨congrArg (fun x => Ending.returned (.bool x)) (by simp_all [wantsB]), (Below.refl _ _).alloc (Nat.le_refl _) _⟩

def areIDsB (xs : List (Int × Nat)) : Bool := decide (xs.length ≤ 2) && xs.all isIDB
def risesFrom (p : Nat) : List Nat → Bool
  | [] => true
  | x :: r => isSerialB x && decide (p < x) && risesFrom x r
def isListB (l : List Nat) : Bool := decide (l.length ≤ 64) && risesFrom 0 l

set_option maxRecDepth 20000 in
set_option maxHeartbeats 1000000 in
theorem areIDs_any (xs : List (Int × Nat)) (ao : Option Addr) (cap : Nat) (w : World) (hx : IDs w ao xs) (hl : xs.length ≤ 140737488355328) :
    Calls Try.prog 48 #[.slice ao xs.length cap] w fun e w' => e = .returned (.bool (areIDsB xs)) ∧ Below w.heap.size w w' := by
  by_cases h2 : xs.length ≤ 2
  · go_enter Try.func48, Try.ntmps48
    go_wp2
    go_loopw [10] (fun i wr => ∃ k : Nat, k ≤ xs.length ∧ i = .int .i64 k ∧ (xs.drop k).all isIDB = xs.all isIDB ∧ Below w.heap.size w wr) (fun i _ => xs.length - (intOf i).toNat)
    case atStart => exact ⟨0, Nat.zero_le _, rfl, rfl, Below.refl _ _⟩
    case round =>
      obtain ⟨k, hk, rfl, hall, hbr⟩ := hrel
      by_cases hlt : k < xs.length
      · obtain ⟨blk, off, rfl, hblk, hat⟩ := hx (by intro e; subst e; simp at hlt)
        have a0 := (hbr.cell (p := ⟨blk, off + k * 2, none⟩) hblk).trans (hat k hlt).1
        have a1 := (hbr.cell (p := ⟨blk, off + k * 2 + 1, none⟩) hblk).trans (hat k hlt).2
        rw [List.drop_eq_getElem_cons hlt, List.all_cons] at hall
        have HA : Hid ((isIDB xs[k] && (xs.drop (k + 1)).all isIDB) = xs.all isIDB) := hall
        clear hall hat hx
        have hid := fun w => isID_any xs[k] w
        have HR : Hid (areIDsB xs = xs.all isIDB) := by show _ = _; simp [areIDsB, h2]
        generalize hX : xs[k] = x at *
        cases hp : isIDB x
        · rw [hp] at hid
          go_wp2_with (go_at_call 46; refine (hid _).mono ?_; rintro e w1 ⟨rfl, hb1⟩)
          go_ret
          refine ⟨congrArg (fun x => Ending.returned (.bool x)) (by rw [HR.out, ← HA.out, hp]; rfl), hbr.trans (below_alloc hb1 |>.mono hbr.size)⟩
        · rw [hp] at hid
          go_wp2_with (go_at_call 46; refine (hid _).mono ?_; rintro e w1 ⟨rfl, hb1⟩)
          go_roundw
          case rel => exact ⟨k + 1, by omega, by go_num, by rw [← HA.out, hp]; rfl, hbr.trans (below_alloc hb1 |>.mono hbr.size)⟩
          case measure => simp [intOf]; omega
      · have hkl : k = xs.length := by omega
        go_wp2
        go_ret
        refine ⟨congrArg (fun x => Ending.returned (.bool x)) ?_, hbr⟩
        rw [areIDsB, ← hall, hkl]
        simp [h2]
  · go_enter Try.func48, Try.ntmps48
    go_wp2
    go_ret
    exact ⟨congrArg (fun x => Ending.returned (.bool x)) (by simp [areIDsB, h2]), Below.refl _ _⟩

end Go.Proofs.Ytiepbjgcghedeab

namespace Go.Proofs.Ytiepbjgcghedeab
open Go.RowKit

/-- The field's word. -/
def wordOf (f : Nat) : List UInt8 :=
  if f = 1 then [99, 97, 108, 108] else
  if f = 2 then [102, 108, 111, 111, 114] else
  if f = 4 then [105, 116, 101, 109] else
  if f = 8 then [111, 112] else
  if f = 16 then [102, 105, 101, 108, 100] else
  if f = 32 then [116, 97, 114, 103, 101, 116] else
  if f = 64 then [115, 101, 113] else
  if f = 128 then [118, 111, 117, 99, 104, 101, 114] else
  if f = 256 then [97, 116] else
  if f = 512 then [100, 105, 115, 116] else
  if f = 1024 then [99, 111, 100, 101] else
  if f = 2048 then [118, 97, 108, 117, 101] else
  if f = 4096 then [114, 101, 102, 115] else
  if f = 8192 then [115, 116, 97, 109, 112] else
  if f = 16384 then [108, 105, 115, 116] else []
def hasB (k : Int) (f : Nat) : Bool := !(hasF k &&& f == 0)
theorem hasF_out {k : Int} (h : ¬ (1 ≤ k ∧ k ≤ 11)) : hasF k = 0 := by
  unfold hasF
  repeat rw [if_neg (by omega)]
theorem has_tab : ∀ n : Nat, n ≤ 11 → ∀ f ∈ [1, 2, 4, 8, 16, 32, 64, 128, 256, 512, 1024, 2048, 4096, 8192, 16384], hasW (n : Int) (wordOf f) = hasB (n : Int) f := by decide +kernel
theorem has_word (k : Int) {f : Nat} (hf : Fld f) : hasW k (wordOf f) = hasB k f := by
  by_cases h : 1 ≤ k ∧ k ≤ 11
  · obtain ⟨n, rfl⟩ : ∃ n : Nat, k = (n : Int) := ⟨k.toNat, by omega⟩
    refine has_tab n (by omega) f ?_
    unfold Fld at hf
    simp
    omega
  · unfold hasW hasB
    rw [if_neg h, hasF_out h]
    simp
theorem rhas_any (k : Int) (f : Nat) (hf : Fld f) (W : List UInt8) (hw : wordOf f = W) (w : World) :
    Calls Try.prog 59 #[.int .i64 k, sv W] w fun e w' => e = .returned (.bool (hasB k f)) ∧ Below w.heap.size w w' := by
  subst hw
  rw [← has_word k hf]
  exact has_any k _ w

set_option maxRecDepth 20000 in
theorem rwithin_any (n lo hi : Int) (w : World) :
    Calls Try.prog 56 #[.int .i64 n, .int .i64 lo, .int .i64 hi] w fun e w' => e = .returned (.bool (decide (lo ≤ n) && decide (n ≤ hi))) ∧ w = w' := by
  go_enter Try.func56, Try.ntmps56
  go_wp2
  all_goals
    go_ret
    refine ⟨congrArg (fun x => Ending.returned (.bool x)) ?_, rfl⟩
    exact Bool.eq_iff_iff.2 (by simp; omega)

def numR (h : Bool) (n lo hi : Int) : Bool := if h = true then decide (lo ≤ n) && decide (n ≤ hi) else n == 0
def serR (h : Bool) (n : Nat) : Bool := if h = true then isSerialB n else n == 0

set_option maxRecDepth 20000 in
theorem rnumber_any (h : Bool) (n lo hi : Int) (w : World) :
    Calls Try.prog 72 #[.bool h, .int .i64 n, .int .i64 lo, .int .i64 hi] w fun e w' => e = .returned (.bool (numR h n lo hi)) ∧ w = w' := by
  cases h
  · go_enter Try.func72, Try.ntmps72
    go_wp2
    go_ret
    exact ⟨rfl, rfl⟩
  · go_enter Try.func72, Try.ntmps72
    go_wp2_with (go_at_call 56; refine (rwithin_any _ _ _ _).mono ?_; rintro e w' ⟨rfl, rfl⟩)
    go_ret
    exact ⟨rfl, rfl⟩

set_option maxRecDepth 20000 in
theorem rserial_any (h : Bool) (n : Nat) (w : World) :
    Calls Try.prog 71 #[.bool h, .int .u64 (n : Int)] w fun e w' => e = .returned (.bool (serR h n)) ∧ w = w' := by
  cases h
  · go_enter Try.func71, Try.ntmps71
    go_wp2
    go_ret
    refine ⟨congrArg (fun x => Ending.returned (.bool x)) ?_, rfl⟩
    exact Bool.eq_iff_iff.2 (by simp [serR])
  · go_enter Try.func71, Try.ntmps71
    go_wp2
    all_goals
      go_ret
      refine ⟨congrArg (fun x => Ending.returned (.bool x)) ?_, rfl⟩
      exact Bool.eq_iff_iff.2 (by simp [serR, isSerialB]; omega)

set_option maxRecDepth 20000 in
set_option maxHeartbeats 400000 in
theorem rnone_any (x : Int × Nat) (w : World) : Calls Try.prog 73 #[idv x] w fun e w' => e = .returned (.bool (isNoneB x)) ∧ Below w.heap.size w w' := by
  go_enter Try.func73, Try.ntmps73
  go_wp2
  all_goals
    go_ret
    refine ⟨congrArg (fun x => Ending.returned (.bool x)) ?_, (Below.refl _ _).alloc (Nat.le_refl _) _⟩
    exact Bool.eq_iff_iff.2 (by simp [isNoneB]; try omega)

set_option maxRecDepth 20000 in
set_option maxHeartbeats 400000 in
theorem rid_any (x : Int × Nat) (w : World) : Calls Try.prog 60 #[idv x] w fun e w' => e = .returned (.bool (isIDB x)) ∧ Below w.heap.size w w' := by
  by_cases h0 : x.1 = 0
  · go_enter Try.func60, Try.ntmps60
    go_wp2
    all_goals
      go_ret
      refine ⟨congrArg (fun x => Ending.returned (.bool x)) ?_, (Below.refl _ _).alloc (Nat.le_refl _) _⟩
      exact Bool.eq_iff_iff.2 (by simp [isIDB, isNoneB, isNodeB, isSerialB]; try omega)
  · go_enter Try.func60, Try.ntmps60
    go_wp2
    all_goals
      go_ret
      refine ⟨congrArg (fun x => Ending.returned (.bool x)) ?_, (Below.refl _ _).alloc (Nat.le_refl _) _⟩
      exact Bool.eq_iff_iff.2 (by simp [isIDB, isNoneB, isNodeB, isSerialB]; try omega)

end Go.Proofs.Ytiepbjgcghedeab

