/- IDs, and what package wire asks of the fields. -/
import Derived.Test.YtcpegfjjdojinaaWFitA
import Derived.Test.YtcpegfjjdojinaaWFitB
namespace Go.Proofs.Ytcpegfjjdojinaa
open Go.RowKit

@[reducible] def idv (x : Int × Nat) : Value := .agg #[.int .i64 x.1, .int .u64 (x.2 : Int)]
def isNoneB (x : Int × Nat) : Bool := x.1 == 0 && x.2 == 0
def isNodeB (z : Int) : Bool := decide (1 ≤ z) && decide (z ≤ 64)
def isSerialB (n : Nat) : Bool := decide (1 ≤ n) && decide (n ≤ 72057594037927935)
def isIDB (x : Int × Nat) : Bool := isNoneB x || (isNodeB x.1 && isSerialB x.2)

/-- What was boxed lies there as long as nothing below is written. -/
theorem boxed {w w1 : World} {vs : Array Value} {t : TypeId} (hb : Below (w.alloc (.cells vs t)).heap.size (w.alloc (.cells vs t)) w1) : w1.heap[w.heap.size]? = some (.cells vs t (0, 0)) := by
  rw [hb.block _ (by simp)]
  exact heap_alloc_new w _
theorem below_alloc {w w1 : World} {o : Obj} (hb : Below (w.alloc o).heap.size (w.alloc o) w1) : Below w.heap.size w w1 :=
  ((Below.refl _ _).alloc (Nat.le_refl _) o).trans (hb.mono (by simp))

set_option maxHeartbeats 400000 in
theorem isNone_any (x : Int × Nat) (w : World) : Calls Try.prog 58 #[idv x] w fun e w' => e = .returned (.bool (isNoneB x)) ∧ Below w.heap.size w w' := by
  go_enter Try.func58, Try.ntmps58
  go_wp2
  all_goals
    go_ret
    exact ⟨congrArg (fun x => Ending.returned (.bool x)) (by simp_all [isNoneB]), (Below.refl _ _).alloc (Nat.le_refl _) _⟩

set_option maxHeartbeats 400000 in
theorem isID_any (x : Int × Nat) (w : World) : Calls Try.prog 59 #[idv x] w fun e w' => e = .returned (.bool (isIDB x)) ∧ Below w.heap.size w w' := by
  have hn := fun w => isNone_any x w
  have hd := fun w => isNode_any x.1 w
  have hs := fun w => isSerial_any x.2 w
  have hid : isIDB x = (isNoneB x || (isNodeB x.1 && isSerialB x.2)) := rfl
  change ∀ w, Calls _ _ _ w fun e w' => e = .returned (.bool (isNodeB x.1)) ∧ w = w' at hd
  change ∀ w, Calls _ _ _ w fun e w' => e = .returned (.bool (isSerialB x.2)) ∧ w = w' at hs
  generalize isNoneB x = p at *
  generalize isNodeB x.1 = q at *
  generalize isSerialB x.2 = r at *
  rw [hid]
  cases p <;> cases q <;> cases r
  all_goals
    go_enter Try.func59, Try.ntmps59
    go_wp2_with (first
      | (go_at_call 58; refine (hn _).mono ?_; rintro e w1 ⟨rfl, hb1⟩; have c0 := cell_of_row w1 w.heap.size 0 _ _ _ (boxed hb1); have c1 := cell_of_row w1 w.heap.size 1 _ _ _ (boxed hb1))
      | (go_at_call 32; refine (hd _).mono ?_; rintro e w2 ⟨rfl, rfl⟩)
      | (go_at_call 82; refine (hs _).mono ?_; rintro e w2 ⟨rfl, rfl⟩))
    go_ret
    exact ⟨rfl, below_alloc hb1⟩

def wantsB (m : Msg) : Bool := if m.kind = 1 then m.op == 1 || m.op == 6 else if m.kind = 8 then m.op == 3 else false

set_option maxHeartbeats 400000 in
theorem wantsNone_any (m : Msg) (ro lo : Option Addr) (rc lc : Nat) (w : World) :
    Calls Try.prog 60 #[m.v ro lo rc lc] w fun e w' => e = .returned (.bool (wantsB m)) ∧ Below w.heap.size w w' := by
  go_enter Try.func60, Try.ntmps60
  go_wp2
  all_goals
    go_ret
    exact ⟨congrArg (fun x => Ending.returned (.bool x)) (by simp_all [wantsB]), (Below.refl _ _).alloc (Nat.le_refl _) _⟩

def areIDsB (xs : List (Int × Nat)) : Bool := decide (xs.length ≤ 2) && xs.all isIDB
def risesFrom (p : Nat) : List Nat → Bool
  | [] => true
  | x :: r => isSerialB x && decide (p < x) && risesFrom x r
def isListB (l : List Nat) : Bool := decide (l.length ≤ 64) && risesFrom 0 l

set_option maxRecDepth 20000 in
set_option maxHeartbeats 1000000 in
theorem areIDs_any (xs : List (Int × Nat)) (ao : Option Addr) (cap : Nat) (w : World) (hx : IDs w ao xs) (hl : xs.length ≤ 140737488355328) :
    Calls Try.prog 61 #[.slice ao xs.length cap] w fun e w' => e = .returned (.bool (areIDsB xs)) ∧ Below w.heap.size w w' := by
  by_cases h2 : xs.length ≤ 2
  · go_enter Try.func61, Try.ntmps61
    go_wp2
    go_loopw [10] (fun i wr => ∃ k : Nat, k ≤ xs.length ∧ i = .int .i64 k ∧ (xs.drop k).all isIDB = xs.all isIDB ∧ Below w.heap.size w wr) (fun i _ => xs.length - (intOf i).toNat)
    case atStart => exact ⟨0, Nat.zero_le _, rfl, rfl, Below.refl _ _⟩
    case round =>
      obtain ⟨k, hk, rfl, hall, hbr⟩ := hrel
      by_cases hlt : k < xs.length
      · obtain ⟨blk, off, rfl, hblk, hat⟩ := hx (by intro e; subst e; simp at hlt)
        have a0 := (hbr.cell (p := ⟨blk, off + k * 2, none⟩) hblk).trans (hat k hlt).1
        have a1 := (hbr.cell (p := ⟨blk, off + k * 2 + 1, none⟩) hblk).trans (hat k hlt).2
        rw [List.drop_eq_getElem_cons hlt, List.all_cons] at hall
        have HA : Hid ((isIDB xs[k] && (xs.drop (k + 1)).all isIDB) = xs.all isIDB) := hall
        clear hall hat hx
        have hid := fun w => isID_any xs[k] w
        have HR : Hid (areIDsB xs = xs.all isIDB) := by show _ = _; simp [areIDsB, h2]
        generalize hX : xs[k] = x at *
        cases hp : isIDB x
        · rw [hp] at hid
          go_wp2_with (go_at_call 59; refine (hid _).mono ?_; rintro e w1 ⟨rfl, hb1⟩)
          go_ret
          refine ⟨congrArg (fun x => Ending.returned (.bool x)) (by rw [HR.out, ← HA.out, hp]; rfl), hbr.trans (below_alloc hb1 |>.mono hbr.size)⟩
        · rw [hp] at hid
          go_wp2_with (go_at_call 59; refine (hid _).mono ?_; rintro e w1 ⟨rfl, hb1⟩)
          go_roundw
          case rel => exact ⟨k + 1, by omega, by go_num, by rw [← HA.out, hp]; rfl, hbr.trans (below_alloc hb1 |>.mono hbr.size)⟩
          case measure => simp [intOf]; omega
      · have hkl : k = xs.length := by omega
        go_wp2
        go_ret
        refine ⟨congrArg (fun x => Ending.returned (.bool x)) ?_, hbr⟩
        rw [areIDsB, ← hall, hkl]
        simp [h2]
  · go_enter Try.func61, Try.ntmps61
    go_wp2
    go_ret
    exact ⟨congrArg (fun x => Ending.returned (.bool x)) (by simp [areIDsB, h2]), Below.refl _ _⟩

end Go.Proofs.Ytcpegfjjdojinaa
