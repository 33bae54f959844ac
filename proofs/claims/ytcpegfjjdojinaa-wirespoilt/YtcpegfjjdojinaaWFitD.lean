/- Lists, and whether a field is without, or as it may be. -/
import Derived.Test.YtcpegfjjdojinaaWFitC
import Derived.Test.YtcpegfjjdojinaaWBox
import Derived.Deep.RegionHeldLaw
namespace Go.Proofs.Ytcpegfjjdojinaa
open Go.RowKit

theorem rises_step {l : List Nat} {k p : Nat} (hk : k < l.length) : risesFrom p (l.drop k) = (isSerialB l[k] && decide (p < l[k]) && risesFrom l[k] (l.drop (k + 1))) := by
  rw [List.drop_eq_getElem_cons hk, risesFrom]

set_option maxRecDepth 20000 in
set_option maxHeartbeats 1000000 in
theorem isList_any (xs : List Nat) (ao : Option Addr) (cap : Nat) (w : World) (hx : Us w ao xs) (hl : xs.length ≤ 140737488355328) :
    Calls Try.prog 62 #[.slice ao xs.length cap] w fun e w' => e = .returned (.bool (isListB xs)) ∧ w = w' := by
  by_cases h2 : xs.length ≤ 64
  · have HR : Hid (isListB xs = risesFrom 0 xs) := by show _ = _; simp [isListB, h2]
    go_enter Try.func62, Try.ntmps62
    go_wp2
    go_loop [10] (fun i => ∃ k : Nat, k ≤ xs.length ∧ i = .int .i64 k ∧ risesFrom ((0 :: xs).getD k 0) (xs.drop k) = risesFrom 0 xs) (fun i => xs.length - (intOf i).toNat)
    case atStart => exact ⟨0, Nat.zero_le _, rfl, rfl⟩
    case round =>
      obtain ⟨k, hk, rfl, hall⟩ := hrel
      by_cases hlt : k < xs.length
      · obtain ⟨blk, off, rfl, hblk, hat⟩ := hx (by intro e; subst e; simp at hlt)
        have a0 := hat k hlt
        rw [rises_step hlt] at hall
        have hser := fun w => isSerial_any xs[k] w
        have HS : Hid (isSerialB xs[k] = (decide (1 ≤ xs[k]) && decide (xs[k] ≤ 72057594037927935))) := rfl
        rw [← HS.out] at hser
        have hnext : (0 :: xs).getD (k + 1) 0 = xs[k] := by simp [List.getD_eq_getElem?_getD, List.getElem?_eq_getElem hlt]
        have HN : Hid ((0 :: xs).getD (k + 1) 0 = xs[k]) := hnext
        rcases Nat.eq_zero_or_pos k with hk0 | hk0
        · subst hk0
          have HA : Hid ((isSerialB xs[0] && decide (0 < xs[0]) && risesFrom xs[0] (xs.drop (0 + 1))) = risesFrom 0 xs) := hall
          clear hall hat hx hnext
          rw [Nat.add_zero] at a0
          generalize hX : xs[0] = x at *
          cases hp : isSerialB x
          · rw [hp] at hser
            go_wp2_with (go_at_call 82; refine (hser _).mono ?_; rintro e w1 ⟨rfl, rfl⟩)
            go_ret
            exact ⟨congrArg (fun x => Ending.returned (.bool x)) (by rw [HR.out, ← HA.out, hp]; rfl), rfl⟩
          · have h1 : 0 < x := by have := HS.out; rw [hp] at this; simp at this; omega
            rw [hp] at hser
            go_wp2_with (go_at_call 82; refine (hser _).mono ?_; rintro e w1 ⟨rfl, rfl⟩)
            go_round
            case rel => exact ⟨1, by omega, by go_num, by rw [HN.out, ← HA.out, hp]; simp [h1]⟩
            case measure => simp [intOf]; omega
        · have hprev : (0 :: xs).getD k 0 = xs[k - 1] := by
            obtain ⟨j, rfl⟩ : ∃ j, k = j + 1 := ⟨k - 1, by omega⟩
            simp [List.getD_eq_getElem?_getD, List.getElem?_eq_getElem (show j < xs.length by omega)]
          have a1 := hat (k - 1) (by omega)
          rw [hprev] at hall
          have HA : Hid ((isSerialB xs[k] && decide (xs[k - 1] < xs[k]) && risesFrom xs[k] (xs.drop (k + 1))) = risesFrom 0 xs) := hall
          clear hall hat hx hnext hprev
          generalize hX : xs[k] = x at *
          generalize hY : xs[k - 1] = y at *
          cases hp : isSerialB x
          · rw [hp] at hser
            go_wp2_with (go_at_call 82; refine (hser _).mono ?_; rintro e w1 ⟨rfl, rfl⟩)
            go_ret
            exact ⟨congrArg (fun x => Ending.returned (.bool x)) (by rw [HR.out, ← HA.out, hp]; rfl), rfl⟩
          · rw [hp] at hser
            by_cases hlx : y < x
            · go_wp2_with (go_at_call 82; refine (hser _).mono ?_; rintro e w1 ⟨rfl, rfl⟩)
              go_round
              case rel => exact ⟨k + 1, by omega, by go_num, by rw [HN.out, ← HA.out, hp]; simp [hlx]⟩
              case measure => simp [intOf]; omega
            · go_wp2_with (go_at_call 82; refine (hser _).mono ?_; rintro e w1 ⟨rfl, rfl⟩)
              go_ret
              exact ⟨congrArg (fun x => Ending.returned (.bool x)) (by rw [HR.out, ← HA.out, hp]; simp [hlx]), rfl⟩
      · have hkl : k = xs.length := by omega
        go_wp2
        go_ret
        refine ⟨congrArg (fun x => Ending.returned (.bool x)) ?_, rfl⟩
        rw [HR.out, ← hall, hkl]
        simp [risesFrom]
  · go_enter Try.func62, Try.ntmps62
    go_wp2
    go_ret
    exact ⟨congrArg (fun x => Ending.returned (.bool x)) (by simp [isListB, h2]), rfl⟩

def zeroB (m : Msg) (f : Nat) : Bool := if f = 32 then isNoneB (m.tn, m.ts) else if f = 4096 then m.refs.isEmpty else if f = 16384 then m.list.isEmpty else m.num f == 0

set_option maxHeartbeats 1000000 in
theorem isZero_target (m : Msg) (ro lo : Option Addr) (rc lc : Nat) (w : World) :
    Calls Try.prog 33 #[m.v ro lo rc lc, .int .u64 32] w fun e w' => e = .returned (.bool (isNoneB (m.tn, m.ts))) ∧ Below w.heap.size w w' := by
  go_enter Try.func33, Try.ntmps33
  go_wp2_with (go_at_call 58; refine (isNone_any (m.tn, m.ts) _).mono ?_; rintro e w1 ⟨rfl, hb1⟩)
  go_ret
  exact ⟨rfl, below_alloc hb1⟩

theorem empty_len {α : Type} (l : List α) : ((l.length : Int) == 0) = l.isEmpty := by
  cases l with
  | nil => rfl
  | cons x r => exact beq_eq_false_iff_ne.2 (by simp; omega)

set_option maxHeartbeats 1000000 in
theorem isZero_refs (m : Msg) (ro lo : Option Addr) (rc lc : Nat) (w : World) :
    Calls Try.prog 33 #[m.v ro lo rc lc, .int .u64 4096] w fun e w' => e = .returned (.bool m.refs.isEmpty) ∧ Below w.heap.size w w' := by
  rw [← empty_len]
  generalize hL : m.refs.length = n
  go_enter Try.func33, Try.ntmps33
  go_wp2
  go_ret
  rw [← hL]
  exact ⟨rfl, (Below.refl _ _).alloc (Nat.le_refl _) _⟩

set_option maxHeartbeats 1000000 in
theorem isZero_list (m : Msg) (ro lo : Option Addr) (rc lc : Nat) (w : World) :
    Calls Try.prog 33 #[m.v ro lo rc lc, .int .u64 16384] w fun e w' => e = .returned (.bool m.list.isEmpty) ∧ Below w.heap.size w w' := by
  rw [← empty_len]
  go_enter Try.func33, Try.ntmps33
  go_wp2
  go_ret
  exact ⟨rfl, (Below.refl _ _).alloc (Nat.le_refl _) _⟩

set_option maxHeartbeats 1000000 in
theorem isZero_num (m : Msg) (f n : Nat) (n1 : ((f : Int) == 32) = false) (n2 : ((f : Int) == 4096) = false) (n3 : ((f : Int) == 16384) = false) (ro lo : Option Addr) (rc lc : Nat) (w : World)
    (hn : ∀ w, Calls Try.prog 50 #[m.v ro lo rc lc, .int .u64 (f : Int)] w fun e w' => e = .returned (.int .u64 (n : Int)) ∧ Below w.heap.size w w') :
    Calls Try.prog 33 #[m.v ro lo rc lc, .int .u64 (f : Int)] w fun e w' => e = .returned (.bool ((n : Int) == 0)) ∧ Below w.heap.size w w' := by
  go_enter Try.func33, Try.ntmps33
  go_wp2_with (first
    | (refine load_msg _ rfl (by rfl) _ rfl m ro lo rc lc (MBox.new _ _ _ _ _ _) ?_)
    | (go_at_call 50; refine (hn _).mono ?_; rintro e w1 ⟨rfl, hb1⟩))
  go_ret
  exact ⟨rfl, below_alloc hb1⟩

theorem isZero_any (m : Msg) (f : Nat) (hf : Fld f) (ro lo : Option Addr) (rc lc : Nat) (w : World) :
    Calls Try.prog 33 #[m.v ro lo rc lc, .int .u64 (f : Int)] w fun e w' => e = .returned (.bool (zeroB m f)) ∧ Below w.heap.size w w' := by
  by_cases h1 : f = 32
  · subst h1
    rw [show zeroB m 32 = isNoneB (m.tn, m.ts) by simp [zeroB]]
    rw [show ((32 : Nat) : Int) = 32 from rfl]
    exact isZero_target m ro lo rc lc w
  by_cases h2 : f = 4096
  · subst h2
    rw [show zeroB m 4096 = m.refs.isEmpty by simp [zeroB]]
    rw [show ((4096 : Nat) : Int) = 4096 from rfl]
    exact isZero_refs m ro lo rc lc w
  by_cases h3 : f = 16384
  · subst h3
    rw [show zeroB m 16384 = m.list.isEmpty by simp [zeroB]]
    rw [show ((16384 : Nat) : Int) = 16384 from rfl]
    exact isZero_list m ro lo rc lc w
  have n1 : ((f : Int) == 32) = false := beq_eq_false_iff_ne.2 (by omega)
  have n2 : ((f : Int) == 4096) = false := beq_eq_false_iff_ne.2 (by omega)
  have n3 : ((f : Int) == 16384) = false := beq_eq_false_iff_ne.2 (by omega)
  rw [show zeroB m f = ((m.num f : Int) == 0) by simp only [zeroB, if_neg h1, if_neg h2, if_neg h3]; exact Bool.eq_iff_iff.2 (by simp)]
  exact isZero_num m f _ n1 n2 n3 ro lo rc lc w (fun w => wnumber_any m f hf ro lo rc lc w)

end Go.Proofs.Ytcpegfjjdojinaa
