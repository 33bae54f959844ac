/- Whether a field is as it may be, all of them; whether a message may be: the walk of Right. -/
import Derived.Test.YtcpegfjjdojinaaWFitE
namespace Go.Proofs.Ytcpegfjjdojinaa
open Go.RowKit

set_option maxHeartbeats 1000000 in
theorem fits_refs (m : Msg) (ro lo : Option Addr) (rc lc : Nat) (w : World) (hx : IDs w ro m.refs) (hl : m.refs.length ≤ 140737488355328) :
    Calls Try.prog 34 #[m.v ro lo rc lc, .int .u64 4096] w fun e w' => e = .returned (.bool (areIDsB m.refs)) ∧ Below w.heap.size w w' := by
  go_enter Try.func34, Try.ntmps34
  go_wp2_with (go_at_call 61; refine (areIDs_any m.refs ro rc _ (hx.below ((Below.refl _ _).alloc (Nat.le_refl _) _)) hl).mono ?_; rintro e w1 ⟨rfl, hb1⟩)
  go_ret
  exact ⟨rfl, below_alloc hb1⟩

set_option maxHeartbeats 1000000 in
theorem fits_list (m : Msg) (ro lo : Option Addr) (rc lc : Nat) (w : World) (hx : Us w lo m.list) (hl : m.list.length ≤ 140737488355328) :
    Calls Try.prog 34 #[m.v ro lo rc lc, .int .u64 16384] w fun e w' => e = .returned (.bool (isListB m.list)) ∧ Below w.heap.size w w' := by
  go_enter Try.func34, Try.ntmps34
  go_wp2_with (go_at_call 62; refine (isList_any m.list lo lc _ (hx.below ((Below.refl _ _).alloc (Nat.le_refl _) _)) hl).mono ?_; rintro e w1 ⟨rfl, rfl⟩)
  go_ret
  exact ⟨rfl, (Below.refl _ _).alloc (Nat.le_refl _) _⟩

set_option maxRecDepth 20000 in
set_option maxHeartbeats 2000000 in
theorem fits_num (m : Msg) (f n lo' hi' : Nat) (n1 : ((f : Int) == 32) = false) (n2 : ((f : Int) == 4096) = false) (n3 : ((f : Int) == 16384) = false) (n4 : ((f : Int) == 2) = false) (ro lo : Option Addr) (rc lc : Nat) (w : World)
    (hn : ∀ w, Calls Try.prog 50 #[m.v ro lo rc lc, .int .u64 (f : Int)] w fun e w' => e = .returned (.int .u64 (n : Int)) ∧ Below w.heap.size w w')
    (hb : ∀ w, Calls Try.prog 63 #[.int .i64 m.kind, .int .u64 (f : Int)] w fun e w' => e = .returned (.tuple #[.int .u64 (lo' : Int), .int .u64 (hi' : Int)]) ∧ w = w') :
    Calls Try.prog 34 #[m.v ro lo rc lc, .int .u64 (f : Int)] w fun e w' => e = .returned (.bool (decide (lo' ≤ n) && decide (n ≤ hi'))) ∧ Below w.heap.size w w' := by
  have hbox := MBox.new w m ro lo rc lc
  go_enter Try.func34, Try.ntmps34
  go_wp2_with (first
    | (refine load_msg _ rfl (by rfl) _ rfl m ro lo rc lc hbox ?_)
    | (go_at_call 50; refine (hn _).mono ?_; rintro e w1 ⟨rfl, hb1⟩; have c0 := (hbox.below hb1 (by simp)).cells.1)
    | (go_at_call 63; refine (hb _).mono ?_; rintro e w2 ⟨rfl, rfl⟩))
  all_goals
    go_ret
    exact ⟨congrArg (fun x => Ending.returned (.bool x)) (Bool.eq_iff_iff.2 (by simp; omega)), below_alloc hb1⟩

set_option maxRecDepth 20000 in
set_option maxHeartbeats 2000000 in
theorem fits_floor (m : Msg) (ro lo : Option Addr) (rc lc : Nat) (w : World) :
    Calls Try.prog 34 #[m.v ro lo rc lc, .int .u64 2] w fun e w' => e = .returned (.bool (decide (1 ≤ m.floor) && decide (m.floor ≤ m.call))) ∧ Below w.heap.size w w' := by
  have hbox := MBox.new w m ro lo rc lc
  have hn := fun w => wnumber_any m 2 (Or.inr (Or.inl rfl)) ro lo rc lc w
  have hb := fun w => bounds_any m.kind 2 (Or.inr (Or.inl rfl)) w
  rw [show m.num 2 = m.floor by simp [Msg.num], show ((2 : Nat) : Int) = 2 from rfl] at hn
  rw [show lowF 2 = 1 by simp [lowF], show topF m.kind 2 = 18446744073709551615 by simp [topF], show ((2 : Nat) : Int) = 2 from rfl] at hb
  go_enter Try.func34, Try.ntmps34
  go_wp2_with (first
    | (refine load_msg _ rfl (by rfl) _ rfl m ro lo rc lc hbox ?_)
    | (go_at_call 50; refine (hn _).mono ?_; rintro e w1 ⟨rfl, hb1⟩; have c0 := (hbox.below hb1 (by simp)).cells.1; have c3 := (hbox.below hb1 (by simp)).cells.2.2.2.1)
    | (go_at_call 63; refine (hb _).mono ?_; rintro e w2 ⟨rfl, rfl⟩))
  all_goals
    go_ret
    exact ⟨congrArg (fun x => Ending.returned (.bool x)) (Bool.eq_iff_iff.2 (by simp; omega)), below_alloc hb1⟩

def fitsB (m : Msg) (f : Nat) : Bool :=
  if f = 32 then isIDB (m.tn, m.ts) && (isNoneB (m.tn, m.ts) == wantsB m) else if f = 4096 then areIDsB m.refs else if f = 16384 then isListB m.list else
  if f = 2 then decide (1 ≤ m.floor) && decide (m.floor ≤ m.call) else decide (lowF f ≤ m.num f) && decide (m.num f ≤ topF m.kind f)

theorem fits_any (m : Msg) (f : Nat) (hf : Fld f) (ro lo : Option Addr) (rc lc : Nat) (w : World) (hr : IDs w ro m.refs) (hlr : m.refs.length ≤ 140737488355328) (hl : Us w lo m.list) (hll : m.list.length ≤ 140737488355328) :
    Calls Try.prog 34 #[m.v ro lo rc lc, .int .u64 (f : Int)] w fun e w' => e = .returned (.bool (fitsB m f)) ∧ Below w.heap.size w w' := by
  by_cases h1 : f = 32
  · subst h1
    rw [show fitsB m 32 = (isIDB (m.tn, m.ts) && (isNoneB (m.tn, m.ts) == wantsB m)) by simp [fitsB], show ((32 : Nat) : Int) = 32 from rfl]
    exact fits_target m ro lo rc lc w
  by_cases h2 : f = 4096
  · subst h2
    rw [show fitsB m 4096 = areIDsB m.refs by simp [fitsB], show ((4096 : Nat) : Int) = 4096 from rfl]
    exact fits_refs m ro lo rc lc w hr hlr
  by_cases h3 : f = 16384
  · subst h3
    rw [show fitsB m 16384 = isListB m.list by simp [fitsB], show ((16384 : Nat) : Int) = 16384 from rfl]
    exact fits_list m ro lo rc lc w hl hll
  by_cases h4 : f = 2
  · subst h4
    rw [show fitsB m 2 = (decide (1 ≤ m.floor) && decide (m.floor ≤ m.call)) by simp [fitsB], show ((2 : Nat) : Int) = 2 from rfl]
    exact fits_floor m ro lo rc lc w
  have n1 : ((f : Int) == 32) = false := beq_eq_false_iff_ne.2 (by omega)
  have n2 : ((f : Int) == 4096) = false := beq_eq_false_iff_ne.2 (by omega)
  have n3 : ((f : Int) == 16384) = false := beq_eq_false_iff_ne.2 (by omega)
  have n4 : ((f : Int) == 2) = false := beq_eq_false_iff_ne.2 (by omega)
  rw [show fitsB m f = (decide (lowF f ≤ m.num f) && decide (m.num f ≤ topF m.kind f)) by simp only [fitsB, if_neg h1, if_neg h2, if_neg h3, if_neg h4]]
  exact fits_num m f _ _ _ n1 n2 n3 n4 ro lo rc lc w (fun w => wnumber_any m f hf ro lo rc lc w) (fun w => bounds_any m.kind f hf w)

end Go.Proofs.Ytcpegfjjdojinaa
