import Derived.Test.YtcpegfjjdojinaaWalkCP
import Derived.Test.YtcpegfjjdojinaaWStore
import Derived.Test.YtcpegfjjdojinaaWFitC
import Derived.Deep.QuietTactic
import Derived.BigQuiet
/- The chapter's example, as every statement asks it. -/
/- The plain Same, of two messages that are the same: its walk. -/
/- The plain Same, of two messages that are the same: the walk, whole. -/
namespace Go.Proofs.Ytcpegfjjdojinaa
open Go.RowKit

def ackM (f t : Int) (c : Nat) : Msg := { kind := 3, frm := f, to := t, call := c, floor := 0, op := 0, fld := 0, item := 0, tn := 0, ts := 0, refs := [], val := 0, code := 0, seq := 0, vou := 0, at_ := 0, dist := 0, stamp := 0, list := [] }
theorem ackM_ok : (ackM 1 2 5).Ok := by
  constructor <;> simp [ackM, I64, U64]
theorem ack_right : rightB (ackM 1 2 5) = true := by decide +kernel
theorem ack_wrong : rightB (ackM 1 1 5) = false := by decide +kernel
theorem ack_body : bodyB (ackM 1 2 5) = [3, 1, 2, 5] := by decide +kernel

theorem known_str {w : World} {k : Nat} {t : TypeId} (hg : w.heap[k]? = some (.cells (([3, 1, 2, 5] ++ sumBytes (crc [3, 1, 2, 5])).map bv).toArray t (0, 0))) :
    (convert 29 9 (.slice (some ⟨k, 0, none⟩) 4 8)).run Try.prog w = .ok (.string ⟨#[3, 1, 2, 5]⟩) w := by
  have h := (Bs.ofBlock (cap := 8) (l := [3, 1, 2, 5] ++ sumBytes (crc [3, 1, 2, 5])) hg (List.take_of_length_le (by simp)) (by simp [length_sumBytes])).pre 4 (by simp)
  rw [show List.take 4 ([3, 1, 2, 5] ++ sumBytes (crc [3, 1, 2, 5])) = [3, 1, 2, 5] from rfl] at h
  exact h.str (P := Try.prog) 29 9 5 Try.underlying29 Try.underlying5 Try.underlying9

set_option maxRecDepth 20000 in
set_option maxHeartbeats 1000000 in
theorem wknown_any (w : World) :
    Calls Try.prog 11 #[] w fun e w' => e = .returned (.bool true) ∧ Below w.heap.size w w' := by
  have he := encode_ok (ackM 1 2 5) none none 0 0 w ackM_ok (fun h => absurd rfl h) (fun h => absurd rfl h) ack_right
  rw [ack_body] at he
  have hr := fun w => right_any (ackM 1 1 5) none none 0 0 w (fun h => absurd rfl h) (by simp [ackM]) (fun h => absurd rfl h) (by simp [ackM])
  rw [ack_wrong] at hr
  go_enter Try.func11, Try.ntmps11
  go_wp2_with (first
    | (go_at_call 9; go_must (refine he.mono ?_); rintro e w1 ⟨k, hk, rfl, hg, hb⟩; have hstr := known_str hg)
    | (go_at_call 13; refine (hr _).mono ?_; rintro e w2 ⟨rfl, hb2⟩))
  go_ret
  exact ⟨rfl, hb.trans (hb2.mono hb.size)⟩

end Go.Proofs.Ytcpegfjjdojinaa

namespace Go.Proofs.Ytcpegfjjdojinaa
open Go.RowKit

theorem bel_drewN (w : World) (n : Nat) : Below w.heap.size w (w.drewN n) := ⟨rfl, rfl, rfl, Nat.le_refl _, fun _ _ => rfl⟩

set_option maxRecDepth 20000 in
set_option maxHeartbeats 2000000 in
theorem idsEq_any (xs : List (Int × Nat)) (ao bo : Option Addr) (ac bc : Nat) (w : World) (ha : IDs w ao xs) (hb : IDs w bo xs) (hl : xs.length ≤ 140737488355328) :
    Calls Try.prog 30 #[.slice ao xs.length ac, .slice bo xs.length bc] w fun e w' => e = .returned (.bool true) ∧ Below w.heap.size w w' := by
  go_enter Try.func30, Try.ntmps30
  go_wp2
  go_loopw [5] (fun i wr => ∃ k : Nat, k ≤ xs.length ∧ i = .int .i64 (k : Int) ∧ Below w.heap.size w wr) (fun i _ => xs.length - (intOf i).toNat)
  case atStart => exact ⟨0, Nat.zero_le _, rfl, Below.refl _ _⟩
  case round =>
    obtain ⟨k, hk, rfl, hbr⟩ := hrel
    have hzr := hbr.size
    by_cases hlt : k < xs.length
    · have hne : xs ≠ [] := by intro e; subst e; simp at hlt
      obtain ⟨b1, o1, rfl, hb1, hat1⟩ := ha hne
      obtain ⟨b2, o2, rfl, hb2, hat2⟩ := hb hne
      have a0 := (hbr.cell (p := ⟨b1, o1 + k * 2, none⟩) hb1).trans (hat1 k hlt).1
      have a1 := (hbr.cell (p := ⟨b1, o1 + k * 2 + 1, none⟩) hb1).trans (hat1 k hlt).2
      have c0 := (hbr.cell (p := ⟨b2, o2 + k * 2, none⟩) hb2).trans (hat2 k hlt).1
      have c1 := (hbr.cell (p := ⟨b2, o2 + k * 2 + 1, none⟩) hb2).trans (hat2 k hlt).2
      clear hat1 hat2 ha hb
      generalize xs[k] = x at *
      go_wp2
      go_quiet (fail)
      go_wp2
      go_roundw
      case rel => exact ⟨k + 1, by omega, by go_num, hbr.trans ((bel_drewN _ _).mono hzr)⟩
      case measure => simp [intOf]; omega
    · go_wp2
      go_ret
      exact ⟨rfl, hbr⟩

set_option maxRecDepth 20000 in
set_option maxHeartbeats 2000000 in
theorem usEq_any (xs : List Nat) (ao bo : Option Addr) (ac bc : Nat) (w : World) (ha : Us w ao xs) (hb : Us w bo xs) (hl : xs.length ≤ 140737488355328) :
    Calls Try.prog 31 #[.slice ao xs.length ac, .slice bo xs.length bc] w fun e w' => e = .returned (.bool true) ∧ Below w.heap.size w w' := by
  go_enter Try.func31, Try.ntmps31
  go_wp2
  go_loopw [5] (fun i wr => ∃ k : Nat, k ≤ xs.length ∧ i = .int .i64 (k : Int) ∧ Below w.heap.size w wr) (fun i _ => xs.length - (intOf i).toNat)
  case atStart => exact ⟨0, Nat.zero_le _, rfl, Below.refl _ _⟩
  case round =>
    obtain ⟨k, hk, rfl, hbr⟩ := hrel
    have hzr := hbr.size
    by_cases hlt : k < xs.length
    · have hne : xs ≠ [] := by intro e; subst e; simp at hlt
      obtain ⟨b1, o1, rfl, hb1, hat1⟩ := ha hne
      obtain ⟨b2, o2, rfl, hb2, hat2⟩ := hb hne
      have a0 := (hbr.cell (p := ⟨b1, o1 + k, none⟩) hb1).trans (hat1 k hlt)
      have c0 := (hbr.cell (p := ⟨b2, o2 + k, none⟩) hb2).trans (hat2 k hlt)
      clear hat1 hat2 ha hb
      generalize xs[k] = x at *
      go_wp2
      go_quiet (fail)
      go_wp2
      go_roundw
      case rel => exact ⟨k + 1, by omega, by go_num, hbr.trans ((bel_drewN _ _).mono hzr)⟩
      case measure => simp [intOf]; omega
    · go_wp2
      go_ret
      exact ⟨rfl, hbr⟩

end Go.Proofs.Ytcpegfjjdojinaa

namespace Go.Proofs.Ytcpegfjjdojinaa
open Go.RowKit

theorem two_boxes {w w1 : World} {A B : Obj} (hb1 : Below ((w.alloc A).alloc B).heap.size ((w.alloc A).alloc B) w1) : w1.heap[w.heap.size]? = some A ∧ w1.heap[w.heap.size + 1]? = some B := by
  have hs : (w.alloc A).heap.size = w.heap.size + 1 := by simp
  have hs2 : ((w.alloc A).alloc B).heap.size = w.heap.size + 1 + 1 := by simp
  have k := heap_alloc_new (w.alloc A) B
  rw [hs] at k
  exact ⟨(hb1.block _ (by omega)).trans ((Below.heap_alloc (w.alloc A) B w.heap.size (by omega)).trans (heap_alloc_new w A)), (hb1.block _ (by omega)).trans k⟩

set_option maxRecDepth 40000 in
set_option maxHeartbeats 8000000 in
theorem same_any (m : Msg) (ro lo ro2 lo2 : Option Addr) (rc lc rc2 lc2 : Nat) (w : World) (hr : IDs w ro m.refs) (hr2 : IDs w ro2 m.refs) (hl : Us w lo m.list) (hl2 : Us w lo2 m.list) (hrl : m.refs.length ≤ 140737488355328) (hll : m.list.length ≤ 140737488355328) :
    Calls Try.prog 12 #[m.v ro lo rc lc, m.v ro2 lo2 rc2 lc2] w fun e w' => e = .returned (.bool true) ∧ Below w.heap.size w w' := by
  have hids := fun w h1 h2 => idsEq_any m.refs ro ro2 rc rc2 w h1 h2 hrl
  have hus := fun w h1 h2 => usEq_any m.list lo lo2 lc lc2 w h1 h2 hll
  go_enter Try.func12, Try.ntmps12
  go_wp2_with (first
    | (go_at_call 30; refine (hids _ (hr.below (((Below.refl _ _).alloc (Nat.le_refl _) _).alloc (by simp) _)) (hr2.below (((Below.refl _ _).alloc (Nat.le_refl _) _).alloc (by simp) _))).mono ?_; rintro e w1 ⟨rfl, hb1⟩; have hB1 := ((((Below.refl w.heap.size w).alloc (Nat.le_refl _) _).alloc (by simp) _)).trans (hb1.mono (by simp; omega)); obtain ⟨e1, e2⟩ := two_boxes hb1; have d1 : w1.cell? ⟨w.heap.size, 18, none⟩ = some (.slice lo m.list.length lc) := cell_of_row w1 _ 18 _ _ _ e1; have d2 : w1.cell? ⟨w.heap.size + 1, 18, none⟩ = some (.slice lo2 m.list.length lc2) := cell_of_row w1 _ 18 _ _ _ e2; clear e1 e2)
    | (go_at_call 31; refine (hus _ (hl.below hB1) (hl2.below hB1)).mono ?_; rintro e w2 ⟨rfl, hb2⟩))
  go_ret
  exact ⟨rfl, hB1.trans (hb2.mono hB1.size)⟩

end Go.Proofs.Ytcpegfjjdojinaa

