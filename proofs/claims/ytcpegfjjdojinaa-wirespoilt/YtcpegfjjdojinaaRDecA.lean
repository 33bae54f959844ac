/- The plain Decode's small parts: an ID, a number or a byte that a Kind has. -/
import Derived.Test.YtcpegfjjdojinaaWalkL
import Derived.Test.YtcpegfjjdojinaaRSmall
import Derived.Test.YtcpegfjjdojinaaWRead
namespace Go.Proofs.Ytcpegfjjdojinaa
open Go.RowKit

theorem RF.rowlt {w : World} {fb cap : Nat} {ao : Option Addr} {L : List UInt8} {p e : Nat} (h : RF w fb ao cap L p e) : ∀ k, L ≠ [] → (Value.slice ao L.length cap).ownBlock = some k → k < w.heap.size := by
  intro k hne hk
  obtain ⟨ao', cap', e, _, hx⟩ := h.bs
  simp only [Value.slice.injEq] at e
  obtain ⟨rfl, _, rfl⟩ := e
  obtain ⟨b, off, rfl, hb, _⟩ := hx hne
  simp only [Value.ownBlock, Option.some.injEq] at hk
  omega

/-- A new block is written. -/
theorem FTo.setNew {w w2 w3 : World} {fb cap : Nat} {ao : Option Addr} {L : List UInt8} {p e p0 e0 : Nat} (h0 : RF w fb ao cap L p0 e0) (h : FTo w w2 fb ao cap L p e) {S : Nat → Prop} (hk : Kept w2 w3 S) (hS : ∀ k, S k → w.heap.size ≤ k) : FTo w w3 fb ao cap L p e := by
  have hs := h0.size
  refine ⟨h.rd.keep hk (fun x => by have := hS _ x; omega) (fun k hne hk _ x => by have := hS _ x; have := h0.rowlt k hne hk; omega), ?_⟩
  exact h.kept.trans hk (fun i hi x => by have := hS _ x; omega)

set_option maxRecDepth 20000 in
set_option maxHeartbeats 2000000 in
theorem frid_any (w : World) (fb cap : Nat) (ao : Option Addr) (L : List UInt8) (p e : Nat) (h : RF w fb ao cap L p e) :
    Calls Try.prog 74 #[.pointer (some ⟨fb, 0, none⟩)] w fun r w' => r = .returned (idv (rID L p e).1) ∧ FTo w w' fb ao cap L (rID L p e).2.1 (rID L p e).2.2 := by
  have hsz := h.size
  obtain ⟨x, hx⟩ := rb_u8 L p e 64
  have hxl := x.toNat_lt
  have HID : Hid (rID L p e = ((((rByte L p e 64).1 : Int), (rNum L (rByte L p e 64).2.1 (rByte L p e 64).2.2 72057594037927935).1), (rNum L (rByte L p e 64).2.1 (rByte L p e 64).2.2 72057594037927935).2)) := rfl
  have hb := fun w h => fbyte_any w fb cap ao L p e 64 h
  have hn := fun w h => fnum_any w fb cap ao L (rByte L p e 64).2.1 (rByte L p e 64).2.2 72057594037927935 h
  rw [hx] at hb HID
  generalize (rByte L p e 64).2.1 = p1 at *
  generalize (rByte L p e 64).2.2 = e1 at *
  generalize hN : rNum L p1 e1 72057594037927935 = N at *
  go_enter Try.func74, Try.ntmps74
  go_wp2_with (first
    | (go_at_call 42; refine (hb _ (h.below ((Below.refl _ _).alloc (Nat.le_refl _) _))).mono ?_; rintro r w1 ⟨rfl, hto1⟩)
    | (go_at_call 75; refine (hn _ hto1.rd).mono ?_; rintro r w2 ⟨rfl, hto2⟩; have hbx := (hto2.kept.block w.heap.size (by have := hto1.kept.size; simp at this; omega) (by omega)).trans ((hto1.kept.block w.heap.size (by simp) (by omega)).trans (heap_alloc_new w _)); have c0 := cell_of_row w2 w.heap.size 0 _ _ _ hbx; have c1 := cell_of_row w2 w.heap.size 1 _ _ _ hbx; have z0 := frozen_of_row w2 w.heap.size 0 _ _ hbx; have z1 := frozen_of_row w2 w.heap.size 1 _ _ hbx))
  rw [HID.out]
  have s1 := hto1.kept.size
  have k0 : ((w2.setCell ⟨w.heap.size, 0, none⟩ (.int .i64 (x.toNat : Int))).setCell ⟨w.heap.size, 1, none⟩ (.int .u64 (N.1 : Int))).cell? ⟨w.heap.size, 0, none⟩ = some (.int .i64 (x.toNat : Int)) := by
    rw [World.cell?_setCell_other _ _ _ _ (by simp)]
    exact World.cell?_setCell_same _ _ _ c0
  have k1 : ((w2.setCell ⟨w.heap.size, 0, none⟩ (.int .i64 (x.toNat : Int))).setCell ⟨w.heap.size, 1, none⟩ (.int .u64 (N.1 : Int))).cell? ⟨w.heap.size, 1, none⟩ = some (.int .u64 (N.1 : Int)) :=
    World.cell?_setCell_same _ _ _ (by rw [World.cell?_setCell_other _ _ _ _ (by simp)]; exact c1)
  have hk := (Kept.setCell w2 ⟨w.heap.size, 0, none⟩ (.int .i64 (x.toNat : Int))).trans (Kept.setCell _ ⟨w.heap.size, 1, none⟩ (.int .u64 (N.1 : Int))) (fun _ _ h => h)
  refine bodyPost_ret (res_id1 rfl _ (x := ((x.toNat : Int), N.1)) rfl k0 k1) rfl ⟨rfl, ?_⟩
  exact FTo.setNew h (((FTo.ofBelow h ((Below.refl _ _).alloc (Nat.le_refl _) _)).trans hto1).trans hto2) hk (fun k e => by simp at e; omega)

/-- A number, a byte, if the Kind has it. -/
def optN (b : Bool) (L : List UInt8) (p e most : Nat) : Nat × Nat × Nat := if b = true then rNum L p e most else (0, p, e)
def opt1 (b : Bool) (L : List UInt8) (p e most : Nat) : Nat × Nat × Nat := if b = true then rByte L p e most else (0, p, e)

set_option maxRecDepth 20000 in
set_option maxHeartbeats 2000000 in
theorem fonum_any (w : World) (fb cap : Nat) (ao : Option Addr) (L : List UInt8) (p e : Nat) (k : Int) (f most : Nat) (hf : Fld f) (W : List UInt8) (hW : wordOf f = W) (h : RF w fb ao cap L p e) :
    Calls Try.prog 72 #[.agg #[.int .i64 k, .pointer (some ⟨fb, 0, none⟩)], sv W, .int .u64 (most : Int)] w fun r w' =>
      r = .returned (.int .u64 ((optN (hasB k f) L p e most).1 : Int)) ∧ FTo w w' fb ao cap L (optN (hasB k f) L p e most).2.1 (optN (hasB k f) L p e most).2.2 := by
  have hh := fun w => rhas_any k f hf W hW w
  unfold optN
  cases hb : hasB k f with
  | false =>
    rw [hb] at hh
    clear hb
    rw [if_neg (by simp)]
    go_enter Try.func72, Try.ntmps72
    go_wp2_with (go_at_call 38; refine (hh _).mono ?_; rintro r w1 ⟨rfl, hb1⟩; have hB1 := below_alloc hb1)
    go_ret
    exact ⟨rfl, FTo.ofBelow h hB1⟩
  | true =>
    rw [hb] at hh
    clear hb
    rw [if_pos rfl]
    have hn := fun w h => fnum_any w fb cap ao L p e most h
    go_enter Try.func72, Try.ntmps72
    go_wp2_with (first
      | (go_at_call 38; refine (hh _).mono ?_; rintro r w1 ⟨rfl, hb1⟩; have hB1 := below_alloc hb1; have hbx := (hb1.block w.heap.size (by simp)).trans (heap_alloc_new w _); have c1 := cell_of_row w1 w.heap.size 1 _ _ _ hbx)
      | (go_at_call 75; refine (hn _ (h.below hB1)).mono ?_; rintro r w2 ⟨rfl, hto2⟩))
    go_ret
    exact ⟨rfl, (FTo.ofBelow h hB1).trans hto2⟩

set_option maxRecDepth 20000 in
set_option maxHeartbeats 2000000 in
theorem foone_any (w : World) (fb cap : Nat) (ao : Option Addr) (L : List UInt8) (p e : Nat) (k : Int) (f most : Nat) (hf : Fld f) (W : List UInt8) (hW : wordOf f = W) (h : RF w fb ao cap L p e) :
    Calls Try.prog 73 #[.agg #[.int .i64 k, .pointer (some ⟨fb, 0, none⟩)], sv W, .int .u8 (most : Int)] w fun r w' =>
      r = .returned (.int .i64 ((opt1 (hasB k f) L p e most).1 : Int)) ∧ FTo w w' fb ao cap L (opt1 (hasB k f) L p e most).2.1 (opt1 (hasB k f) L p e most).2.2 := by
  have hh := fun w => rhas_any k f hf W hW w
  unfold opt1
  cases hb : hasB k f with
  | false =>
    rw [hb] at hh
    clear hb
    rw [if_neg (by simp)]
    go_enter Try.func73, Try.ntmps73
    go_wp2_with (go_at_call 38; refine (hh _).mono ?_; rintro r w1 ⟨rfl, hb1⟩; have hB1 := below_alloc hb1)
    go_ret
    exact ⟨rfl, FTo.ofBelow h hB1⟩
  | true =>
    rw [hb] at hh
    clear hb
    rw [if_pos rfl]
    have hn := fun w h => fbyte_any w fb cap ao L p e most h
    obtain ⟨x, hx⟩ := rb_u8 L p e most
    have hxl := x.toNat_lt
    rw [hx] at hn ⊢
    go_enter Try.func73, Try.ntmps73
    go_wp2_with (first
      | (go_at_call 38; refine (hh _).mono ?_; rintro r w1 ⟨rfl, hb1⟩; have hB1 := below_alloc hb1; have hbx := (hb1.block w.heap.size (by simp)).trans (heap_alloc_new w _); have c1 := cell_of_row w1 w.heap.size 1 _ _ _ hbx)
      | (go_at_call 42; refine (hn _ (h.below hB1)).mono ?_; rintro r w2 ⟨rfl, hto2⟩))
    go_ret
    exact ⟨rfl, (FTo.ofBelow h hB1).trans hto2⟩

end Go.Proofs.Ytcpegfjjdojinaa
