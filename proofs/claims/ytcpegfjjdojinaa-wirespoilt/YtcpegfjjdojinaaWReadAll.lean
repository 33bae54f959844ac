/- What package wire reads: the walk of readAll. -/
import Derived.Test.YtcpegfjjdojinaaWReadF
import Derived.Test.YtcpegfjjdojinaaWalkCP
namespace Go.Proofs.Ytcpegfjjdojinaa
open Go.RowKit

theorem rF_kind (L : List UInt8) (m : Msg) (f p e : Nat) : (rF L m f p e).1.kind = m.kind ∧ (rF L m f p e).1.frm = m.frm ∧ (rF L m f p e).1.to = m.to := by
  unfold rF
  by_cases h1 : f = 32
  · rw [if_pos h1]; exact ⟨rfl, rfl, rfl⟩
  rw [if_neg h1]
  by_cases h2 : f = 4096
  · rw [if_pos h2]; exact ⟨rfl, rfl, rfl⟩
  rw [if_neg h2]
  by_cases h3 : f = 16384
  · rw [if_pos h3]; exact ⟨rfl, rfl, rfl⟩
  rw [if_neg h3]
  by_cases h4 : inByteB f = true
  · rw [if_pos h4]; exact (setF_all _ _ _).2.2
  · rw [if_neg h4]; exact (setF_all _ _ _).2.2

/-- A field of the Kind is read; another one is not. -/
def rStep (L : List UInt8) (x : Msg × Nat × Nat) (f : Nat) : Msg × Nat × Nat := if hasF x.1.kind &&& f = 0 then x else rF L x.1 f x.2.1 x.2.2
def rFs (L : List UInt8) (j : Nat) (x : Msg × Nat × Nat) : Msg × Nat × Nat := (flds.take j).foldl (rStep L) x
theorem rStep_kind (L : List UInt8) (x : Msg × Nat × Nat) (f : Nat) : (rStep L x f).1.kind = x.1.kind ∧ (rStep L x f).1.frm = x.1.frm ∧ (rStep L x f).1.to = x.1.to := by
  unfold rStep
  split
  · exact ⟨rfl, rfl, rfl⟩
  · exact rF_kind _ _ _ _ _
theorem rFs_step (L : List UInt8) (j : Nat) (x : Msg × Nat × Nat) (h : j < 15) : rFs L (j + 1) x = rStep L (rFs L j x) (2 ^ j) := by
  unfold rFs
  have h2 := (fld_pow h).2.1
  obtain ⟨h3, h4⟩ := List.getElem?_eq_some_iff.1 h2
  rw [List.take_succ_eq_append_getElem h3, List.foldl_append, h4]
  rfl
theorem rFs_kind (L : List UInt8) (j : Nat) (x : Msg × Nat × Nat) (h : j ≤ 15) : (rFs L j x).1.kind = x.1.kind ∧ (rFs L j x).1.frm = x.1.frm ∧ (rFs L j x).1.to = x.1.to := by
  induction j with
  | zero => exact ⟨rfl, rfl, rfl⟩
  | succ j ih =>
    rw [rFs_step L j x (by omega)]
    have := rStep_kind L (rFs L j x) (2 ^ j)
    have := ih (by omega)
    simp_all

/-- The head: Kind, From, To. -/
def rHead (L : List UInt8) (p e : Nat) : Msg × Nat × Nat :=
  ({ zeroM with kind := ((rByte L p e 11).1 : Int), frm := ((rByte L (rByte L p e 11).2.1 (rByte L p e 11).2.2 64).1 : Int), to := ((rByte L (rByte L (rByte L p e 11).2.1 (rByte L p e 11).2.2 64).2.1 (rByte L (rByte L p e 11).2.1 (rByte L p e 11).2.2 64).2.2 64).1 : Int) },
    (rByte L (rByte L (rByte L p e 11).2.1 (rByte L p e 11).2.2 64).2.1 (rByte L (rByte L p e 11).2.1 (rByte L p e 11).2.2 64).2.2 64).2)
/-- A message is read as far as it goes. -/
def rAll (L : List UInt8) (p e : Nat) : Msg × Nat × Nat := if (rByte L p e 11).1 = 0 then (zeroM, (rByte L p e 11).2) else rFs L 15 (rHead L p e)

set_option maxRecDepth 20000 in
set_option maxHeartbeats 4000000 in
theorem readAll_none (w : World) (rb g : Nat) (L : List UInt8) (p e : Nat) (h : RD w rb g L p e) (hk : (rByte L p e 11).1 = 0) :
    Calls Try.prog 28 #[.pointer (some ⟨rb, 0, none⟩)] w fun r w' => r = .returned (zeroM.v none none 0 0) ∧ RTo w w' rb g L (rByte L p e 11).2.1 (rByte L p e 11).2.2 := by
  have hsz := h.size
  have hgl := h.lt
  have hb0 := fun w h => rbyte_any w rb g L p e 11 h
  rw [hk] at hb0
  generalize (rByte L p e 11).2 = K at *
  go_enter Try.func28, Try.ntmps28
  go_wp2_with (first
    | (go_at_call 55; refine (hb0 _ (h.below ((Below.refl _ _).alloc (Nat.le_refl _) _))).mono ?_; rintro r w1 ⟨rfl, hto1⟩; have s1 := hto1.kept.size; have hZ1 := (hto1.kept.block w.heap.size (by simp) (by omega)).trans (heap_alloc_new w _))
    | (refine store_msg _ _ rfl rfl w1.heap.size rfl zeroM none none 0 0 rfl (by simp) (there_row (cs := zeroCells) (heap_alloc_new w1 _) (Nat.le_refl 19)) ?_; intro w3 hm3 hk3 hsz3; have c0 := hm3.cells 0 _ rfl; have hZ3 := (hk3.block w.heap.size (by simp at s1 ⊢; omega) (by simp at s1; omega)).trans ((Below.heap_alloc w1 _ w.heap.size (by simp at s1; omega)).trans hZ1))
    | (refine load_mat _ rfl (by rfl) _ rfl zeroM none none 0 0 hm3 ?_)
    | (refine store_msg _ _ rfl rfl w.heap.size rfl zeroM none none 0 0 rfl (by simp at s1 hsz3 ⊢; omega) (there_row (cs := zeroCells) hZ3 (Nat.le_refl 19)) ?_; intro w4 hm4 hk4 hsz4))
  (try simp only [Exit.inBlock, Exit.then])
  simp at s1 hsz3
  refine bodyPost_ret (res_msg1 rfl _ rfl hm4) rfl ⟨rfl, ?_⟩
  have k1 : Kept w w1 (fun k => k = rb) := (Kept.alloc w _ _).trans hto1.kept (fun _ _ h => h)
  have k2 : Kept w1 w4 (fun k => k = w1.heap.size ∨ k = w.heap.size) := ((Kept.alloc w1 _ _).trans (kept_or hk3) (fun _ _ h => h)).trans (kept_or2 hk4) (fun _ _ h => h)
  exact ⟨hto1.rd.keep k2 (by omega) (by omega), k1.trans k2 (fun i hi e => by omega)⟩

end Go.Proofs.Ytcpegfjjdojinaa
