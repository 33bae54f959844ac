/- What the plain body lays, field by field: laid.one, laid.id. -/
import Derived.Test.YtiepbjgcghedeabRLaid
namespace Go.Proofs.Ytiepbjgcghedeab
open Go.RowKit

theorem Bs.one2 (w : World) (x : UInt8) (t : TypeId) (z : Int) (hz : z = (x.toNat : Int)) : Bs (w.alloc (.cells #[.int .u8 z] t)) (.slice (some ⟨w.heap.size, 0, none⟩) 1 1) [x] := Bs.one' w x t z hz

set_option maxRecDepth 20000 in
set_option maxHeartbeats 4000000 in
theorem lone_no (w : World) (b : Nat) (k : Int) (v : Value) (l : List UInt8) (g f : Nat) (z : Int) (W : List UInt8) (hf : Fld f) (hw : wordOf f = W) (hp : hasB k f = false) (hld : LD w b k v l g) :
    Calls Try.prog 63 #[.pointer (some ⟨b, 0, none⟩), sv W, .int .i64 z] w fun e w' => e = .returned (.tuple #[]) ∧ LD w' b k v l g ∧ Below g w w' := by
  have c0 := hld.c0
  have hs := hld.size
  have hle := hld.le
  have hh := fun w => rhas_any k f hf W hw w
  rw [hp] at hh
  go_enter Try.func63, Try.ntmps63
  go_wp2_with (go_at_call 59; refine (hh _).mono ?_; rintro e w1 ⟨rfl, hb1⟩)
  go_end0
  exact ⟨rfl, hld.below hb1, hb1.mono (by omega)⟩

set_option maxRecDepth 20000 in
set_option maxHeartbeats 4000000 in
theorem lone_yes (w : World) (b : Nat) (k : Int) (v : Value) (l : List UInt8) (g f : Nat) (z : Int) (W : List UInt8) (hf : Fld f) (hw : wordOf f = W) (hp : hasB k f = true) (hld : LD w b k v l g) (hl : l.length + 10 ≤ 140737488355328) :
    Calls Try.prog 63 #[.pointer (some ⟨b, 0, none⟩), sv W, .int .i64 z] w fun e w' => e = .returned (.tuple #[]) ∧ ∃ v', LD w' b k v' (l ++ [u8 z]) g ∧ Below g w w' := by
  have c0 := hld.c0
  have hs := hld.size
  have hle := hld.le
  have hh := fun w => rhas_any k f hf W hw w
  rw [hp] at hh
  obtain ⟨i, hi, hz0, hz1, hz2⟩ := info_parts Try.infoByte
  obtain ⟨ao, n0, c, hv⟩ := ld_form hld
  subst hv
  go_enter Try.func63, Try.ntmps63
  go_wp2_with (first
    | (at_builtin; go_must (refine wpList_append_bs rfl (.tmp 16) (.tmp 19) 30 rfl g 5 i Try.underlying30 hi hz0 hz1 hz2 (.slice ao n0 c) l.length l rfl rfl h2.own _ rfl [u8 z] (Bs.one2 w1 (u8 z) _ _ (wrap_u8 z)) ((by simp; omega)) ((by have := hb1.size; simp; omega)) ?_); intro v4 w4 ho4 hk4 hm4; obtain ⟨ao4, n4, c4, hv4⟩ := own_form ho4; subst hv4; have hb4 := (hk4.block b h2.size h2.ne).trans h2.box; have e1 := cell_of_row w4 b 1 _ _ _ hb4; have e2 := frozen_of_row w4 b 1 _ _ hb4)
    | (go_at_call 59; refine (hh _).mono ?_; rintro e w1 ⟨rfl, hb1⟩; have h1 := hld.below hb1; have d1 := h1.c1; have q2 : Below w1.heap.size w1 (w1.alloc (.cells #[.int .u8 (z % 256)] 5)) := (Below.refl _ _).alloc (Nat.le_refl _) _; have h2 := h1.below q2))
  go_end0
  have hst := h2.stored ho4 hk4 hm4
  refine ⟨rfl, _, hst.1, ?_⟩
  exact (hb1.mono (by omega)).trans ((q2.mono (by have := hb1.size; omega)).trans hst.2)

end Go.Proofs.Ytiepbjgcghedeab
