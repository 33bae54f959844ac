/- What the plain body lays, field by field: laid.id. -/
import Derived.Test.YtiepbjgcghedeabRLaid2
import Derived.Deep.CutRange
namespace Go.Proofs.Ytiepbjgcghedeab
open Go.RowKit

set_option maxRecDepth 20000 in
set_option maxHeartbeats 4000000 in
theorem lid_any (w : World) (b : Nat) (k : Int) (v : Value) (l : List UInt8) (g : Nat) (x : Int × Nat) (hx : U64 x.2) (hld : LD w b k v l g) (hl : l.length + 20 ≤ 140737488355328) :
    Calls Try.prog 64 #[.pointer (some ⟨b, 0, none⟩), idv x] w fun e w' => e = .returned (.tuple #[]) ∧ ∃ v', LD w' b k v' (l ++ layIDB x) g ∧ Below g w w' := by
  have hs := hld.size
  have hle := hld.le
  have hnl := numB_len x.2
  unfold U64 at hx
  obtain ⟨i, hi, hy0, hy1, hy2⟩ := info_parts Try.infoByte
  obtain ⟨ao, n0, c, hv⟩ := ld_form hld
  subst hv
  obtain ⟨wa, hwa⟩ : ∃ wa, wa = w.alloc (.cells #[.int .i64 x.1, .int .u64 (x.2 : Int)] 24) := ⟨_, rfl⟩
  have q0 : Below w.heap.size w wa.drew := by rw [hwa]; exact ((Below.refl _ _).alloc (Nat.le_refl _) _).drew
  have hz : wa.drew.heap.size = w.heap.size + 1 := by rw [hwa]; simp [World.drew]
  have hbx : wa.drew.heap[w.heap.size]? = some (.cells #[.int .i64 x.1, .int .u64 (x.2 : Int)] 24 (0, 0)) := by rw [hwa]; exact heap_alloc_new w _
  have h1 := hld.below q0
  have d1 := h1.c1
  have x0 : wa.drew.cell? ⟨w.heap.size, 0, none⟩ = some (.int .i64 x.1) := cell_of_row wa.drew _ 0 _ _ _ hbx
  have hzw : wa.heap.size = w.heap.size + 1 := hz
  have q1 : Below w.heap.size w (wa.alloc (.cells #[.int .u8 (IntKind.u8.wrap x.1)] 5)).drew := by rw [hwa]; exact (((Below.refl _ _).alloc (Nat.le_refl _) _).alloc (by simp) _).drew
  have h2 := hld.below q1
  have d2 := h2.c1
  have hz2 : (wa.alloc (.cells #[.int .u8 (IntKind.u8.wrap x.1)] 5)).drew.heap.size = w.heap.size + 2 := by show (wa.alloc _).heap.size = _; simp [hzw]
  have hB : Bs (wa.alloc (.cells #[.int .u8 (IntKind.u8.wrap x.1)] 5)).drew (.slice (some ⟨w.heap.size + 1, 0, none⟩) 1 1) [u8 x.1] := by
    have := (Bs.one2 wa (u8 x.1) 5 _ (wrap_u8 x.1)).below (Below.refl _ _).drew
    rwa [hzw] at this
  have hbx2 : (wa.alloc (.cells #[.int .u8 (IntKind.u8.wrap x.1)] 5)).drew.heap[w.heap.size]? = some (.cells #[.int .i64 x.1, .int .u64 (x.2 : Int)] 24 (0, 0)) := (Below.heap_alloc wa _ w.heap.size (by omega)).trans hbx
  have HNB : Hid (∀ {q : Nat}, (Value.slice ao n0 c).ownBlock = some q → q ≠ w.heap.size) := by
    intro q hq e
    subst e
    rcases hld.own.2 with ⟨h0, _⟩ | ⟨g0, c0, cur, h0, _, h3, _⟩
    · rw [h0] at hq; cases hq
    · rw [h0] at hq
      simp [Value.ownBlock] at hq
      have := (Array.getElem?_eq_some_iff.1 h3).1
      omega
  have HW : Hid (w.alloc (.cells #[.int .i64 x.1, .int .u64 (x.2 : Int)] 24) = wa) := hwa.symm
  clear hwa
  have HL : Hid (layIDB x = u8 x.1 :: numB x.2) := rfl
  generalize u8 x.1 = c8 at *
  go_enter Try.func64, Try.ntmps64
  go_wp2
  rw [HW.out]
  go_cut [3] from 4 (fun a wc => a = .pointer (some ⟨w.heap.size, 0, none⟩) ∧ (∃ v1, LD wc b k v1 (l ++ [c8]) g) ∧ Below g w wc ∧ wc.heap[w.heap.size]? = some (.cells #[.int .i64 x.1, .int .u64 (x.2 : Int)] 24 (0, 0)))
  case first =>
    go_region_law (refine step_append_bs rfl (.tmp 8) (.tmp 12) 30 rfl g 5 i Try.underlying30 hi hy0 hy1 hy2 (.slice ao n0 c) l.length l rfl rfl h2.own _ rfl [c8] hB ((by simp; omega)) (by omega) ?_; intro v4 w4 ho4 hk4 hm4; obtain ⟨ao4, n4, c4, hv4⟩ := own_form ho4; subst hv4; have hb4 := (hk4.block b h2.size h2.ne).trans h2.box; have e1 := cell_of_row w4 b 1 _ _ _ hb4; have e2 := frozen_of_row w4 b 1 _ _ hb4)
    all_goals
      go_wp2
      go_meet
      have hst := h2.stored ho4 hk4 hm4
      refine ⟨rfl, ⟨_, hst.1⟩, (q1.mono (by omega)).trans hst.2, ?_⟩
      rw [heap_setCell_other _ _ _ _ (by simp; omega)]
      exact (hk4.block w.heap.size (by omega) (fun e => HNB.out e rfl)).trans hbx2
  case rest =>
    obtain ⟨rfl, ⟨v1, h3⟩, hbc, hbx3⟩ := hcut
    obtain ⟨wd, hwd⟩ : ∃ x, x = wc := ⟨_, rfl⟩
    subst hwd
    obtain ⟨ao1, n1, c1, hv1⟩ := ld_form h3
    subst hv1
    clear h1 h2 d1 d2 q0 q1 hB hbx hbx2 HNB hz hz2
    have hs3 := h3.size
    have hd : Below wd.heap.size wd wd.drew := (Below.refl _ _).drew
    have h4 := h3.below hd
    have e4 := h4.c1
    have x1 : wd.drew.cell? ⟨w.heap.size, 1, none⟩ = some (.int .u64 (x.2 : Int)) := cell_of_row wd.drew _ 1 _ _ _ hbx3
    have hws : w.heap.size < wd.drew.heap.size := (Array.getElem?_eq_some_iff.1 hbx3).1
    go_wp2
    go_region_law (first
      | (refine step_append_bs rfl (.tmp 20) (.tmp 23) 30 rfl g 5 i Try.underlying30 hi hy0 hy1 hy2 (.slice ao1 n1 c1) (l ++ [c8]).length (l ++ [c8]) rfl rfl h5.own _ rfl (numB x.2) hs2 ((by simp; omega)) (by have := h5.size; omega) ?_; intro v6 w6 ho6 hk6 hm6; obtain ⟨ao6, n6, c6, hv6⟩ := own_form ho6; subst hv6; have hb6 := (hk6.block b h5.size h5.ne).trans h5.box; have e6 := cell_of_row w6 b 1 _ _ _ hb6; have f6 := frozen_of_row w6 b 1 _ _ hb6)
      | (go_simp; go_wp2_with (go_at_call 20; refine (refNum_any x.2 hx _).mono ?_; rintro e w5 ⟨v5, rfl, ho5, hb5⟩; have h5 := h4.below hb5; have e5 := h5.c1; obtain ⟨ao5, n5, c5, hv5⟩ := own_form ho5; subst hv5; have hs2 := Bs.ofOwns ho5)))
    all_goals
      go_wp2
      go_end0
      have hst := h5.stored ho6 hk6 hm6
      refine ⟨rfl, _, by rw [HL.out]; simpa using hst.1, ?_⟩
      exact hbc.trans ((hd.mono (by omega)).trans ((hb5.mono (by have := hd.size; omega)).trans hst.2))

end Go.Proofs.Ytiepbjgcghedeab
