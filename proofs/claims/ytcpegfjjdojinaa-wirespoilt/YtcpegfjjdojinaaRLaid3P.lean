import Derived.Test.YtcpegfjjdojinaaRefNumP
import Derived.Deep.CutRange
import Derived.Test.YtcpegfjjdojinaaWalkCP
import Derived.Test.YtcpegfjjdojinaaWFitE
/- What the plain body lays, field by field: laid.id. -/
/- The plain body: what it is of each Kind, and how it begins. -/
/- The plain body: what it is of the Kinds that bear rows. -/
namespace Go.Proofs.Ytcpegfjjdojinaa
open Go.RowKit

set_option maxRecDepth 20000 in
set_option maxHeartbeats 4000000 in
theorem lid_any (w : World) (b : Nat) (k : Int) (v : Value) (l : List UInt8) (g : Nat) (x : Int × Nat) (hx : U64 x.2) (hld : LD w b k v l g) (hl : l.length + 20 ≤ 140737488355328) :
    Calls Try.prog 69 #[.pointer (some ⟨b, 0, none⟩), idv x] w fun e w' => e = .returned (.tuple #[]) ∧ ∃ v', LD w' b k v' (l ++ layIDB x) g ∧ Below g w w' := by
  have hs := hld.size
  have hle := hld.le
  have hnl := numB_len x.2
  unfold U64 at hx
  obtain ⟨i, hi, hy0, hy1, hy2⟩ := info_parts Try.infoByte
  obtain ⟨ao, n0, c, hv⟩ := ld_form hld
  subst hv
  obtain ⟨wa, hwa⟩ : ∃ wa, wa = w.alloc (.cells #[.int .i64 x.1, .int .u64 (x.2 : Int)] 24) := ⟨_, rfl⟩
  have q0 : Below w.heap.size w wa.drew := by rw [hwa]; exact ((Below.refl _ _).alloc (Nat.le_refl _) _).drew
  have hz : wa.drew.heap.size = w.heap.size + 1 := by rw [hwa]; simp [World.drew]
  have hbx : wa.drew.heap[w.heap.size]? = some (.cells #[.int .i64 x.1, .int .u64 (x.2 : Int)] 24 (0, 0)) := by rw [hwa]; exact heap_alloc_new w _
  have h1 := hld.below q0
  have d1 := h1.c1
  have x0 : wa.drew.cell? ⟨w.heap.size, 0, none⟩ = some (.int .i64 x.1) := cell_of_row wa.drew _ 0 _ _ _ hbx
  have hzw : wa.heap.size = w.heap.size + 1 := hz
  have q1 : Below w.heap.size w (wa.alloc (.cells #[.int .u8 (IntKind.u8.wrap x.1)] 5)).drew := by rw [hwa]; exact (((Below.refl _ _).alloc (Nat.le_refl _) _).alloc (by simp) _).drew
  have h2 := hld.below q1
  have d2 := h2.c1
  have hz2 : (wa.alloc (.cells #[.int .u8 (IntKind.u8.wrap x.1)] 5)).drew.heap.size = w.heap.size + 2 := by show (wa.alloc _).heap.size = _; simp [hzw]
  have hB : Bs (wa.alloc (.cells #[.int .u8 (IntKind.u8.wrap x.1)] 5)).drew (.slice (some ⟨w.heap.size + 1, 0, none⟩) 1 1) [u8 x.1] := by
    have := (Bs.one2 wa (u8 x.1) 5 _ (wrap_u8 x.1)).below (Below.refl _ _).drew
    rwa [hzw] at this
  have hbx2 : (wa.alloc (.cells #[.int .u8 (IntKind.u8.wrap x.1)] 5)).drew.heap[w.heap.size]? = some (.cells #[.int .i64 x.1, .int .u64 (x.2 : Int)] 24 (0, 0)) := (Below.heap_alloc wa _ w.heap.size (by omega)).trans hbx
  have HNB : Hid (∀ {q : Nat}, (Value.slice ao n0 c).ownBlock = some q → q ≠ w.heap.size) := by
    intro q hq e
    subst e
    rcases hld.own.2 with ⟨h0, _⟩ | ⟨g0, c0, cur, h0, _, h3, _⟩
    · rw [h0] at hq; cases hq
    · rw [h0] at hq
      simp [Value.ownBlock] at hq
      have := (Array.getElem?_eq_some_iff.1 h3).1
      omega
  have HW : Hid (w.alloc (.cells #[.int .i64 x.1, .int .u64 (x.2 : Int)] 24) = wa) := hwa.symm
  clear hwa
  have HL : Hid (layIDB x = u8 x.1 :: numB x.2) := rfl
  generalize u8 x.1 = c8 at *
  go_enter Try.func69, Try.ntmps69
  go_wp2
  rw [HW.out]
  go_cut [3] from 4 (fun a wc => a = .pointer (some ⟨w.heap.size, 0, none⟩) ∧ (∃ v1, LD wc b k v1 (l ++ [c8]) g) ∧ Below g w wc ∧ wc.heap[w.heap.size]? = some (.cells #[.int .i64 x.1, .int .u64 (x.2 : Int)] 24 (0, 0)))
  case first =>
    go_region_law (refine step_append_bs rfl (.tmp 8) (.tmp 12) 29 rfl g 5 i Try.underlying29 hi hy0 hy1 hy2 (.slice ao n0 c) l.length l rfl rfl h2.own _ rfl [c8] hB ((by simp; omega)) (by omega) ?_; intro v4 w4 ho4 hk4 hm4; obtain ⟨ao4, n4, c4, hv4⟩ := own_form ho4; subst hv4; have hb4 := (hk4.block b h2.size h2.ne).trans h2.box; have e1 := cell_of_row w4 b 1 _ _ _ hb4; have e2 := frozen_of_row w4 b 1 _ _ hb4)
    all_goals
      go_wp2
      go_meet
      have hst := h2.stored ho4 hk4 hm4
      refine ⟨rfl, ⟨_, hst.1⟩, (q1.mono (by omega)).trans hst.2, ?_⟩
      rw [heap_setCell_other _ _ _ _ (by simp; omega)]
      exact (hk4.block w.heap.size (by omega) (fun e => HNB.out e rfl)).trans hbx2
  case rest =>
    obtain ⟨rfl, ⟨v1, h3⟩, hbc, hbx3⟩ := hcut
    obtain ⟨wd, hwd⟩ : ∃ x, x = wc := ⟨_, rfl⟩
    subst hwd
    obtain ⟨ao1, n1, c1, hv1⟩ := ld_form h3
    subst hv1
    clear h1 h2 d1 d2 q0 q1 hB hbx hbx2 HNB hz hz2
    have hs3 := h3.size
    have hd : Below wd.heap.size wd wd.drew := (Below.refl _ _).drew
    have h4 := h3.below hd
    have e4 := h4.c1
    have x1 : wd.drew.cell? ⟨w.heap.size, 1, none⟩ = some (.int .u64 (x.2 : Int)) := cell_of_row wd.drew _ 1 _ _ _ hbx3
    have hws : w.heap.size < wd.drew.heap.size := (Array.getElem?_eq_some_iff.1 hbx3).1
    go_wp2
    go_region_law (first
      | (refine step_append_bs rfl (.tmp 20) (.tmp 23) 29 rfl g 5 i Try.underlying29 hi hy0 hy1 hy2 (.slice ao1 n1 c1) (l ++ [c8]).length (l ++ [c8]) rfl rfl h5.own _ rfl (numB x.2) hs2 ((by simp; omega)) (by have := h5.size; omega) ?_; intro v6 w6 ho6 hk6 hm6; obtain ⟨ao6, n6, c6, hv6⟩ := own_form ho6; subst hv6; have hb6 := (hk6.block b h5.size h5.ne).trans h5.box; have e6 := cell_of_row w6 b 1 _ _ _ hb6; have f6 := frozen_of_row w6 b 1 _ _ hb6)
      | (go_simp; go_wp2_with (go_at_call 70; refine (refNum_any x.2 hx _).mono ?_; rintro e w5 ⟨v5, rfl, ho5, hb5⟩; have h5 := h4.below hb5; have e5 := h5.c1; obtain ⟨ao5, n5, c5, hv5⟩ := own_form ho5; subst hv5; have hs2 := Bs.ofOwns ho5)))
    all_goals
      go_wp2
      go_end0
      have hst := h5.stored ho6 hk6 hm6
      refine ⟨rfl, _, by rw [HL.out]; simpa using hst.1, ?_⟩
      exact hbc.trans ((hd.mono (by omega)).trans ((hb5.mono (by have := hd.size; omega)).trans hst.2))

end Go.Proofs.Ytcpegfjjdojinaa

namespace Go.Proofs.Ytcpegfjjdojinaa
open Go.RowKit

/-- What the plain body lays, whatever its order is: as bodyB. -/
def partsB (m : Msg) : List UInt8 := bodyB m
theorem wrap_u64x (z : Int) : (z % 18446744073709551616 : Int) = ((u64 z : Nat) : Int) := by
  have h := Int.emod_nonneg z (show (18446744073709551616 : Int) ≠ 0 by decide)
  simp only [u64, Int.toNat_of_nonneg h]
theorem u8_u64 (z : Int) : u8 ((u64 z : Nat) : Int) = u8 z := by
  have h := Int.emod_nonneg z (show (18446744073709551616 : Int) ≠ 0 by decide)
  unfold u8 u64
  congr 1
  omega

theorem fld_parts (m : Msg) (hs : Nat) (hk : hasF m.kind = hs) : bodyB m = headB m ++ ((if hs &&& 1 = 0 then [] else layF m 1) ++ ((if hs &&& 2 = 0 then [] else layF m 2) ++ ((if hs &&& 4 = 0 then [] else layF m 4) ++ ((if hs &&& 8 = 0 then [] else layF m 8) ++ ((if hs &&& 16 = 0 then [] else layF m 16) ++ ((if hs &&& 32 = 0 then [] else layF m 32) ++ ((if hs &&& 64 = 0 then [] else layF m 64) ++ ((if hs &&& 128 = 0 then [] else layF m 128) ++ ((if hs &&& 256 = 0 then [] else layF m 256) ++ ((if hs &&& 512 = 0 then [] else layF m 512) ++ ((if hs &&& 1024 = 0 then [] else layF m 1024) ++ ((if hs &&& 2048 = 0 then [] else layF m 2048) ++ ((if hs &&& 4096 = 0 then [] else layF m 4096) ++ ((if hs &&& 8192 = 0 then [] else layF m 8192) ++ ((if hs &&& 16384 = 0 then [] else layF m 16384) ++ []))))))))))))))) := by
  subst hk
  rfl

theorem lay_one (m : Msg) : layF m 8 = [u8 m.op] ∧ layF m 16 = [u8 m.fld] ∧ layF m 1024 = [u8 m.code] ∧ layF m 128 = [u8 m.vou] ∧ layF m 512 = [u8 m.dist] := by
  refine ⟨?_, ?_, ?_, ?_, ?_⟩
  · exact congrArg (fun x => [x]) (u8_u64 m.op)
  · exact congrArg (fun x => [x]) (u8_u64 m.fld)
  · exact congrArg (fun x => [x]) (u8_u64 m.code)
  · exact congrArg (fun x => [x]) (u8_u64 m.vou)
  · exact congrArg (fun x => [x]) (u8_u64 m.dist)

theorem lay_1 (m : Msg) : layF m 1 = numB m.call := rfl
theorem lay_2 (m : Msg) : layF m 2 = numB m.floor := rfl
theorem lay_4 (m : Msg) : layF m 4 = numB (u64 m.item) := rfl
theorem lay_32 (m : Msg) : layF m 32 = layIDB (m.tn, m.ts) := rfl
theorem lay_64 (m : Msg) : layF m 64 = numB m.seq := rfl
theorem lay_256 (m : Msg) : layF m 256 = numB m.at_ := rfl
theorem lay_2048 (m : Msg) : layF m 2048 = numB m.val := rfl
theorem lay_8192 (m : Msg) : layF m 8192 = numB m.stamp := rfl
theorem lay_8 (m : Msg) : layF m 8 = [u8 m.op] := (lay_one m).1
theorem lay_16 (m : Msg) : layF m 16 = [u8 m.fld] := (lay_one m).2.1
theorem lay_1024 (m : Msg) : layF m 1024 = [u8 m.code] := (lay_one m).2.2.1
theorem lay_128 (m : Msg) : layF m 128 = [u8 m.vou] := (lay_one m).2.2.2.1
theorem lay_512 (m : Msg) : layF m 512 = [u8 m.dist] := (lay_one m).2.2.2.2
theorem parts_3 {m : Msg} (hk : m.kind = 3) : partsB m = headB m ++ numB m.call := by
  unfold partsB
  rw [fld_parts m 1 (by rw [hk]; rfl)]
  simp [lay_1]
theorem parts_4 {m : Msg} (hk : m.kind = 4) : partsB m = headB m ++ layIDB (m.tn, m.ts) ++ numB m.seq ++ [u8 m.vou] ++ numB m.at_ ++ [u8 m.dist] := by
  unfold partsB
  rw [fld_parts m 992 (by rw [hk]; rfl)]
  simp [lay_32, lay_64, lay_128, lay_256, lay_512]
theorem parts_5 {m : Msg} (hk : m.kind = 5) : partsB m = headB m ++ layIDB (m.tn, m.ts) ++ numB m.seq ++ numB m.at_ ++ [u8 m.code] := by
  unfold partsB
  rw [fld_parts m 1376 (by rw [hk]; rfl)]
  simp [lay_32, lay_64, lay_256, lay_1024]
theorem parts_6 {m : Msg} (hk : m.kind = 6) : partsB m = headB m ++ layIDB (m.tn, m.ts) ++ numB m.seq := by
  unfold partsB
  rw [fld_parts m 96 (by rw [hk]; rfl)]
  simp [lay_32, lay_64]
theorem parts_7 {m : Msg} (hk : m.kind = 7) : partsB m = headB m ++ layIDB (m.tn, m.ts) ++ numB m.seq := by
  unfold partsB
  rw [fld_parts m 96 (by rw [hk]; rfl)]
  simp [lay_32, lay_64]
theorem parts_8 {m : Msg} (hk : m.kind = 8) : partsB m = headB m ++ numB m.call ++ numB (u64 m.item) ++ [u8 m.op] ++ layIDB (m.tn, m.ts) := by
  unfold partsB
  rw [fld_parts m 45 (by rw [hk]; rfl)]
  simp [lay_1, lay_4, lay_8, lay_32]
theorem parts_10 {m : Msg} (hk : m.kind = 10) : partsB m = headB m ++ numB m.call ++ numB (u64 m.item) ++ layIDB (m.tn, m.ts) ++ numB m.stamp := by
  unfold partsB
  rw [fld_parts m 8229 (by rw [hk]; rfl)]
  simp [lay_1, lay_4, lay_32, lay_8192]
theorem parts_11 {m : Msg} (hk : m.kind = 11) : partsB m = headB m ++ numB m.call ++ numB (u64 m.item) := by
  unfold partsB
  rw [fld_parts m 5 (by rw [hk]; rfl)]
  simp [lay_1, lay_4]

/-- What stands when the first three bytes are laid. -/
theorem body_start (w : World) (m : Msg) (o : Obj) (w0 : World) (h : w0 = ((w.alloc o).alloc (.cells #[.int .u8 (m.kind % 256), .int .u8 (m.frm % 256), .int .u8 (m.to % 256)] 5)).alloc (.cells #[.int .i64 m.kind, .slice (some ⟨w.heap.size + 1, 0, none⟩) 3 3] 92)) :
    Below w.heap.size w w0 ∧ LD w0 (w.heap.size + 2) m.kind (.slice (some ⟨w.heap.size + 1, 0, none⟩) 3 3) [u8 m.kind, u8 m.frm, u8 m.to] (w.heap.size + 1) ∧ w0.heap[w.heap.size]? = some o := by
  subst h
  have s1 : (w.alloc o).heap.size = w.heap.size + 1 := by simp
  have s2 : ∀ p, ((w.alloc o).alloc p).heap.size = w.heap.size + 2 := fun p => by simp
  have k1 := fun p => heap_alloc_new (w.alloc o) p
  rw [s1] at k1
  have k2 := fun p q => heap_alloc_new ((w.alloc o).alloc p) q
  refine ⟨(((Below.refl _ _).alloc (Nat.le_refl _) _).alloc (by simp) _).alloc (by simp; omega) _, ⟨?_, ?_, by omega, by simp [Value.ownBlock]⟩, ?_⟩
  · have := k2 (.cells #[.int .u8 (m.kind % 256), .int .u8 (m.frm % 256), .int .u8 (m.to % 256)] 5) (.cells #[.int .i64 m.kind, .slice (some ⟨w.heap.size + 1, 0, none⟩) 3 3] 92)
    rwa [s2] at this
  · refine ⟨by simp, Or.inr ⟨w.heap.size + 1, 3, _, rfl, Nat.le_refl _, (Below.heap_alloc _ _ _ (by rw [s2]; omega)).trans (k1 _), by simp, by simp [maxLen], by simp, ?_⟩⟩
    have e1 := wrap_u8 m.kind
    have e2 := wrap_u8 m.frm
    have e3 := wrap_u8 m.to
    simp only [List.length_cons, List.length_nil, bv, List.map_cons, List.map_nil]
    rw [← e1, ← e2, ← e3]
    rfl
  · exact (Below.heap_alloc _ _ _ (by rw [s2]; omega)).trans ((Below.heap_alloc _ _ _ (by omega)).trans (heap_alloc_new w o))

end Go.Proofs.Ytcpegfjjdojinaa

namespace Go.Proofs.Ytcpegfjjdojinaa
open Go.RowKit

theorem lay_4096 (m : Msg) : layF m 4096 = layIDsB m.refs := rfl
theorem lay_16384 (m : Msg) : layF m 16384 = layListB m.list := rfl
theorem parts_1 {m : Msg} (hk : m.kind = 1) : partsB m = headB m ++ numB m.call ++ numB m.floor ++ [u8 m.op] ++ [u8 m.fld] ++ layIDB (m.tn, m.ts) ++ numB m.val ++ layIDsB m.refs := by
  unfold partsB
  rw [fld_parts m 6203 (by rw [hk]; rfl)]
  simp [lay_1, lay_2, lay_8, lay_16, lay_32, lay_2048, lay_4096]
theorem parts_2 {m : Msg} (hk : m.kind = 2) : partsB m = headB m ++ numB m.call ++ [u8 m.code] ++ numB m.val ++ layIDsB m.refs := by
  unfold partsB
  rw [fld_parts m 7169 (by rw [hk]; rfl)]
  simp [lay_1, lay_1024, lay_2048, lay_4096]
theorem parts_9 {m : Msg} (hk : m.kind = 9) : partsB m = headB m ++ numB m.call ++ numB (u64 m.item) ++ [u8 m.code] ++ numB m.stamp ++ layListB m.list := by
  unfold partsB
  rw [fld_parts m 25605 (by rw [hk]; rfl)]
  simp [lay_1, lay_4, lay_1024, lay_8192, lay_16384]

end Go.Proofs.Ytcpegfjjdojinaa

