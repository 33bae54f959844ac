import Derived.Test.YtcpegfjjdojinaaRLaid3P
import Derived.Test.YtcpegfjjdojinaaRBody1P
import Derived.Test.YtcpegfjjdojinaaRBody3P
import Derived.Test.YtcpegfjjdojinaaRBody9
import Derived.Test.YtcpegfjjdojinaaRMath
import Derived.Test.YtcpegfjjdojinaaWalkDP
/- The plain body of a message of Kind 10: its walk. -/
/- The plain body of a message of Kind 11: its walk. -/
/- The plain Encode. -/
/- The plain Encode: what comes out lies in memory of its own. -/
namespace Go.Proofs.Ytcpegfjjdojinaa
open Go.RowKit

set_option maxRecDepth 40000 in
set_option maxHeartbeats 16000000 in
theorem rbody_10 (m : Msg) (ro lo : Option Addr) (rc lc : Nat) (w : World) (hm : m.Ok) (hkd : m.kind = 10) :
    Calls Try.prog 40 #[m.v ro lo rc lc] w fun e w' => ∃ v', e = .returned v' ∧ Bs w' v' (partsB m) ∧ Below w.heap.size w w' := by
  have HP : Hid (partsB m = headB m ++ numB m.call ++ numB (u64 m.item) ++ layIDB (m.tn, m.ts) ++ numB m.stamp) := parts_10 hkd
  have HD : Hid (headB m = [u8 m.kind, u8 m.frm, u8 m.to]) := rfl
  generalize partsB m = G at *
  have hbox := MBox.new w m ro lo rc lc
  obtain ⟨w0, hw0⟩ : ∃ w0, w0 = ((w.alloc (.cells #[.int .i64 m.kind, .int .i64 m.frm, .int .i64 m.to, .int .u64 (m.call : Int), .int .u64 (m.floor : Int), .int .i64 m.op, .int .i64 m.fld, .int .i64 m.item,
    .int .i64 m.tn, .int .u64 (m.ts : Int), .slice ro m.refs.length rc, .int .u64 (m.val : Int), .int .i64 m.code, .int .u64 (m.seq : Int), .int .i64 m.vou, .int .u64 (m.at_ : Int), .int .i64 m.dist, .int .u64 (m.stamp : Int), .slice lo m.list.length lc] 28)).alloc (.cells #[.int .u8 (m.kind % 256), .int .u8 (m.frm % 256), .int .u8 (m.to % 256)] 5)).alloc (.cells #[.int .i64 m.kind, .slice (some ⟨w.heap.size + 1, 0, none⟩) 3 3] 92) := ⟨_, rfl⟩
  obtain ⟨hb0, hld0, hbx0⟩ := body_start w m (.cells #[.int .i64 m.kind, .int .i64 m.frm, .int .i64 m.to, .int .u64 (m.call : Int), .int .u64 (m.floor : Int), .int .i64 m.op, .int .i64 m.fld, .int .i64 m.item,
    .int .i64 m.tn, .int .u64 (m.ts : Int), .slice ro m.refs.length rc, .int .u64 (m.val : Int), .int .i64 m.code, .int .u64 (m.seq : Int), .int .i64 m.vou, .int .u64 (m.at_ : Int), .int .i64 m.dist, .int .u64 (m.stamp : Int), .slice lo m.list.length lc] 28) w0 hw0
  have hs0 : w0.heap.size = w.heap.size + 3 := by rw [hw0]; simp
  have K := fun W hb => (MBox.later (B := w.heap.size + 1) hbx0 (by omega) W hb).cells
  have hk0 := fun W hb => (K W hb).1
  have hk3 := fun W hb => (K W hb).2.2.2.1
  have hk4 := fun W hb => (K W hb).2.2.2.2.1
  have hk5 := fun W hb => (K W hb).2.2.2.2.2.1
  have hk6 := fun W hb => (K W hb).2.2.2.2.2.2.1
  have hk7 := fun W hb => (K W hb).2.2.2.2.2.2.2.1
  have hk8 := fun W hb => (K W hb).2.2.2.2.2.2.2.2.1
  have hk9 := fun W hb => (K W hb).2.2.2.2.2.2.2.2.2.1
  have hk11 := fun W hb => (K W hb).2.2.2.2.2.2.2.2.2.2.2.1
  have hk12 := fun W hb => (K W hb).2.2.2.2.2.2.2.2.2.2.2.2.1
  have hk13 := fun W hb => (K W hb).2.2.2.2.2.2.2.2.2.2.2.2.2.1
  have hk14 := fun W hb => (K W hb).2.2.2.2.2.2.2.2.2.2.2.2.2.2.1
  have hk15 := fun W hb => (K W hb).2.2.2.2.2.2.2.2.2.2.2.2.2.2.2.1
  have hk16 := fun W hb => (K W hb).2.2.2.2.2.2.2.2.2.2.2.2.2.2.2.2.1
  have hk17 := fun W hb => (K W hb).2.2.2.2.2.2.2.2.2.2.2.2.2.2.2.2.2.1
  clear K hbox
  rw [← HD.out] at hld0
  have hlen0 : (headB m).length ≤ 3 := by simp [headB]
  generalize headB m = l0 at *
  have HW : Hid (((w.alloc (.cells #[.int .i64 m.kind, .int .i64 m.frm, .int .i64 m.to, .int .u64 (m.call : Int), .int .u64 (m.floor : Int), .int .i64 m.op, .int .i64 m.fld, .int .i64 m.item,
    .int .i64 m.tn, .int .u64 (m.ts : Int), .slice ro m.refs.length rc, .int .u64 (m.val : Int), .int .i64 m.code, .int .u64 (m.seq : Int), .int .i64 m.vou, .int .u64 (m.at_ : Int), .int .i64 m.dist, .int .u64 (m.stamp : Int), .slice lo m.list.length lc] 28)).alloc (.cells #[.int .u8 (m.kind % 256), .int .u8 (m.frm % 256), .int .u8 (m.to % 256)] 5)).alloc (.cells #[.int .i64 m.kind, .slice (some ⟨w.heap.size + 1, 0, none⟩) 3 3] 92) = w0) := hw0.symm
  have HK : Hid (m.kind = 10) := hkd
  clear hw0 HD hkd
  have r0 := Below.refl (w.heap.size + 1) w0
  go_enter Try.func40, Try.ntmps40
  go_wp2_with fail
  rw [HW.out]
  rw [HK.out] at hld0
  simp only [HK.out] at hk0
  refine (lnum_yes w0 (w.heap.size + 2) 10 (.slice (some ⟨w.heap.size + 1, 0, none⟩) 3 3) l0 (w.heap.size + 1) 1 m.call [99, 97, 108, 108] (by unfold Fld; omega) rfl (by have := hm.call; unfold U64 at this; exact this) (by decide +kernel) hld0 (by omega)).mono ?_
  rintro e x1 ⟨rfl, v1, h1, y1⟩
  have hlen1 : (l0 ++ numB m.call).length ≤ 13 := by rw [List.length_append]; have := hlen0; have := numB_len m.call; omega
  have B1 := r0.trans y1
  have q0 := hk0 x1 B1
  have q4 := hk4 x1 B1
  go_wp2_with fail
  clear q0 q4
  refine (lnum_no x1 (w.heap.size + 2) 10 v1 (l0 ++ numB m.call) (w.heap.size + 1) 2 m.floor [102, 108, 111, 111, 114] (by unfold Fld; omega) rfl (by decide +kernel) h1).mono ?_
  rintro e x2 ⟨rfl, h2, y2⟩
  have B2 := B1.trans y2
  have q0 := hk0 x2 B2
  have q7 := hk7 x2 B2
  go_wp2_with fail
  clear q0 q7
  rw [wrap_u64 m.item]
  refine (lnum_yes x2 (w.heap.size + 2) 10 v1 (l0 ++ numB m.call) (w.heap.size + 1) 4 (u64 m.item) [105, 116, 101, 109] (by unfold Fld; omega) rfl (by have := U64.wrap m.item; unfold U64 at this; exact this) (by decide +kernel) h2 (by omega)).mono ?_
  rintro e x3 ⟨rfl, v3, h3, y3⟩
  have hlen3 : ((l0 ++ numB m.call) ++ numB (u64 m.item)).length ≤ 23 := by rw [List.length_append]; have := hlen1; have := numB_len (u64 m.item); omega
  have B3 := B2.trans y3
  have q0 := hk0 x3 B3
  have q5 := hk5 x3 B3
  go_wp2_with fail
  clear q0 q5
  refine (lone_no x3 (w.heap.size + 2) 10 v3 ((l0 ++ numB m.call) ++ numB (u64 m.item)) (w.heap.size + 1) 8 m.op [111, 112] (by unfold Fld; omega) rfl (by decide +kernel) h3).mono ?_
  rintro e x4 ⟨rfl, h4, y4⟩
  have B4 := B3.trans y4
  have q0 := hk0 x4 B4
  have q6 := hk6 x4 B4
  go_wp2_with fail
  clear q0 q6
  refine (lone_no x4 (w.heap.size + 2) 10 v3 ((l0 ++ numB m.call) ++ numB (u64 m.item)) (w.heap.size + 1) 16 m.fld [102, 105, 101, 108, 100] (by unfold Fld; omega) rfl (by decide +kernel) h4).mono ?_
  rintro e x5 ⟨rfl, h5, y5⟩
  have B5 := B4.trans y5
  have q0 := hk0 x5 B5
  have q8 := hk8 x5 B5
  have q9 := hk9 x5 B5
  go_wp2_with fail
  clear q0 q8 q9
  refine (rhas_any 10 32 (by unfold Fld; omega) [116, 97, 114, 103, 101, 116] rfl x5).mono ?_
  rintro e x6 ⟨rfl, y6⟩
  rw [show hasB 10 32 = true from by decide +kernel]
  have h6 := h5.below y6
  have B6 := B5.trans (y6.mono (by have := B5.size; omega))
  have q8 := hk8 x6 B6
  have q9 := hk9 x6 B6
  go_wp2_with fail
  clear q8 q9
  refine (lid_any x6 (w.heap.size + 2) 10 v3 ((l0 ++ numB m.call) ++ numB (u64 m.item)) (w.heap.size + 1) (m.tn, m.ts) hm.ts h6 (by omega)).mono ?_
  rintro e x7 ⟨rfl, v7, h7, y7⟩
  have hlen7 : (((l0 ++ numB m.call) ++ numB (u64 m.item)) ++ layIDB (m.tn, m.ts)).length ≤ 43 := by rw [List.length_append]; have := hlen3; have := layIDB_len (m.tn, m.ts); omega
  have B7 := B6.trans y7
  have q0 := hk0 x7 B7
  have q11 := hk11 x7 B7
  go_wp2_with fail
  clear q0 q11
  refine (lnum_no x7 (w.heap.size + 2) 10 v7 (((l0 ++ numB m.call) ++ numB (u64 m.item)) ++ layIDB (m.tn, m.ts)) (w.heap.size + 1) 2048 m.val [118, 97, 108, 117, 101] (by unfold Fld; omega) rfl (by decide +kernel) h7).mono ?_
  rintro e x8 ⟨rfl, h8, y8⟩
  have B8 := B7.trans y8
  have q0 := hk0 x8 B8
  go_wp2_with fail
  clear q0
  refine (rhas_any 10 4096 (by unfold Fld; omega) [114, 101, 102, 115] rfl x8).mono ?_
  rintro e x9 ⟨rfl, y9⟩
  rw [show hasB 10 4096 = false from by decide +kernel]
  have h9 := h8.below y9
  have B9 := B8.trans (y9.mono (by have := B8.size; omega))
  have q0 := hk0 x9 B9
  have q13 := hk13 x9 B9
  go_wp2_with fail
  clear q0 q13
  refine (lnum_no x9 (w.heap.size + 2) 10 v7 (((l0 ++ numB m.call) ++ numB (u64 m.item)) ++ layIDB (m.tn, m.ts)) (w.heap.size + 1) 64 m.seq [115, 101, 113] (by unfold Fld; omega) rfl (by decide +kernel) h9).mono ?_
  rintro e x10 ⟨rfl, h10, y10⟩
  have B10 := B9.trans y10
  have q0 := hk0 x10 B10
  have q14 := hk14 x10 B10
  go_wp2_with fail
  clear q0 q14
  refine (lone_no x10 (w.heap.size + 2) 10 v7 (((l0 ++ numB m.call) ++ numB (u64 m.item)) ++ layIDB (m.tn, m.ts)) (w.heap.size + 1) 128 m.vou [118, 111, 117, 99, 104, 101, 114] (by unfold Fld; omega) rfl (by decide +kernel) h10).mono ?_
  rintro e x11 ⟨rfl, h11, y11⟩
  have B11 := B10.trans y11
  have q0 := hk0 x11 B11
  have q15 := hk15 x11 B11
  go_wp2_with fail
  clear q0 q15
  refine (lnum_no x11 (w.heap.size + 2) 10 v7 (((l0 ++ numB m.call) ++ numB (u64 m.item)) ++ layIDB (m.tn, m.ts)) (w.heap.size + 1) 256 m.at_ [97, 116] (by unfold Fld; omega) rfl (by decide +kernel) h11).mono ?_
  rintro e x12 ⟨rfl, h12, y12⟩
  have B12 := B11.trans y12
  have q0 := hk0 x12 B12
  have q16 := hk16 x12 B12
  go_wp2_with fail
  clear q0 q16
  refine (lone_no x12 (w.heap.size + 2) 10 v7 (((l0 ++ numB m.call) ++ numB (u64 m.item)) ++ layIDB (m.tn, m.ts)) (w.heap.size + 1) 512 m.dist [100, 105, 115, 116] (by unfold Fld; omega) rfl (by decide +kernel) h12).mono ?_
  rintro e x13 ⟨rfl, h13, y13⟩
  have B13 := B12.trans y13
  have q0 := hk0 x13 B13
  have q17 := hk17 x13 B13
  go_wp2_with fail
  clear q0 q17
  refine (lnum_yes x13 (w.heap.size + 2) 10 v7 (((l0 ++ numB m.call) ++ numB (u64 m.item)) ++ layIDB (m.tn, m.ts)) (w.heap.size + 1) 8192 m.stamp [115, 116, 97, 109, 112] (by unfold Fld; omega) rfl (by have := hm.stamp; unfold U64 at this; exact this) (by decide +kernel) h13 (by omega)).mono ?_
  rintro e x14 ⟨rfl, v14, h14, y14⟩
  have hlen14 : ((((l0 ++ numB m.call) ++ numB (u64 m.item)) ++ layIDB (m.tn, m.ts)) ++ numB m.stamp).length ≤ 53 := by rw [List.length_append]; have := hlen7; have := numB_len m.stamp; omega
  have B14 := B13.trans y14
  have q0 := hk0 x14 B14
  go_wp2_with fail
  clear q0
  refine (rhas_any 10 16384 (by unfold Fld; omega) [108, 105, 115, 116] rfl x14).mono ?_
  rintro e x15 ⟨rfl, y15⟩
  rw [show hasB 10 16384 = false from by decide +kernel]
  have h15 := h14.below y15
  have B15 := B14.trans (y15.mono (by have := B14.size; omega))
  obtain ⟨ao, nn, cc, hv⟩ := ld_form h15
  subst hv
  have d1 := h15.c1
  go_wp2
  go_ret
  refine ⟨_, rfl, ?_, hb0.trans (B15.mono (by omega))⟩
  rw [HP.out]
  exact Bs.ofOwns h15.own

end Go.Proofs.Ytcpegfjjdojinaa

namespace Go.Proofs.Ytcpegfjjdojinaa
open Go.RowKit

set_option maxRecDepth 40000 in
set_option maxHeartbeats 16000000 in
theorem rbody_11 (m : Msg) (ro lo : Option Addr) (rc lc : Nat) (w : World) (hm : m.Ok) (hkd : m.kind = 11) :
    Calls Try.prog 40 #[m.v ro lo rc lc] w fun e w' => ∃ v', e = .returned v' ∧ Bs w' v' (partsB m) ∧ Below w.heap.size w w' := by
  have HP : Hid (partsB m = headB m ++ numB m.call ++ numB (u64 m.item)) := parts_11 hkd
  have HD : Hid (headB m = [u8 m.kind, u8 m.frm, u8 m.to]) := rfl
  generalize partsB m = G at *
  have hbox := MBox.new w m ro lo rc lc
  obtain ⟨w0, hw0⟩ : ∃ w0, w0 = ((w.alloc (.cells #[.int .i64 m.kind, .int .i64 m.frm, .int .i64 m.to, .int .u64 (m.call : Int), .int .u64 (m.floor : Int), .int .i64 m.op, .int .i64 m.fld, .int .i64 m.item,
    .int .i64 m.tn, .int .u64 (m.ts : Int), .slice ro m.refs.length rc, .int .u64 (m.val : Int), .int .i64 m.code, .int .u64 (m.seq : Int), .int .i64 m.vou, .int .u64 (m.at_ : Int), .int .i64 m.dist, .int .u64 (m.stamp : Int), .slice lo m.list.length lc] 28)).alloc (.cells #[.int .u8 (m.kind % 256), .int .u8 (m.frm % 256), .int .u8 (m.to % 256)] 5)).alloc (.cells #[.int .i64 m.kind, .slice (some ⟨w.heap.size + 1, 0, none⟩) 3 3] 92) := ⟨_, rfl⟩
  obtain ⟨hb0, hld0, hbx0⟩ := body_start w m (.cells #[.int .i64 m.kind, .int .i64 m.frm, .int .i64 m.to, .int .u64 (m.call : Int), .int .u64 (m.floor : Int), .int .i64 m.op, .int .i64 m.fld, .int .i64 m.item,
    .int .i64 m.tn, .int .u64 (m.ts : Int), .slice ro m.refs.length rc, .int .u64 (m.val : Int), .int .i64 m.code, .int .u64 (m.seq : Int), .int .i64 m.vou, .int .u64 (m.at_ : Int), .int .i64 m.dist, .int .u64 (m.stamp : Int), .slice lo m.list.length lc] 28) w0 hw0
  have hs0 : w0.heap.size = w.heap.size + 3 := by rw [hw0]; simp
  have K := fun W hb => (MBox.later (B := w.heap.size + 1) hbx0 (by omega) W hb).cells
  have hk0 := fun W hb => (K W hb).1
  have hk3 := fun W hb => (K W hb).2.2.2.1
  have hk4 := fun W hb => (K W hb).2.2.2.2.1
  have hk5 := fun W hb => (K W hb).2.2.2.2.2.1
  have hk6 := fun W hb => (K W hb).2.2.2.2.2.2.1
  have hk7 := fun W hb => (K W hb).2.2.2.2.2.2.2.1
  have hk8 := fun W hb => (K W hb).2.2.2.2.2.2.2.2.1
  have hk9 := fun W hb => (K W hb).2.2.2.2.2.2.2.2.2.1
  have hk11 := fun W hb => (K W hb).2.2.2.2.2.2.2.2.2.2.2.1
  have hk12 := fun W hb => (K W hb).2.2.2.2.2.2.2.2.2.2.2.2.1
  have hk13 := fun W hb => (K W hb).2.2.2.2.2.2.2.2.2.2.2.2.2.1
  have hk14 := fun W hb => (K W hb).2.2.2.2.2.2.2.2.2.2.2.2.2.2.1
  have hk15 := fun W hb => (K W hb).2.2.2.2.2.2.2.2.2.2.2.2.2.2.2.1
  have hk16 := fun W hb => (K W hb).2.2.2.2.2.2.2.2.2.2.2.2.2.2.2.2.1
  have hk17 := fun W hb => (K W hb).2.2.2.2.2.2.2.2.2.2.2.2.2.2.2.2.2.1
  clear K hbox
  rw [← HD.out] at hld0
  have hlen0 : (headB m).length ≤ 3 := by simp [headB]
  generalize headB m = l0 at *
  have HW : Hid (((w.alloc (.cells #[.int .i64 m.kind, .int .i64 m.frm, .int .i64 m.to, .int .u64 (m.call : Int), .int .u64 (m.floor : Int), .int .i64 m.op, .int .i64 m.fld, .int .i64 m.item,
    .int .i64 m.tn, .int .u64 (m.ts : Int), .slice ro m.refs.length rc, .int .u64 (m.val : Int), .int .i64 m.code, .int .u64 (m.seq : Int), .int .i64 m.vou, .int .u64 (m.at_ : Int), .int .i64 m.dist, .int .u64 (m.stamp : Int), .slice lo m.list.length lc] 28)).alloc (.cells #[.int .u8 (m.kind % 256), .int .u8 (m.frm % 256), .int .u8 (m.to % 256)] 5)).alloc (.cells #[.int .i64 m.kind, .slice (some ⟨w.heap.size + 1, 0, none⟩) 3 3] 92) = w0) := hw0.symm
  have HK : Hid (m.kind = 11) := hkd
  clear hw0 HD hkd
  have r0 := Below.refl (w.heap.size + 1) w0
  go_enter Try.func40, Try.ntmps40
  go_wp2_with fail
  rw [HW.out]
  rw [HK.out] at hld0
  simp only [HK.out] at hk0
  refine (lnum_yes w0 (w.heap.size + 2) 11 (.slice (some ⟨w.heap.size + 1, 0, none⟩) 3 3) l0 (w.heap.size + 1) 1 m.call [99, 97, 108, 108] (by unfold Fld; omega) rfl (by have := hm.call; unfold U64 at this; exact this) (by decide +kernel) hld0 (by omega)).mono ?_
  rintro e x1 ⟨rfl, v1, h1, y1⟩
  have hlen1 : (l0 ++ numB m.call).length ≤ 13 := by rw [List.length_append]; have := hlen0; have := numB_len m.call; omega
  have B1 := r0.trans y1
  have q0 := hk0 x1 B1
  have q4 := hk4 x1 B1
  go_wp2_with fail
  clear q0 q4
  refine (lnum_no x1 (w.heap.size + 2) 11 v1 (l0 ++ numB m.call) (w.heap.size + 1) 2 m.floor [102, 108, 111, 111, 114] (by unfold Fld; omega) rfl (by decide +kernel) h1).mono ?_
  rintro e x2 ⟨rfl, h2, y2⟩
  have B2 := B1.trans y2
  have q0 := hk0 x2 B2
  have q7 := hk7 x2 B2
  go_wp2_with fail
  clear q0 q7
  rw [wrap_u64 m.item]
  refine (lnum_yes x2 (w.heap.size + 2) 11 v1 (l0 ++ numB m.call) (w.heap.size + 1) 4 (u64 m.item) [105, 116, 101, 109] (by unfold Fld; omega) rfl (by have := U64.wrap m.item; unfold U64 at this; exact this) (by decide +kernel) h2 (by omega)).mono ?_
  rintro e x3 ⟨rfl, v3, h3, y3⟩
  have hlen3 : ((l0 ++ numB m.call) ++ numB (u64 m.item)).length ≤ 23 := by rw [List.length_append]; have := hlen1; have := numB_len (u64 m.item); omega
  have B3 := B2.trans y3
  have q0 := hk0 x3 B3
  have q5 := hk5 x3 B3
  go_wp2_with fail
  clear q0 q5
  refine (lone_no x3 (w.heap.size + 2) 11 v3 ((l0 ++ numB m.call) ++ numB (u64 m.item)) (w.heap.size + 1) 8 m.op [111, 112] (by unfold Fld; omega) rfl (by decide +kernel) h3).mono ?_
  rintro e x4 ⟨rfl, h4, y4⟩
  have B4 := B3.trans y4
  have q0 := hk0 x4 B4
  have q6 := hk6 x4 B4
  go_wp2_with fail
  clear q0 q6
  refine (lone_no x4 (w.heap.size + 2) 11 v3 ((l0 ++ numB m.call) ++ numB (u64 m.item)) (w.heap.size + 1) 16 m.fld [102, 105, 101, 108, 100] (by unfold Fld; omega) rfl (by decide +kernel) h4).mono ?_
  rintro e x5 ⟨rfl, h5, y5⟩
  have B5 := B4.trans y5
  have q0 := hk0 x5 B5
  have q8 := hk8 x5 B5
  have q9 := hk9 x5 B5
  go_wp2_with fail
  clear q0 q8 q9
  refine (rhas_any 11 32 (by unfold Fld; omega) [116, 97, 114, 103, 101, 116] rfl x5).mono ?_
  rintro e x6 ⟨rfl, y6⟩
  rw [show hasB 11 32 = false from by decide +kernel]
  have h6 := h5.below y6
  have B6 := B5.trans (y6.mono (by have := B5.size; omega))
  have q0 := hk0 x6 B6
  have q11 := hk11 x6 B6
  go_wp2_with fail
  clear q0 q11
  refine (lnum_no x6 (w.heap.size + 2) 11 v3 ((l0 ++ numB m.call) ++ numB (u64 m.item)) (w.heap.size + 1) 2048 m.val [118, 97, 108, 117, 101] (by unfold Fld; omega) rfl (by decide +kernel) h6).mono ?_
  rintro e x7 ⟨rfl, h7, y7⟩
  have B7 := B6.trans y7
  have q0 := hk0 x7 B7
  go_wp2_with fail
  clear q0
  refine (rhas_any 11 4096 (by unfold Fld; omega) [114, 101, 102, 115] rfl x7).mono ?_
  rintro e x8 ⟨rfl, y8⟩
  rw [show hasB 11 4096 = false from by decide +kernel]
  have h8 := h7.below y8
  have B8 := B7.trans (y8.mono (by have := B7.size; omega))
  have q0 := hk0 x8 B8
  have q13 := hk13 x8 B8
  go_wp2_with fail
  clear q0 q13
  refine (lnum_no x8 (w.heap.size + 2) 11 v3 ((l0 ++ numB m.call) ++ numB (u64 m.item)) (w.heap.size + 1) 64 m.seq [115, 101, 113] (by unfold Fld; omega) rfl (by decide +kernel) h8).mono ?_
  rintro e x9 ⟨rfl, h9, y9⟩
  have B9 := B8.trans y9
  have q0 := hk0 x9 B9
  have q14 := hk14 x9 B9
  go_wp2_with fail
  clear q0 q14
  refine (lone_no x9 (w.heap.size + 2) 11 v3 ((l0 ++ numB m.call) ++ numB (u64 m.item)) (w.heap.size + 1) 128 m.vou [118, 111, 117, 99, 104, 101, 114] (by unfold Fld; omega) rfl (by decide +kernel) h9).mono ?_
  rintro e x10 ⟨rfl, h10, y10⟩
  have B10 := B9.trans y10
  have q0 := hk0 x10 B10
  have q15 := hk15 x10 B10
  go_wp2_with fail
  clear q0 q15
  refine (lnum_no x10 (w.heap.size + 2) 11 v3 ((l0 ++ numB m.call) ++ numB (u64 m.item)) (w.heap.size + 1) 256 m.at_ [97, 116] (by unfold Fld; omega) rfl (by decide +kernel) h10).mono ?_
  rintro e x11 ⟨rfl, h11, y11⟩
  have B11 := B10.trans y11
  have q0 := hk0 x11 B11
  have q16 := hk16 x11 B11
  go_wp2_with fail
  clear q0 q16
  refine (lone_no x11 (w.heap.size + 2) 11 v3 ((l0 ++ numB m.call) ++ numB (u64 m.item)) (w.heap.size + 1) 512 m.dist [100, 105, 115, 116] (by unfold Fld; omega) rfl (by decide +kernel) h11).mono ?_
  rintro e x12 ⟨rfl, h12, y12⟩
  have B12 := B11.trans y12
  have q0 := hk0 x12 B12
  have q17 := hk17 x12 B12
  go_wp2_with fail
  clear q0 q17
  refine (lnum_no x12 (w.heap.size + 2) 11 v3 ((l0 ++ numB m.call) ++ numB (u64 m.item)) (w.heap.size + 1) 8192 m.stamp [115, 116, 97, 109, 112] (by unfold Fld; omega) rfl (by decide +kernel) h12).mono ?_
  rintro e x13 ⟨rfl, h13, y13⟩
  have B13 := B12.trans y13
  have q0 := hk0 x13 B13
  go_wp2_with fail
  clear q0
  refine (rhas_any 11 16384 (by unfold Fld; omega) [108, 105, 115, 116] rfl x13).mono ?_
  rintro e x14 ⟨rfl, y14⟩
  rw [show hasB 11 16384 = false from by decide +kernel]
  have h14 := h13.below y14
  have B14 := B13.trans (y14.mono (by have := B13.size; omega))
  obtain ⟨ao, nn, cc, hv⟩ := ld_form h14
  subst hv
  have d1 := h14.c1
  go_wp2
  go_ret
  refine ⟨_, rfl, ?_, hb0.trans (B14.mono (by omega))⟩
  rw [HP.out]
  exact Bs.ofOwns h14.own

end Go.Proofs.Ytcpegfjjdojinaa

namespace Go.Proofs.Ytcpegfjjdojinaa
open Go.RowKit

theorem rbody_all (m : Msg) (ro lo : Option Addr) (rc lc : Nat) (w : World) (hm : m.Ok) (hr : IDs w ro m.refs) (hl : Us w lo m.list) (h : rightB m = true) :
    Calls Try.prog 40 #[m.v ro lo rc lc] w fun e w' => ∃ v', e = .returned v' ∧ Bs w' v' (bodyB m) ∧ Below w.heap.size w w' := by
  have h1 := right_refs h
  have h2 := right_list h
  have hk : ¬ hasF m.kind = 0 := by
    intro e
    unfold rightB at h
    rw [e] at h
    simp at h
  rcases kinds m.kind with e | e | e | e | e | e | e | e | e | e | e | e
  · exact rbody_1 m ro lo rc lc w hm hr (by omega) e
  · exact rbody_2 m ro lo rc lc w hm hr (by omega) e
  · exact rbody_3 m ro lo rc lc w hm e
  · exact rbody_4 m ro lo rc lc w hm e
  · exact rbody_5 m ro lo rc lc w hm e
  · exact rbody_6 m ro lo rc lc w hm e
  · exact rbody_7 m ro lo rc lc w hm e
  · exact rbody_8 m ro lo rc lc w hm e
  · exact rbody_9 m ro lo rc lc w hm hl (by omega) e
  · exact rbody_10 m ro lo rc lc w hm e
  · exact rbody_11 m ro lo rc lc w hm e
  · exact absurd (hasF_out e) hk

theorem body_len {m : Msg} (h : rightB m = true) : (bodyB m).length ≤ 11000 := by
  have := bodyTo_len h 15 (Nat.le_refl _)
  rw [show flds.take 15 = flds from rfl] at this
  exact this

set_option maxRecDepth 20000 in
set_option maxHeartbeats 4000000 in
theorem rencode_no (m : Msg) (ro lo : Option Addr) (rc lc : Nat) (w : World) (hm : m.Ok) (hr : IDs w ro m.refs) (hlr : m.refs.length ≤ 140737488355328) (hl : Us w lo m.list) (hll : m.list.length ≤ 140737488355328) (h : rightB m = false) :
    Calls Try.prog 16 #[m.v ro lo rc lc] w fun e w' => e = .returned (.tuple #[.slice none 0 0, .int .i64 1]) ∧ Below w.heap.size w w' := by
  have hbox := MBox.new w m ro lo rc lc
  have hb0 : Below w.heap.size w (w.alloc (.cells #[.int .i64 m.kind, .int .i64 m.frm, .int .i64 m.to, .int .u64 (m.call : Int), .int .u64 (m.floor : Int), .int .i64 m.op, .int .i64 m.fld, .int .i64 m.item,
    .int .i64 m.tn, .int .u64 (m.ts : Int), .slice ro m.refs.length rc, .int .u64 (m.val : Int), .int .i64 m.code, .int .u64 (m.seq : Int), .int .i64 m.vou, .int .u64 (m.at_ : Int), .int .i64 m.dist, .int .u64 (m.stamp : Int), .slice lo m.list.length lc] 28)) := (Below.refl _ _).alloc (Nat.le_refl _) _
  have hri := rright_any m (numbersB m) ro lo rc lc (rnumbers_any m ro lo rc lc) _ (hr.below hb0) hlr (hl.below hb0) hll
  rw [right_same hm, h] at hri
  go_enter Try.func16, Try.ntmps16
  go_wp2_with (first
    | (refine load_msg _ rfl (by rfl) _ rfl m ro lo rc lc hbox ?_)
    | (go_at_call 15; refine hri.mono ?_; rintro e w1 ⟨rfl, hb1⟩))
  go_ret2
  exact ⟨rfl, below_alloc hb1⟩

set_option maxRecDepth 20000 in
set_option maxHeartbeats 4000000 in
theorem rencode_ok (m : Msg) (ro lo : Option Addr) (rc lc : Nat) (w : World) (hm : m.Ok) (hr : IDs w ro m.refs) (hl : Us w lo m.list) (h : rightB m = true) :
    Calls Try.prog 16 #[m.v ro lo rc lc] w fun e w' => ∃ v', e = .returned (.tuple #[v', .int .i64 0]) ∧ Bs w' v' (bodyB m ++ sumBytes (crc (bodyB m))) ∧ Below w.heap.size w w' := by
  have hbox := MBox.new w m ro lo rc lc
  have hb0 : Below w.heap.size w (w.alloc (.cells #[.int .i64 m.kind, .int .i64 m.frm, .int .i64 m.to, .int .u64 (m.call : Int), .int .u64 (m.floor : Int), .int .i64 m.op, .int .i64 m.fld, .int .i64 m.item,
    .int .i64 m.tn, .int .u64 (m.ts : Int), .slice ro m.refs.length rc, .int .u64 (m.val : Int), .int .i64 m.code, .int .u64 (m.seq : Int), .int .i64 m.vou, .int .u64 (m.at_ : Int), .int .i64 m.dist, .int .u64 (m.stamp : Int), .slice lo m.list.length lc] 28)) := (Below.refl _ _).alloc (Nat.le_refl _) _
  have h1 := right_refs h
  have h2 := right_list h
  have hlen := body_len h
  have hri := rright_any m (numbersB m) ro lo rc lc (rnumbers_any m ro lo rc lc) _ (hr.below hb0) (by omega) (hl.below hb0) (by omega)
  rw [right_same hm, h] at hri
  have hbd := fun w h1 h2 => rbody_all m ro lo rc lc w hm h1 h2 h
  clear h
  generalize bodyB m = L at *
  go_enter Try.func16, Try.ntmps16
  go_wp2_with (first
    | (refine load_msg _ rfl (by rfl) _ rfl m ro lo rc lc hbox ?_)
    | (go_at_call 15; refine hri.mono ?_; rintro e w1 ⟨rfl, hb1⟩; have hB1 := below_alloc hb1; have hbox := hbox.below hb1 (by simp))
    | (go_at_call 40; refine (hbd w1 (hr.below hB1) (hl.below hB1)).mono ?_; rintro e w2 ⟨v2, rfl, hv2, hb2⟩)
    | (go_at_call 18; refine (refSeal_any v2 L w2 hv2 (by omega)).mono ?_; rintro e w3 ⟨v3, rfl, hv3, hb3⟩))
  go_ret2
  exact ⟨v3, rfl, hv3, hB1.trans ((hb2.mono hB1.size).trans (hb3.mono (by have := hB1.size; have := hb2.size; omega)))⟩

end Go.Proofs.Ytcpegfjjdojinaa

namespace Go.Proofs.Ytcpegfjjdojinaa
open Go.RowKit

set_option maxHeartbeats 400000 in
theorem refSeal_own (v : Value) (l : List UInt8) (w : World) (hv : Bs w v l) (hl : l.length ≤ 140737488355000) :
    Calls Try.prog 18 #[v] w fun e w' => ∃ v', e = .returned v' ∧ w'.ownsRow w.heap.size 5 1 v' (l ++ sumBytes (crc l)).length ((l ++ sumBytes (crc l)).map bv) ∧ Below w.heap.size w w' := by
  obtain ⟨i, hi, hz0, hz1, hz2⟩ := info_parts Try.infoByte
  have hcl := crc_lt l
  have hv0 := hv
  obtain ⟨ao, cap, rfl, hc, hx⟩ := hv
  clear hx
  go_enter Try.func18, Try.ntmps18
  go_wp2_with (first
    | (go_at_call 45; refine (refSum_any _ l _ hv0 (by omega)).mono ?_; rintro e w' ⟨rfl, rfl⟩)
    | (at_builtin; refine wpList_append_bs rfl (.tmp 7) (.tmp 8) 29 rfl w.heap.size 5 i Try.underlying29 hi hz0 hz1 hz2 (.slice (some ⟨w.heap.size, 0, none⟩) 0 0) 0 [] rfl rfl (World.ownsRow_lit w #[] 0 (Nat.le_refl _) (by simp [maxLen]) rfl) _ rfl l (hv0.below ((Below.refl _ _).alloc (Nat.le_refl _) _)) (by omega) (by simp) ?_; intro v1 w1 hown1 hkept1 hmoved1; have hb1 := own_below (World.ownsRow_lit w #[] 0 (Nat.le_refl _) (by simp [maxLen]) rfl) hkept1 (by simp); obtain ⟨ao1, n1, cp1, rfl⟩ := own_form hown1)
    | (at_builtin; refine wpList_append_bs rfl (.tmp 10) (.tmp 22) 29 rfl w.heap.size 5 i Try.underlying29 hi hz0 hz1 hz2 (.slice ao1 n1 cp1) _ ([] ++ l) rfl rfl (hown1.alloc _) _ rfl (sumBytes (crc l)) (Bs.four _ _ hcl _) (by simp [length_sumBytes]; omega) (by have := hkept1.size; simp at this ⊢; omega) ?_; intro v2 w2 hown2 hkept2 hmoved2; have hb2 := own_below (hown1.alloc _) hkept2 (by have := hkept1.size; simp at this ⊢; omega)))
  go_ret
  refine ⟨_, rfl, by simpa using hown2, ?_⟩
  have hsz1 := hkept1.size
  simp at hsz1
  exact (((Below.refl _ _).alloc (Nat.le_refl _) _).trans hb1).trans (((Below.refl _ _).alloc (by omega) _).trans hb2)

set_option maxRecDepth 20000 in
set_option maxHeartbeats 4000000 in
theorem rencode_own (m : Msg) (ro lo : Option Addr) (rc lc : Nat) (w : World) (hm : m.Ok) (hr : IDs w ro m.refs) (hl : Us w lo m.list) (h : rightB m = true) :
    Calls Try.prog 16 #[m.v ro lo rc lc] w fun e w' => ∃ v' g, w.heap.size ≤ g ∧ e = .returned (.tuple #[v', .int .i64 0]) ∧ w'.ownsRow g 5 1 v' (bodyB m ++ sumBytes (crc (bodyB m))).length ((bodyB m ++ sumBytes (crc (bodyB m))).map bv) ∧ Below w.heap.size w w' := by
  have hbox := MBox.new w m ro lo rc lc
  have hb0 : Below w.heap.size w (w.alloc (.cells #[.int .i64 m.kind, .int .i64 m.frm, .int .i64 m.to, .int .u64 (m.call : Int), .int .u64 (m.floor : Int), .int .i64 m.op, .int .i64 m.fld, .int .i64 m.item,
    .int .i64 m.tn, .int .u64 (m.ts : Int), .slice ro m.refs.length rc, .int .u64 (m.val : Int), .int .i64 m.code, .int .u64 (m.seq : Int), .int .i64 m.vou, .int .u64 (m.at_ : Int), .int .i64 m.dist, .int .u64 (m.stamp : Int), .slice lo m.list.length lc] 28)) := (Below.refl _ _).alloc (Nat.le_refl _) _
  have h1 := right_refs h
  have h2 := right_list h
  have hlen := body_len h
  have hri := rright_any m (numbersB m) ro lo rc lc (rnumbers_any m ro lo rc lc) _ (hr.below hb0) (by omega) (hl.below hb0) (by omega)
  rw [right_same hm, h] at hri
  have hbd := fun w h1 h2 => rbody_all m ro lo rc lc w hm h1 h2 h
  clear h
  generalize bodyB m = L at *
  go_enter Try.func16, Try.ntmps16
  go_wp2_with (first
    | (refine load_msg _ rfl (by rfl) _ rfl m ro lo rc lc hbox ?_)
    | (go_at_call 15; refine hri.mono ?_; rintro e w1 ⟨rfl, hb1⟩; have hB1 := below_alloc hb1; have hbox := hbox.below hb1 (by simp))
    | (go_at_call 40; refine (hbd w1 (hr.below hB1) (hl.below hB1)).mono ?_; rintro e w2 ⟨v2, rfl, hv2, hb2⟩)
    | (go_at_call 18; refine (refSeal_own v2 L w2 hv2 (by omega)).mono ?_; rintro e w3 ⟨v3, rfl, hv3, hb3⟩))
  go_ret2
  exact ⟨v3, w2.heap.size, by have := hB1.size; have := hb2.size; omega, rfl, hv3, hB1.trans ((hb2.mono hB1.size).trans (hb3.mono (by have := hB1.size; have := hb2.size; omega)))⟩

end Go.Proofs.Ytcpegfjjdojinaa

