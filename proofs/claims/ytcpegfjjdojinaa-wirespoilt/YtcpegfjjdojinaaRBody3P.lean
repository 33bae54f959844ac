import Derived.Test.YtcpegfjjdojinaaRLaid3P
/- The plain body of a message of Kind 3: its walk. -/
/- The plain body of a message of Kind 4: its walk. -/
/- The plain body of a message of Kind 5: its walk. -/
/- The plain body of a message of Kind 6: its walk. -/
/- The plain body of a message of Kind 7: its walk. -/
/- The plain body of a message of Kind 8: its walk. -/
namespace Go.Proofs.Ytcpegfjjdojinaa
open Go.RowKit

set_option maxRecDepth 40000 in
set_option maxHeartbeats 16000000 in
theorem rbody_3 (m : Msg) (ro lo : Option Addr) (rc lc : Nat) (w : World) (hm : m.Ok) (hkd : m.kind = 3) :
    Calls Try.prog 40 #[m.v ro lo rc lc] w fun e w' => ∃ v', e = .returned v' ∧ Bs w' v' (partsB m) ∧ Below w.heap.size w w' := by
  have HP : Hid (partsB m = headB m ++ numB m.call) := parts_3 hkd
  have HD : Hid (headB m = [u8 m.kind, u8 m.frm, u8 m.to]) := rfl
  generalize partsB m = G at *
  have hbox := MBox.new w m ro lo rc lc
  obtain ⟨w0, hw0⟩ : ∃ w0, w0 = ((w.alloc (.cells #[.int .i64 m.kind, .int .i64 m.frm, .int .i64 m.to, .int .u64 (m.call : Int), .int .u64 (m.floor : Int), .int .i64 m.op, .int .i64 m.fld, .int .i64 m.item,
    .int .i64 m.tn, .int .u64 (m.ts : Int), .slice ro m.refs.length rc, .int .u64 (m.val : Int), .int .i64 m.code, .int .u64 (m.seq : Int), .int .i64 m.vou, .int .u64 (m.at_ : Int), .int .i64 m.dist, .int .u64 (m.stamp : Int), .slice lo m.list.length lc] 28)).alloc (.cells #[.int .u8 (m.kind % 256), .int .u8 (m.frm % 256), .int .u8 (m.to % 256)] 5)).alloc (.cells #[.int .i64 m.kind, .slice (some ⟨w.heap.size + 1, 0, none⟩) 3 3] 92) := ⟨_, rfl⟩
  obtain ⟨hb0, hld0, hbx0⟩ := body_start w m (.cells #[.int .i64 m.kind, .int .i64 m.frm, .int .i64 m.to, .int .u64 (m.call : Int), .int .u64 (m.floor : Int), .int .i64 m.op, .int .i64 m.fld, .int .i64 m.item,
    .int .i64 m.tn, .int .u64 (m.ts : Int), .slice ro m.refs.length rc, .int .u64 (m.val : Int), .int .i64 m.code, .int .u64 (m.seq : Int), .int .i64 m.vou, .int .u64 (m.at_ : Int), .int .i64 m.dist, .int .u64 (m.stamp : Int), .slice lo m.list.length lc] 28) w0 hw0
  have hs0 : w0.heap.size = w.heap.size + 3 := by rw [hw0]; simp
  have K := fun W hb => (MBox.later (B := w.heap.size + 1) hbx0 (by omega) W hb).cells
  have hk0 := fun W hb => (K W hb).1
  have hk3 := fun W hb => (K W hb).2.2.2.1
  have hk4 := fun W hb => (K W hb).2.2.2.2.1
  have hk5 := fun W hb => (K W hb).2.2.2.2.2.1
  have hk6 := fun W hb => (K W hb).2.2.2.2.2.2.1
  have hk7 := fun W hb => (K W hb).2.2.2.2.2.2.2.1
  have hk8 := fun W hb => (K W hb).2.2.2.2.2.2.2.2.1
  have hk9 := fun W hb => (K W hb).2.2.2.2.2.2.2.2.2.1
  have hk11 := fun W hb => (K W hb).2.2.2.2.2.2.2.2.2.2.2.1
  have hk12 := fun W hb => (K W hb).2.2.2.2.2.2.2.2.2.2.2.2.1
  have hk13 := fun W hb => (K W hb).2.2.2.2.2.2.2.2.2.2.2.2.2.1
  have hk14 := fun W hb => (K W hb).2.2.2.2.2.2.2.2.2.2.2.2.2.2.1
  have hk15 := fun W hb => (K W hb).2.2.2.2.2.2.2.2.2.2.2.2.2.2.2.1
  have hk16 := fun W hb => (K W hb).2.2.2.2.2.2.2.2.2.2.2.2.2.2.2.2.1
  have hk17 := fun W hb => (K W hb).2.2.2.2.2.2.2.2.2.2.2.2.2.2.2.2.2.1
  clear K hbox
  rw [← HD.out] at hld0
  have hlen0 : (headB m).length ≤ 3 := by simp [headB]
  generalize headB m = l0 at *
  have HW : Hid (((w.alloc (.cells #[.int .i64 m.kind, .int .i64 m.frm, .int .i64 m.to, .int .u64 (m.call : Int), .int .u64 (m.floor : Int), .int .i64 m.op, .int .i64 m.fld, .int .i64 m.item,
    .int .i64 m.tn, .int .u64 (m.ts : Int), .slice ro m.refs.length rc, .int .u64 (m.val : Int), .int .i64 m.code, .int .u64 (m.seq : Int), .int .i64 m.vou, .int .u64 (m.at_ : Int), .int .i64 m.dist, .int .u64 (m.stamp : Int), .slice lo m.list.length lc] 28)).alloc (.cells #[.int .u8 (m.kind % 256), .int .u8 (m.frm % 256), .int .u8 (m.to % 256)] 5)).alloc (.cells #[.int .i64 m.kind, .slice (some ⟨w.heap.size + 1, 0, none⟩) 3 3] 92) = w0) := hw0.symm
  have HK : Hid (m.kind = 3) := hkd
  clear hw0 HD hkd
  have r0 := Below.refl (w.heap.size + 1) w0
  go_enter Try.func40, Try.ntmps40
  go_wp2_with fail
  rw [HW.out]
  rw [HK.out] at hld0
  simp only [HK.out] at hk0
  refine (lnum_yes w0 (w.heap.size + 2) 3 (.slice (some ⟨w.heap.size + 1, 0, none⟩) 3 3) l0 (w.heap.size + 1) 1 m.call [99, 97, 108, 108] (by unfold Fld; omega) rfl (by have := hm.call; unfold U64 at this; exact this) (by decide +kernel) hld0 (by omega)).mono ?_
  rintro e x1 ⟨rfl, v1, h1, y1⟩
  have hlen1 : (l0 ++ numB m.call).length ≤ 13 := by rw [List.length_append]; have := hlen0; have := numB_len m.call; omega
  have B1 := r0.trans y1
  have q0 := hk0 x1 B1
  have q4 := hk4 x1 B1
  go_wp2_with fail
  clear q0 q4
  refine (lnum_no x1 (w.heap.size + 2) 3 v1 (l0 ++ numB m.call) (w.heap.size + 1) 2 m.floor [102, 108, 111, 111, 114] (by unfold Fld; omega) rfl (by decide +kernel) h1).mono ?_
  rintro e x2 ⟨rfl, h2, y2⟩
  have B2 := B1.trans y2
  have q0 := hk0 x2 B2
  have q7 := hk7 x2 B2
  go_wp2_with fail
  clear q0 q7
  rw [wrap_u64 m.item]
  refine (lnum_no x2 (w.heap.size + 2) 3 v1 (l0 ++ numB m.call) (w.heap.size + 1) 4 (u64 m.item) [105, 116, 101, 109] (by unfold Fld; omega) rfl (by decide +kernel) h2).mono ?_
  rintro e x3 ⟨rfl, h3, y3⟩
  have B3 := B2.trans y3
  have q0 := hk0 x3 B3
  have q5 := hk5 x3 B3
  go_wp2_with fail
  clear q0 q5
  refine (lone_no x3 (w.heap.size + 2) 3 v1 (l0 ++ numB m.call) (w.heap.size + 1) 8 m.op [111, 112] (by unfold Fld; omega) rfl (by decide +kernel) h3).mono ?_
  rintro e x4 ⟨rfl, h4, y4⟩
  have B4 := B3.trans y4
  have q0 := hk0 x4 B4
  have q6 := hk6 x4 B4
  go_wp2_with fail
  clear q0 q6
  refine (lone_no x4 (w.heap.size + 2) 3 v1 (l0 ++ numB m.call) (w.heap.size + 1) 16 m.fld [102, 105, 101, 108, 100] (by unfold Fld; omega) rfl (by decide +kernel) h4).mono ?_
  rintro e x5 ⟨rfl, h5, y5⟩
  have B5 := B4.trans y5
  have q0 := hk0 x5 B5
  have q8 := hk8 x5 B5
  have q9 := hk9 x5 B5
  go_wp2_with fail
  clear q0 q8 q9
  refine (rhas_any 3 32 (by unfold Fld; omega) [116, 97, 114, 103, 101, 116] rfl x5).mono ?_
  rintro e x6 ⟨rfl, y6⟩
  rw [show hasB 3 32 = false from by decide +kernel]
  have h6 := h5.below y6
  have B6 := B5.trans (y6.mono (by have := B5.size; omega))
  have q0 := hk0 x6 B6
  have q11 := hk11 x6 B6
  go_wp2_with fail
  clear q0 q11
  refine (lnum_no x6 (w.heap.size + 2) 3 v1 (l0 ++ numB m.call) (w.heap.size + 1) 2048 m.val [118, 97, 108, 117, 101] (by unfold Fld; omega) rfl (by decide +kernel) h6).mono ?_
  rintro e x7 ⟨rfl, h7, y7⟩
  have B7 := B6.trans y7
  have q0 := hk0 x7 B7
  go_wp2_with fail
  clear q0
  refine (rhas_any 3 4096 (by unfold Fld; omega) [114, 101, 102, 115] rfl x7).mono ?_
  rintro e x8 ⟨rfl, y8⟩
  rw [show hasB 3 4096 = false from by decide +kernel]
  have h8 := h7.below y8
  have B8 := B7.trans (y8.mono (by have := B7.size; omega))
  have q0 := hk0 x8 B8
  have q13 := hk13 x8 B8
  go_wp2_with fail
  clear q0 q13
  refine (lnum_no x8 (w.heap.size + 2) 3 v1 (l0 ++ numB m.call) (w.heap.size + 1) 64 m.seq [115, 101, 113] (by unfold Fld; omega) rfl (by decide +kernel) h8).mono ?_
  rintro e x9 ⟨rfl, h9, y9⟩
  have B9 := B8.trans y9
  have q0 := hk0 x9 B9
  have q14 := hk14 x9 B9
  go_wp2_with fail
  clear q0 q14
  refine (lone_no x9 (w.heap.size + 2) 3 v1 (l0 ++ numB m.call) (w.heap.size + 1) 128 m.vou [118, 111, 117, 99, 104, 101, 114] (by unfold Fld; omega) rfl (by decide +kernel) h9).mono ?_
  rintro e x10 ⟨rfl, h10, y10⟩
  have B10 := B9.trans y10
  have q0 := hk0 x10 B10
  have q15 := hk15 x10 B10
  go_wp2_with fail
  clear q0 q15
  refine (lnum_no x10 (w.heap.size + 2) 3 v1 (l0 ++ numB m.call) (w.heap.size + 1) 256 m.at_ [97, 116] (by unfold Fld; omega) rfl (by decide +kernel) h10).mono ?_
  rintro e x11 ⟨rfl, h11, y11⟩
  have B11 := B10.trans y11
  have q0 := hk0 x11 B11
  have q16 := hk16 x11 B11
  go_wp2_with fail
  clear q0 q16
  refine (lone_no x11 (w.heap.size + 2) 3 v1 (l0 ++ numB m.call) (w.heap.size + 1) 512 m.dist [100, 105, 115, 116] (by unfold Fld; omega) rfl (by decide +kernel) h11).mono ?_
  rintro e x12 ⟨rfl, h12, y12⟩
  have B12 := B11.trans y12
  have q0 := hk0 x12 B12
  have q17 := hk17 x12 B12
  go_wp2_with fail
  clear q0 q17
  refine (lnum_no x12 (w.heap.size + 2) 3 v1 (l0 ++ numB m.call) (w.heap.size + 1) 8192 m.stamp [115, 116, 97, 109, 112] (by unfold Fld; omega) rfl (by decide +kernel) h12).mono ?_
  rintro e x13 ⟨rfl, h13, y13⟩
  have B13 := B12.trans y13
  have q0 := hk0 x13 B13
  go_wp2_with fail
  clear q0
  refine (rhas_any 3 16384 (by unfold Fld; omega) [108, 105, 115, 116] rfl x13).mono ?_
  rintro e x14 ⟨rfl, y14⟩
  rw [show hasB 3 16384 = false from by decide +kernel]
  have h14 := h13.below y14
  have B14 := B13.trans (y14.mono (by have := B13.size; omega))
  obtain ⟨ao, nn, cc, hv⟩ := ld_form h14
  subst hv
  have d1 := h14.c1
  go_wp2
  go_ret
  refine ⟨_, rfl, ?_, hb0.trans (B14.mono (by omega))⟩
  rw [HP.out]
  exact Bs.ofOwns h14.own

end Go.Proofs.Ytcpegfjjdojinaa

namespace Go.Proofs.Ytcpegfjjdojinaa
open Go.RowKit

set_option maxRecDepth 40000 in
set_option maxHeartbeats 16000000 in
theorem rbody_4 (m : Msg) (ro lo : Option Addr) (rc lc : Nat) (w : World) (hm : m.Ok) (hkd : m.kind = 4) :
    Calls Try.prog 40 #[m.v ro lo rc lc] w fun e w' => ∃ v', e = .returned v' ∧ Bs w' v' (partsB m) ∧ Below w.heap.size w w' := by
  have HP : Hid (partsB m = headB m ++ layIDB (m.tn, m.ts) ++ numB m.seq ++ [u8 m.vou] ++ numB m.at_ ++ [u8 m.dist]) := parts_4 hkd
  have HD : Hid (headB m = [u8 m.kind, u8 m.frm, u8 m.to]) := rfl
  generalize partsB m = G at *
  have hbox := MBox.new w m ro lo rc lc
  obtain ⟨w0, hw0⟩ : ∃ w0, w0 = ((w.alloc (.cells #[.int .i64 m.kind, .int .i64 m.frm, .int .i64 m.to, .int .u64 (m.call : Int), .int .u64 (m.floor : Int), .int .i64 m.op, .int .i64 m.fld, .int .i64 m.item,
    .int .i64 m.tn, .int .u64 (m.ts : Int), .slice ro m.refs.length rc, .int .u64 (m.val : Int), .int .i64 m.code, .int .u64 (m.seq : Int), .int .i64 m.vou, .int .u64 (m.at_ : Int), .int .i64 m.dist, .int .u64 (m.stamp : Int), .slice lo m.list.length lc] 28)).alloc (.cells #[.int .u8 (m.kind % 256), .int .u8 (m.frm % 256), .int .u8 (m.to % 256)] 5)).alloc (.cells #[.int .i64 m.kind, .slice (some ⟨w.heap.size + 1, 0, none⟩) 3 3] 92) := ⟨_, rfl⟩
  obtain ⟨hb0, hld0, hbx0⟩ := body_start w m (.cells #[.int .i64 m.kind, .int .i64 m.frm, .int .i64 m.to, .int .u64 (m.call : Int), .int .u64 (m.floor : Int), .int .i64 m.op, .int .i64 m.fld, .int .i64 m.item,
    .int .i64 m.tn, .int .u64 (m.ts : Int), .slice ro m.refs.length rc, .int .u64 (m.val : Int), .int .i64 m.code, .int .u64 (m.seq : Int), .int .i64 m.vou, .int .u64 (m.at_ : Int), .int .i64 m.dist, .int .u64 (m.stamp : Int), .slice lo m.list.length lc] 28) w0 hw0
  have hs0 : w0.heap.size = w.heap.size + 3 := by rw [hw0]; simp
  have K := fun W hb => (MBox.later (B := w.heap.size + 1) hbx0 (by omega) W hb).cells
  have hk0 := fun W hb => (K W hb).1
  have hk3 := fun W hb => (K W hb).2.2.2.1
  have hk4 := fun W hb => (K W hb).2.2.2.2.1
  have hk5 := fun W hb => (K W hb).2.2.2.2.2.1
  have hk6 := fun W hb => (K W hb).2.2.2.2.2.2.1
  have hk7 := fun W hb => (K W hb).2.2.2.2.2.2.2.1
  have hk8 := fun W hb => (K W hb).2.2.2.2.2.2.2.2.1
  have hk9 := fun W hb => (K W hb).2.2.2.2.2.2.2.2.2.1
  have hk11 := fun W hb => (K W hb).2.2.2.2.2.2.2.2.2.2.2.1
  have hk12 := fun W hb => (K W hb).2.2.2.2.2.2.2.2.2.2.2.2.1
  have hk13 := fun W hb => (K W hb).2.2.2.2.2.2.2.2.2.2.2.2.2.1
  have hk14 := fun W hb => (K W hb).2.2.2.2.2.2.2.2.2.2.2.2.2.2.1
  have hk15 := fun W hb => (K W hb).2.2.2.2.2.2.2.2.2.2.2.2.2.2.2.1
  have hk16 := fun W hb => (K W hb).2.2.2.2.2.2.2.2.2.2.2.2.2.2.2.2.1
  have hk17 := fun W hb => (K W hb).2.2.2.2.2.2.2.2.2.2.2.2.2.2.2.2.2.1
  clear K hbox
  rw [← HD.out] at hld0
  have hlen0 : (headB m).length ≤ 3 := by simp [headB]
  generalize headB m = l0 at *
  have HW : Hid (((w.alloc (.cells #[.int .i64 m.kind, .int .i64 m.frm, .int .i64 m.to, .int .u64 (m.call : Int), .int .u64 (m.floor : Int), .int .i64 m.op, .int .i64 m.fld, .int .i64 m.item,
    .int .i64 m.tn, .int .u64 (m.ts : Int), .slice ro m.refs.length rc, .int .u64 (m.val : Int), .int .i64 m.code, .int .u64 (m.seq : Int), .int .i64 m.vou, .int .u64 (m.at_ : Int), .int .i64 m.dist, .int .u64 (m.stamp : Int), .slice lo m.list.length lc] 28)).alloc (.cells #[.int .u8 (m.kind % 256), .int .u8 (m.frm % 256), .int .u8 (m.to % 256)] 5)).alloc (.cells #[.int .i64 m.kind, .slice (some ⟨w.heap.size + 1, 0, none⟩) 3 3] 92) = w0) := hw0.symm
  have HK : Hid (m.kind = 4) := hkd
  clear hw0 HD hkd
  have r0 := Below.refl (w.heap.size + 1) w0
  go_enter Try.func40, Try.ntmps40
  go_wp2_with fail
  rw [HW.out]
  rw [HK.out] at hld0
  simp only [HK.out] at hk0
  refine (lnum_no w0 (w.heap.size + 2) 4 (.slice (some ⟨w.heap.size + 1, 0, none⟩) 3 3) l0 (w.heap.size + 1) 1 m.call [99, 97, 108, 108] (by unfold Fld; omega) rfl (by decide +kernel) hld0).mono ?_
  rintro e x1 ⟨rfl, h1, y1⟩
  have B1 := r0.trans y1
  have q0 := hk0 x1 B1
  have q4 := hk4 x1 B1
  go_wp2_with fail
  clear q0 q4
  refine (lnum_no x1 (w.heap.size + 2) 4 (.slice (some ⟨w.heap.size + 1, 0, none⟩) 3 3) l0 (w.heap.size + 1) 2 m.floor [102, 108, 111, 111, 114] (by unfold Fld; omega) rfl (by decide +kernel) h1).mono ?_
  rintro e x2 ⟨rfl, h2, y2⟩
  have B2 := B1.trans y2
  have q0 := hk0 x2 B2
  have q7 := hk7 x2 B2
  go_wp2_with fail
  clear q0 q7
  rw [wrap_u64 m.item]
  refine (lnum_no x2 (w.heap.size + 2) 4 (.slice (some ⟨w.heap.size + 1, 0, none⟩) 3 3) l0 (w.heap.size + 1) 4 (u64 m.item) [105, 116, 101, 109] (by unfold Fld; omega) rfl (by decide +kernel) h2).mono ?_
  rintro e x3 ⟨rfl, h3, y3⟩
  have B3 := B2.trans y3
  have q0 := hk0 x3 B3
  have q5 := hk5 x3 B3
  go_wp2_with fail
  clear q0 q5
  refine (lone_no x3 (w.heap.size + 2) 4 (.slice (some ⟨w.heap.size + 1, 0, none⟩) 3 3) l0 (w.heap.size + 1) 8 m.op [111, 112] (by unfold Fld; omega) rfl (by decide +kernel) h3).mono ?_
  rintro e x4 ⟨rfl, h4, y4⟩
  have B4 := B3.trans y4
  have q0 := hk0 x4 B4
  have q6 := hk6 x4 B4
  go_wp2_with fail
  clear q0 q6
  refine (lone_no x4 (w.heap.size + 2) 4 (.slice (some ⟨w.heap.size + 1, 0, none⟩) 3 3) l0 (w.heap.size + 1) 16 m.fld [102, 105, 101, 108, 100] (by unfold Fld; omega) rfl (by decide +kernel) h4).mono ?_
  rintro e x5 ⟨rfl, h5, y5⟩
  have B5 := B4.trans y5
  have q0 := hk0 x5 B5
  have q8 := hk8 x5 B5
  have q9 := hk9 x5 B5
  go_wp2_with fail
  clear q0 q8 q9
  refine (rhas_any 4 32 (by unfold Fld; omega) [116, 97, 114, 103, 101, 116] rfl x5).mono ?_
  rintro e x6 ⟨rfl, y6⟩
  rw [show hasB 4 32 = true from by decide +kernel]
  have h6 := h5.below y6
  have B6 := B5.trans (y6.mono (by have := B5.size; omega))
  have q8 := hk8 x6 B6
  have q9 := hk9 x6 B6
  go_wp2_with fail
  clear q8 q9
  refine (lid_any x6 (w.heap.size + 2) 4 (.slice (some ⟨w.heap.size + 1, 0, none⟩) 3 3) l0 (w.heap.size + 1) (m.tn, m.ts) hm.ts h6 (by omega)).mono ?_
  rintro e x7 ⟨rfl, v7, h7, y7⟩
  have hlen7 : (l0 ++ layIDB (m.tn, m.ts)).length ≤ 23 := by rw [List.length_append]; have := hlen0; have := layIDB_len (m.tn, m.ts); omega
  have B7 := B6.trans y7
  have q0 := hk0 x7 B7
  have q11 := hk11 x7 B7
  go_wp2_with fail
  clear q0 q11
  refine (lnum_no x7 (w.heap.size + 2) 4 v7 (l0 ++ layIDB (m.tn, m.ts)) (w.heap.size + 1) 2048 m.val [118, 97, 108, 117, 101] (by unfold Fld; omega) rfl (by decide +kernel) h7).mono ?_
  rintro e x8 ⟨rfl, h8, y8⟩
  have B8 := B7.trans y8
  have q0 := hk0 x8 B8
  go_wp2_with fail
  clear q0
  refine (rhas_any 4 4096 (by unfold Fld; omega) [114, 101, 102, 115] rfl x8).mono ?_
  rintro e x9 ⟨rfl, y9⟩
  rw [show hasB 4 4096 = false from by decide +kernel]
  have h9 := h8.below y9
  have B9 := B8.trans (y9.mono (by have := B8.size; omega))
  have q0 := hk0 x9 B9
  have q13 := hk13 x9 B9
  go_wp2_with fail
  clear q0 q13
  refine (lnum_yes x9 (w.heap.size + 2) 4 v7 (l0 ++ layIDB (m.tn, m.ts)) (w.heap.size + 1) 64 m.seq [115, 101, 113] (by unfold Fld; omega) rfl (by have := hm.seq; unfold U64 at this; exact this) (by decide +kernel) h9 (by omega)).mono ?_
  rintro e x10 ⟨rfl, v10, h10, y10⟩
  have hlen10 : ((l0 ++ layIDB (m.tn, m.ts)) ++ numB m.seq).length ≤ 33 := by rw [List.length_append]; have := hlen7; have := numB_len m.seq; omega
  have B10 := B9.trans y10
  have q0 := hk0 x10 B10
  have q14 := hk14 x10 B10
  go_wp2_with fail
  clear q0 q14
  refine (lone_yes x10 (w.heap.size + 2) 4 v10 ((l0 ++ layIDB (m.tn, m.ts)) ++ numB m.seq) (w.heap.size + 1) 128 m.vou [118, 111, 117, 99, 104, 101, 114] (by unfold Fld; omega) rfl (by decide +kernel) h10 (by omega)).mono ?_
  rintro e x11 ⟨rfl, v11, h11, y11⟩
  have hlen11 : (((l0 ++ layIDB (m.tn, m.ts)) ++ numB m.seq) ++ [u8 m.vou]).length ≤ 43 := by rw [List.length_append]; have := hlen10; have : ([u8 m.vou] : List UInt8).length = 1 := rfl; omega
  have B11 := B10.trans y11
  have q0 := hk0 x11 B11
  have q15 := hk15 x11 B11
  go_wp2_with fail
  clear q0 q15
  refine (lnum_yes x11 (w.heap.size + 2) 4 v11 (((l0 ++ layIDB (m.tn, m.ts)) ++ numB m.seq) ++ [u8 m.vou]) (w.heap.size + 1) 256 m.at_ [97, 116] (by unfold Fld; omega) rfl (by have := hm.at_; unfold U64 at this; exact this) (by decide +kernel) h11 (by omega)).mono ?_
  rintro e x12 ⟨rfl, v12, h12, y12⟩
  have hlen12 : ((((l0 ++ layIDB (m.tn, m.ts)) ++ numB m.seq) ++ [u8 m.vou]) ++ numB m.at_).length ≤ 53 := by rw [List.length_append]; have := hlen11; have := numB_len m.at_; omega
  have B12 := B11.trans y12
  have q0 := hk0 x12 B12
  have q16 := hk16 x12 B12
  go_wp2_with fail
  clear q0 q16
  refine (lone_yes x12 (w.heap.size + 2) 4 v12 ((((l0 ++ layIDB (m.tn, m.ts)) ++ numB m.seq) ++ [u8 m.vou]) ++ numB m.at_) (w.heap.size + 1) 512 m.dist [100, 105, 115, 116] (by unfold Fld; omega) rfl (by decide +kernel) h12 (by omega)).mono ?_
  rintro e x13 ⟨rfl, v13, h13, y13⟩
  have hlen13 : (((((l0 ++ layIDB (m.tn, m.ts)) ++ numB m.seq) ++ [u8 m.vou]) ++ numB m.at_) ++ [u8 m.dist]).length ≤ 63 := by rw [List.length_append]; have := hlen12; have : ([u8 m.dist] : List UInt8).length = 1 := rfl; omega
  have B13 := B12.trans y13
  have q0 := hk0 x13 B13
  have q17 := hk17 x13 B13
  go_wp2_with fail
  clear q0 q17
  refine (lnum_no x13 (w.heap.size + 2) 4 v13 (((((l0 ++ layIDB (m.tn, m.ts)) ++ numB m.seq) ++ [u8 m.vou]) ++ numB m.at_) ++ [u8 m.dist]) (w.heap.size + 1) 8192 m.stamp [115, 116, 97, 109, 112] (by unfold Fld; omega) rfl (by decide +kernel) h13).mono ?_
  rintro e x14 ⟨rfl, h14, y14⟩
  have B14 := B13.trans y14
  have q0 := hk0 x14 B14
  go_wp2_with fail
  clear q0
  refine (rhas_any 4 16384 (by unfold Fld; omega) [108, 105, 115, 116] rfl x14).mono ?_
  rintro e x15 ⟨rfl, y15⟩
  rw [show hasB 4 16384 = false from by decide +kernel]
  have h15 := h14.below y15
  have B15 := B14.trans (y15.mono (by have := B14.size; omega))
  obtain ⟨ao, nn, cc, hv⟩ := ld_form h15
  subst hv
  have d1 := h15.c1
  go_wp2
  go_ret
  refine ⟨_, rfl, ?_, hb0.trans (B15.mono (by omega))⟩
  rw [HP.out]
  exact Bs.ofOwns h15.own

end Go.Proofs.Ytcpegfjjdojinaa

namespace Go.Proofs.Ytcpegfjjdojinaa
open Go.RowKit

set_option maxRecDepth 40000 in
set_option maxHeartbeats 16000000 in
theorem rbody_5 (m : Msg) (ro lo : Option Addr) (rc lc : Nat) (w : World) (hm : m.Ok) (hkd : m.kind = 5) :
    Calls Try.prog 40 #[m.v ro lo rc lc] w fun e w' => ∃ v', e = .returned v' ∧ Bs w' v' (partsB m) ∧ Below w.heap.size w w' := by
  have HP : Hid (partsB m = headB m ++ layIDB (m.tn, m.ts) ++ numB m.seq ++ numB m.at_ ++ [u8 m.code]) := parts_5 hkd
  have HD : Hid (headB m = [u8 m.kind, u8 m.frm, u8 m.to]) := rfl
  generalize partsB m = G at *
  have hbox := MBox.new w m ro lo rc lc
  obtain ⟨w0, hw0⟩ : ∃ w0, w0 = ((w.alloc (.cells #[.int .i64 m.kind, .int .i64 m.frm, .int .i64 m.to, .int .u64 (m.call : Int), .int .u64 (m.floor : Int), .int .i64 m.op, .int .i64 m.fld, .int .i64 m.item,
    .int .i64 m.tn, .int .u64 (m.ts : Int), .slice ro m.refs.length rc, .int .u64 (m.val : Int), .int .i64 m.code, .int .u64 (m.seq : Int), .int .i64 m.vou, .int .u64 (m.at_ : Int), .int .i64 m.dist, .int .u64 (m.stamp : Int), .slice lo m.list.length lc] 28)).alloc (.cells #[.int .u8 (m.kind % 256), .int .u8 (m.frm % 256), .int .u8 (m.to % 256)] 5)).alloc (.cells #[.int .i64 m.kind, .slice (some ⟨w.heap.size + 1, 0, none⟩) 3 3] 92) := ⟨_, rfl⟩
  obtain ⟨hb0, hld0, hbx0⟩ := body_start w m (.cells #[.int .i64 m.kind, .int .i64 m.frm, .int .i64 m.to, .int .u64 (m.call : Int), .int .u64 (m.floor : Int), .int .i64 m.op, .int .i64 m.fld, .int .i64 m.item,
    .int .i64 m.tn, .int .u64 (m.ts : Int), .slice ro m.refs.length rc, .int .u64 (m.val : Int), .int .i64 m.code, .int .u64 (m.seq : Int), .int .i64 m.vou, .int .u64 (m.at_ : Int), .int .i64 m.dist, .int .u64 (m.stamp : Int), .slice lo m.list.length lc] 28) w0 hw0
  have hs0 : w0.heap.size = w.heap.size + 3 := by rw [hw0]; simp
  have K := fun W hb => (MBox.later (B := w.heap.size + 1) hbx0 (by omega) W hb).cells
  have hk0 := fun W hb => (K W hb).1
  have hk3 := fun W hb => (K W hb).2.2.2.1
  have hk4 := fun W hb => (K W hb).2.2.2.2.1
  have hk5 := fun W hb => (K W hb).2.2.2.2.2.1
  have hk6 := fun W hb => (K W hb).2.2.2.2.2.2.1
  have hk7 := fun W hb => (K W hb).2.2.2.2.2.2.2.1
  have hk8 := fun W hb => (K W hb).2.2.2.2.2.2.2.2.1
  have hk9 := fun W hb => (K W hb).2.2.2.2.2.2.2.2.2.1
  have hk11 := fun W hb => (K W hb).2.2.2.2.2.2.2.2.2.2.2.1
  have hk12 := fun W hb => (K W hb).2.2.2.2.2.2.2.2.2.2.2.2.1
  have hk13 := fun W hb => (K W hb).2.2.2.2.2.2.2.2.2.2.2.2.2.1
  have hk14 := fun W hb => (K W hb).2.2.2.2.2.2.2.2.2.2.2.2.2.2.1
  have hk15 := fun W hb => (K W hb).2.2.2.2.2.2.2.2.2.2.2.2.2.2.2.1
  have hk16 := fun W hb => (K W hb).2.2.2.2.2.2.2.2.2.2.2.2.2.2.2.2.1
  have hk17 := fun W hb => (K W hb).2.2.2.2.2.2.2.2.2.2.2.2.2.2.2.2.2.1
  clear K hbox
  rw [← HD.out] at hld0
  have hlen0 : (headB m).length ≤ 3 := by simp [headB]
  generalize headB m = l0 at *
  have HW : Hid (((w.alloc (.cells #[.int .i64 m.kind, .int .i64 m.frm, .int .i64 m.to, .int .u64 (m.call : Int), .int .u64 (m.floor : Int), .int .i64 m.op, .int .i64 m.fld, .int .i64 m.item,
    .int .i64 m.tn, .int .u64 (m.ts : Int), .slice ro m.refs.length rc, .int .u64 (m.val : Int), .int .i64 m.code, .int .u64 (m.seq : Int), .int .i64 m.vou, .int .u64 (m.at_ : Int), .int .i64 m.dist, .int .u64 (m.stamp : Int), .slice lo m.list.length lc] 28)).alloc (.cells #[.int .u8 (m.kind % 256), .int .u8 (m.frm % 256), .int .u8 (m.to % 256)] 5)).alloc (.cells #[.int .i64 m.kind, .slice (some ⟨w.heap.size + 1, 0, none⟩) 3 3] 92) = w0) := hw0.symm
  have HK : Hid (m.kind = 5) := hkd
  clear hw0 HD hkd
  have r0 := Below.refl (w.heap.size + 1) w0
  go_enter Try.func40, Try.ntmps40
  go_wp2_with fail
  rw [HW.out]
  rw [HK.out] at hld0
  simp only [HK.out] at hk0
  refine (lnum_no w0 (w.heap.size + 2) 5 (.slice (some ⟨w.heap.size + 1, 0, none⟩) 3 3) l0 (w.heap.size + 1) 1 m.call [99, 97, 108, 108] (by unfold Fld; omega) rfl (by decide +kernel) hld0).mono ?_
  rintro e x1 ⟨rfl, h1, y1⟩
  have B1 := r0.trans y1
  have q0 := hk0 x1 B1
  have q4 := hk4 x1 B1
  go_wp2_with fail
  clear q0 q4
  refine (lnum_no x1 (w.heap.size + 2) 5 (.slice (some ⟨w.heap.size + 1, 0, none⟩) 3 3) l0 (w.heap.size + 1) 2 m.floor [102, 108, 111, 111, 114] (by unfold Fld; omega) rfl (by decide +kernel) h1).mono ?_
  rintro e x2 ⟨rfl, h2, y2⟩
  have B2 := B1.trans y2
  have q0 := hk0 x2 B2
  have q7 := hk7 x2 B2
  go_wp2_with fail
  clear q0 q7
  rw [wrap_u64 m.item]
  refine (lnum_no x2 (w.heap.size + 2) 5 (.slice (some ⟨w.heap.size + 1, 0, none⟩) 3 3) l0 (w.heap.size + 1) 4 (u64 m.item) [105, 116, 101, 109] (by unfold Fld; omega) rfl (by decide +kernel) h2).mono ?_
  rintro e x3 ⟨rfl, h3, y3⟩
  have B3 := B2.trans y3
  have q0 := hk0 x3 B3
  have q5 := hk5 x3 B3
  go_wp2_with fail
  clear q0 q5
  refine (lone_no x3 (w.heap.size + 2) 5 (.slice (some ⟨w.heap.size + 1, 0, none⟩) 3 3) l0 (w.heap.size + 1) 8 m.op [111, 112] (by unfold Fld; omega) rfl (by decide +kernel) h3).mono ?_
  rintro e x4 ⟨rfl, h4, y4⟩
  have B4 := B3.trans y4
  have q0 := hk0 x4 B4
  have q6 := hk6 x4 B4
  go_wp2_with fail
  clear q0 q6
  refine (lone_no x4 (w.heap.size + 2) 5 (.slice (some ⟨w.heap.size + 1, 0, none⟩) 3 3) l0 (w.heap.size + 1) 16 m.fld [102, 105, 101, 108, 100] (by unfold Fld; omega) rfl (by decide +kernel) h4).mono ?_
  rintro e x5 ⟨rfl, h5, y5⟩
  have B5 := B4.trans y5
  have q0 := hk0 x5 B5
  have q8 := hk8 x5 B5
  have q9 := hk9 x5 B5
  go_wp2_with fail
  clear q0 q8 q9
  refine (rhas_any 5 32 (by unfold Fld; omega) [116, 97, 114, 103, 101, 116] rfl x5).mono ?_
  rintro e x6 ⟨rfl, y6⟩
  rw [show hasB 5 32 = true from by decide +kernel]
  have h6 := h5.below y6
  have B6 := B5.trans (y6.mono (by have := B5.size; omega))
  have q8 := hk8 x6 B6
  have q9 := hk9 x6 B6
  go_wp2_with fail
  clear q8 q9
  refine (lid_any x6 (w.heap.size + 2) 5 (.slice (some ⟨w.heap.size + 1, 0, none⟩) 3 3) l0 (w.heap.size + 1) (m.tn, m.ts) hm.ts h6 (by omega)).mono ?_
  rintro e x7 ⟨rfl, v7, h7, y7⟩
  have hlen7 : (l0 ++ layIDB (m.tn, m.ts)).length ≤ 23 := by rw [List.length_append]; have := hlen0; have := layIDB_len (m.tn, m.ts); omega
  have B7 := B6.trans y7
  have q0 := hk0 x7 B7
  have q11 := hk11 x7 B7
  go_wp2_with fail
  clear q0 q11
  refine (lnum_no x7 (w.heap.size + 2) 5 v7 (l0 ++ layIDB (m.tn, m.ts)) (w.heap.size + 1) 2048 m.val [118, 97, 108, 117, 101] (by unfold Fld; omega) rfl (by decide +kernel) h7).mono ?_
  rintro e x8 ⟨rfl, h8, y8⟩
  have B8 := B7.trans y8
  have q0 := hk0 x8 B8
  go_wp2_with fail
  clear q0
  refine (rhas_any 5 4096 (by unfold Fld; omega) [114, 101, 102, 115] rfl x8).mono ?_
  rintro e x9 ⟨rfl, y9⟩
  rw [show hasB 5 4096 = false from by decide +kernel]
  have h9 := h8.below y9
  have B9 := B8.trans (y9.mono (by have := B8.size; omega))
  have q0 := hk0 x9 B9
  have q13 := hk13 x9 B9
  go_wp2_with fail
  clear q0 q13
  refine (lnum_yes x9 (w.heap.size + 2) 5 v7 (l0 ++ layIDB (m.tn, m.ts)) (w.heap.size + 1) 64 m.seq [115, 101, 113] (by unfold Fld; omega) rfl (by have := hm.seq; unfold U64 at this; exact this) (by decide +kernel) h9 (by omega)).mono ?_
  rintro e x10 ⟨rfl, v10, h10, y10⟩
  have hlen10 : ((l0 ++ layIDB (m.tn, m.ts)) ++ numB m.seq).length ≤ 33 := by rw [List.length_append]; have := hlen7; have := numB_len m.seq; omega
  have B10 := B9.trans y10
  have q0 := hk0 x10 B10
  have q14 := hk14 x10 B10
  go_wp2_with fail
  clear q0 q14
  refine (lone_no x10 (w.heap.size + 2) 5 v10 ((l0 ++ layIDB (m.tn, m.ts)) ++ numB m.seq) (w.heap.size + 1) 128 m.vou [118, 111, 117, 99, 104, 101, 114] (by unfold Fld; omega) rfl (by decide +kernel) h10).mono ?_
  rintro e x11 ⟨rfl, h11, y11⟩
  have B11 := B10.trans y11
  have q0 := hk0 x11 B11
  have q15 := hk15 x11 B11
  go_wp2_with fail
  clear q0 q15
  refine (lnum_yes x11 (w.heap.size + 2) 5 v10 ((l0 ++ layIDB (m.tn, m.ts)) ++ numB m.seq) (w.heap.size + 1) 256 m.at_ [97, 116] (by unfold Fld; omega) rfl (by have := hm.at_; unfold U64 at this; exact this) (by decide +kernel) h11 (by omega)).mono ?_
  rintro e x12 ⟨rfl, v12, h12, y12⟩
  have hlen12 : (((l0 ++ layIDB (m.tn, m.ts)) ++ numB m.seq) ++ numB m.at_).length ≤ 43 := by rw [List.length_append]; have := hlen10; have := numB_len m.at_; omega
  have B12 := B11.trans y12
  have q0 := hk0 x12 B12
  have q16 := hk16 x12 B12
  go_wp2_with fail
  clear q0 q16
  refine (lone_no x12 (w.heap.size + 2) 5 v12 (((l0 ++ layIDB (m.tn, m.ts)) ++ numB m.seq) ++ numB m.at_) (w.heap.size + 1) 512 m.dist [100, 105, 115, 116] (by unfold Fld; omega) rfl (by decide +kernel) h12).mono ?_
  rintro e x13 ⟨rfl, h13, y13⟩
  have B13 := B12.trans y13
  have q0 := hk0 x13 B13
  have q12 := hk12 x13 B13
  go_wp2_with fail
  clear q0 q12
  refine (lone_yes x13 (w.heap.size + 2) 5 v12 (((l0 ++ layIDB (m.tn, m.ts)) ++ numB m.seq) ++ numB m.at_) (w.heap.size + 1) 1024 m.code [99, 111, 100, 101] (by unfold Fld; omega) rfl (by decide +kernel) h13 (by omega)).mono ?_
  rintro e x14 ⟨rfl, v14, h14, y14⟩
  have hlen14 : ((((l0 ++ layIDB (m.tn, m.ts)) ++ numB m.seq) ++ numB m.at_) ++ [u8 m.code]).length ≤ 53 := by rw [List.length_append]; have := hlen12; have : ([u8 m.code] : List UInt8).length = 1 := rfl; omega
  have B14 := B13.trans y14
  have q0 := hk0 x14 B14
  have q17 := hk17 x14 B14
  go_wp2_with fail
  clear q0 q17
  refine (lnum_no x14 (w.heap.size + 2) 5 v14 ((((l0 ++ layIDB (m.tn, m.ts)) ++ numB m.seq) ++ numB m.at_) ++ [u8 m.code]) (w.heap.size + 1) 8192 m.stamp [115, 116, 97, 109, 112] (by unfold Fld; omega) rfl (by decide +kernel) h14).mono ?_
  rintro e x15 ⟨rfl, h15, y15⟩
  have B15 := B14.trans y15
  have q0 := hk0 x15 B15
  go_wp2_with fail
  clear q0
  refine (rhas_any 5 16384 (by unfold Fld; omega) [108, 105, 115, 116] rfl x15).mono ?_
  rintro e x16 ⟨rfl, y16⟩
  rw [show hasB 5 16384 = false from by decide +kernel]
  have h16 := h15.below y16
  have B16 := B15.trans (y16.mono (by have := B15.size; omega))
  obtain ⟨ao, nn, cc, hv⟩ := ld_form h16
  subst hv
  have d1 := h16.c1
  go_wp2
  go_ret
  refine ⟨_, rfl, ?_, hb0.trans (B16.mono (by omega))⟩
  rw [HP.out]
  exact Bs.ofOwns h16.own

end Go.Proofs.Ytcpegfjjdojinaa

namespace Go.Proofs.Ytcpegfjjdojinaa
open Go.RowKit

set_option maxRecDepth 40000 in
set_option maxHeartbeats 16000000 in
theorem rbody_6 (m : Msg) (ro lo : Option Addr) (rc lc : Nat) (w : World) (hm : m.Ok) (hkd : m.kind = 6) :
    Calls Try.prog 40 #[m.v ro lo rc lc] w fun e w' => ∃ v', e = .returned v' ∧ Bs w' v' (partsB m) ∧ Below w.heap.size w w' := by
  have HP : Hid (partsB m = headB m ++ layIDB (m.tn, m.ts) ++ numB m.seq) := parts_6 hkd
  have HD : Hid (headB m = [u8 m.kind, u8 m.frm, u8 m.to]) := rfl
  generalize partsB m = G at *
  have hbox := MBox.new w m ro lo rc lc
  obtain ⟨w0, hw0⟩ : ∃ w0, w0 = ((w.alloc (.cells #[.int .i64 m.kind, .int .i64 m.frm, .int .i64 m.to, .int .u64 (m.call : Int), .int .u64 (m.floor : Int), .int .i64 m.op, .int .i64 m.fld, .int .i64 m.item,
    .int .i64 m.tn, .int .u64 (m.ts : Int), .slice ro m.refs.length rc, .int .u64 (m.val : Int), .int .i64 m.code, .int .u64 (m.seq : Int), .int .i64 m.vou, .int .u64 (m.at_ : Int), .int .i64 m.dist, .int .u64 (m.stamp : Int), .slice lo m.list.length lc] 28)).alloc (.cells #[.int .u8 (m.kind % 256), .int .u8 (m.frm % 256), .int .u8 (m.to % 256)] 5)).alloc (.cells #[.int .i64 m.kind, .slice (some ⟨w.heap.size + 1, 0, none⟩) 3 3] 92) := ⟨_, rfl⟩
  obtain ⟨hb0, hld0, hbx0⟩ := body_start w m (.cells #[.int .i64 m.kind, .int .i64 m.frm, .int .i64 m.to, .int .u64 (m.call : Int), .int .u64 (m.floor : Int), .int .i64 m.op, .int .i64 m.fld, .int .i64 m.item,
    .int .i64 m.tn, .int .u64 (m.ts : Int), .slice ro m.refs.length rc, .int .u64 (m.val : Int), .int .i64 m.code, .int .u64 (m.seq : Int), .int .i64 m.vou, .int .u64 (m.at_ : Int), .int .i64 m.dist, .int .u64 (m.stamp : Int), .slice lo m.list.length lc] 28) w0 hw0
  have hs0 : w0.heap.size = w.heap.size + 3 := by rw [hw0]; simp
  have K := fun W hb => (MBox.later (B := w.heap.size + 1) hbx0 (by omega) W hb).cells
  have hk0 := fun W hb => (K W hb).1
  have hk3 := fun W hb => (K W hb).2.2.2.1
  have hk4 := fun W hb => (K W hb).2.2.2.2.1
  have hk5 := fun W hb => (K W hb).2.2.2.2.2.1
  have hk6 := fun W hb => (K W hb).2.2.2.2.2.2.1
  have hk7 := fun W hb => (K W hb).2.2.2.2.2.2.2.1
  have hk8 := fun W hb => (K W hb).2.2.2.2.2.2.2.2.1
  have hk9 := fun W hb => (K W hb).2.2.2.2.2.2.2.2.2.1
  have hk11 := fun W hb => (K W hb).2.2.2.2.2.2.2.2.2.2.2.1
  have hk12 := fun W hb => (K W hb).2.2.2.2.2.2.2.2.2.2.2.2.1
  have hk13 := fun W hb => (K W hb).2.2.2.2.2.2.2.2.2.2.2.2.2.1
  have hk14 := fun W hb => (K W hb).2.2.2.2.2.2.2.2.2.2.2.2.2.2.1
  have hk15 := fun W hb => (K W hb).2.2.2.2.2.2.2.2.2.2.2.2.2.2.2.1
  have hk16 := fun W hb => (K W hb).2.2.2.2.2.2.2.2.2.2.2.2.2.2.2.2.1
  have hk17 := fun W hb => (K W hb).2.2.2.2.2.2.2.2.2.2.2.2.2.2.2.2.2.1
  clear K hbox
  rw [← HD.out] at hld0
  have hlen0 : (headB m).length ≤ 3 := by simp [headB]
  generalize headB m = l0 at *
  have HW : Hid (((w.alloc (.cells #[.int .i64 m.kind, .int .i64 m.frm, .int .i64 m.to, .int .u64 (m.call : Int), .int .u64 (m.floor : Int), .int .i64 m.op, .int .i64 m.fld, .int .i64 m.item,
    .int .i64 m.tn, .int .u64 (m.ts : Int), .slice ro m.refs.length rc, .int .u64 (m.val : Int), .int .i64 m.code, .int .u64 (m.seq : Int), .int .i64 m.vou, .int .u64 (m.at_ : Int), .int .i64 m.dist, .int .u64 (m.stamp : Int), .slice lo m.list.length lc] 28)).alloc (.cells #[.int .u8 (m.kind % 256), .int .u8 (m.frm % 256), .int .u8 (m.to % 256)] 5)).alloc (.cells #[.int .i64 m.kind, .slice (some ⟨w.heap.size + 1, 0, none⟩) 3 3] 92) = w0) := hw0.symm
  have HK : Hid (m.kind = 6) := hkd
  clear hw0 HD hkd
  have r0 := Below.refl (w.heap.size + 1) w0
  go_enter Try.func40, Try.ntmps40
  go_wp2_with fail
  rw [HW.out]
  rw [HK.out] at hld0
  simp only [HK.out] at hk0
  refine (lnum_no w0 (w.heap.size + 2) 6 (.slice (some ⟨w.heap.size + 1, 0, none⟩) 3 3) l0 (w.heap.size + 1) 1 m.call [99, 97, 108, 108] (by unfold Fld; omega) rfl (by decide +kernel) hld0).mono ?_
  rintro e x1 ⟨rfl, h1, y1⟩
  have B1 := r0.trans y1
  have q0 := hk0 x1 B1
  have q4 := hk4 x1 B1
  go_wp2_with fail
  clear q0 q4
  refine (lnum_no x1 (w.heap.size + 2) 6 (.slice (some ⟨w.heap.size + 1, 0, none⟩) 3 3) l0 (w.heap.size + 1) 2 m.floor [102, 108, 111, 111, 114] (by unfold Fld; omega) rfl (by decide +kernel) h1).mono ?_
  rintro e x2 ⟨rfl, h2, y2⟩
  have B2 := B1.trans y2
  have q0 := hk0 x2 B2
  have q7 := hk7 x2 B2
  go_wp2_with fail
  clear q0 q7
  rw [wrap_u64 m.item]
  refine (lnum_no x2 (w.heap.size + 2) 6 (.slice (some ⟨w.heap.size + 1, 0, none⟩) 3 3) l0 (w.heap.size + 1) 4 (u64 m.item) [105, 116, 101, 109] (by unfold Fld; omega) rfl (by decide +kernel) h2).mono ?_
  rintro e x3 ⟨rfl, h3, y3⟩
  have B3 := B2.trans y3
  have q0 := hk0 x3 B3
  have q5 := hk5 x3 B3
  go_wp2_with fail
  clear q0 q5
  refine (lone_no x3 (w.heap.size + 2) 6 (.slice (some ⟨w.heap.size + 1, 0, none⟩) 3 3) l0 (w.heap.size + 1) 8 m.op [111, 112] (by unfold Fld; omega) rfl (by decide +kernel) h3).mono ?_
  rintro e x4 ⟨rfl, h4, y4⟩
  have B4 := B3.trans y4
  have q0 := hk0 x4 B4
  have q6 := hk6 x4 B4
  go_wp2_with fail
  clear q0 q6
  refine (lone_no x4 (w.heap.size + 2) 6 (.slice (some ⟨w.heap.size + 1, 0, none⟩) 3 3) l0 (w.heap.size + 1) 16 m.fld [102, 105, 101, 108, 100] (by unfold Fld; omega) rfl (by decide +kernel) h4).mono ?_
  rintro e x5 ⟨rfl, h5, y5⟩
  have B5 := B4.trans y5
  have q0 := hk0 x5 B5
  have q8 := hk8 x5 B5
  have q9 := hk9 x5 B5
  go_wp2_with fail
  clear q0 q8 q9
  refine (rhas_any 6 32 (by unfold Fld; omega) [116, 97, 114, 103, 101, 116] rfl x5).mono ?_
  rintro e x6 ⟨rfl, y6⟩
  rw [show hasB 6 32 = true from by decide +kernel]
  have h6 := h5.below y6
  have B6 := B5.trans (y6.mono (by have := B5.size; omega))
  have q8 := hk8 x6 B6
  have q9 := hk9 x6 B6
  go_wp2_with fail
  clear q8 q9
  refine (lid_any x6 (w.heap.size + 2) 6 (.slice (some ⟨w.heap.size + 1, 0, none⟩) 3 3) l0 (w.heap.size + 1) (m.tn, m.ts) hm.ts h6 (by omega)).mono ?_
  rintro e x7 ⟨rfl, v7, h7, y7⟩
  have hlen7 : (l0 ++ layIDB (m.tn, m.ts)).length ≤ 23 := by rw [List.length_append]; have := hlen0; have := layIDB_len (m.tn, m.ts); omega
  have B7 := B6.trans y7
  have q0 := hk0 x7 B7
  have q11 := hk11 x7 B7
  go_wp2_with fail
  clear q0 q11
  refine (lnum_no x7 (w.heap.size + 2) 6 v7 (l0 ++ layIDB (m.tn, m.ts)) (w.heap.size + 1) 2048 m.val [118, 97, 108, 117, 101] (by unfold Fld; omega) rfl (by decide +kernel) h7).mono ?_
  rintro e x8 ⟨rfl, h8, y8⟩
  have B8 := B7.trans y8
  have q0 := hk0 x8 B8
  go_wp2_with fail
  clear q0
  refine (rhas_any 6 4096 (by unfold Fld; omega) [114, 101, 102, 115] rfl x8).mono ?_
  rintro e x9 ⟨rfl, y9⟩
  rw [show hasB 6 4096 = false from by decide +kernel]
  have h9 := h8.below y9
  have B9 := B8.trans (y9.mono (by have := B8.size; omega))
  have q0 := hk0 x9 B9
  have q13 := hk13 x9 B9
  go_wp2_with fail
  clear q0 q13
  refine (lnum_yes x9 (w.heap.size + 2) 6 v7 (l0 ++ layIDB (m.tn, m.ts)) (w.heap.size + 1) 64 m.seq [115, 101, 113] (by unfold Fld; omega) rfl (by have := hm.seq; unfold U64 at this; exact this) (by decide +kernel) h9 (by omega)).mono ?_
  rintro e x10 ⟨rfl, v10, h10, y10⟩
  have hlen10 : ((l0 ++ layIDB (m.tn, m.ts)) ++ numB m.seq).length ≤ 33 := by rw [List.length_append]; have := hlen7; have := numB_len m.seq; omega
  have B10 := B9.trans y10
  have q0 := hk0 x10 B10
  have q14 := hk14 x10 B10
  go_wp2_with fail
  clear q0 q14
  refine (lone_no x10 (w.heap.size + 2) 6 v10 ((l0 ++ layIDB (m.tn, m.ts)) ++ numB m.seq) (w.heap.size + 1) 128 m.vou [118, 111, 117, 99, 104, 101, 114] (by unfold Fld; omega) rfl (by decide +kernel) h10).mono ?_
  rintro e x11 ⟨rfl, h11, y11⟩
  have B11 := B10.trans y11
  have q0 := hk0 x11 B11
  have q15 := hk15 x11 B11
  go_wp2_with fail
  clear q0 q15
  refine (lnum_no x11 (w.heap.size + 2) 6 v10 ((l0 ++ layIDB (m.tn, m.ts)) ++ numB m.seq) (w.heap.size + 1) 256 m.at_ [97, 116] (by unfold Fld; omega) rfl (by decide +kernel) h11).mono ?_
  rintro e x12 ⟨rfl, h12, y12⟩
  have B12 := B11.trans y12
  have q0 := hk0 x12 B12
  have q16 := hk16 x12 B12
  go_wp2_with fail
  clear q0 q16
  refine (lone_no x12 (w.heap.size + 2) 6 v10 ((l0 ++ layIDB (m.tn, m.ts)) ++ numB m.seq) (w.heap.size + 1) 512 m.dist [100, 105, 115, 116] (by unfold Fld; omega) rfl (by decide +kernel) h12).mono ?_
  rintro e x13 ⟨rfl, h13, y13⟩
  have B13 := B12.trans y13
  have q0 := hk0 x13 B13
  have q17 := hk17 x13 B13
  go_wp2_with fail
  clear q0 q17
  refine (lnum_no x13 (w.heap.size + 2) 6 v10 ((l0 ++ layIDB (m.tn, m.ts)) ++ numB m.seq) (w.heap.size + 1) 8192 m.stamp [115, 116, 97, 109, 112] (by unfold Fld; omega) rfl (by decide +kernel) h13).mono ?_
  rintro e x14 ⟨rfl, h14, y14⟩
  have B14 := B13.trans y14
  have q0 := hk0 x14 B14
  go_wp2_with fail
  clear q0
  refine (rhas_any 6 16384 (by unfold Fld; omega) [108, 105, 115, 116] rfl x14).mono ?_
  rintro e x15 ⟨rfl, y15⟩
  rw [show hasB 6 16384 = false from by decide +kernel]
  have h15 := h14.below y15
  have B15 := B14.trans (y15.mono (by have := B14.size; omega))
  obtain ⟨ao, nn, cc, hv⟩ := ld_form h15
  subst hv
  have d1 := h15.c1
  go_wp2
  go_ret
  refine ⟨_, rfl, ?_, hb0.trans (B15.mono (by omega))⟩
  rw [HP.out]
  exact Bs.ofOwns h15.own

end Go.Proofs.Ytcpegfjjdojinaa

namespace Go.Proofs.Ytcpegfjjdojinaa
open Go.RowKit

set_option maxRecDepth 40000 in
set_option maxHeartbeats 16000000 in
theorem rbody_7 (m : Msg) (ro lo : Option Addr) (rc lc : Nat) (w : World) (hm : m.Ok) (hkd : m.kind = 7) :
    Calls Try.prog 40 #[m.v ro lo rc lc] w fun e w' => ∃ v', e = .returned v' ∧ Bs w' v' (partsB m) ∧ Below w.heap.size w w' := by
  have HP : Hid (partsB m = headB m ++ layIDB (m.tn, m.ts) ++ numB m.seq) := parts_7 hkd
  have HD : Hid (headB m = [u8 m.kind, u8 m.frm, u8 m.to]) := rfl
  generalize partsB m = G at *
  have hbox := MBox.new w m ro lo rc lc
  obtain ⟨w0, hw0⟩ : ∃ w0, w0 = ((w.alloc (.cells #[.int .i64 m.kind, .int .i64 m.frm, .int .i64 m.to, .int .u64 (m.call : Int), .int .u64 (m.floor : Int), .int .i64 m.op, .int .i64 m.fld, .int .i64 m.item,
    .int .i64 m.tn, .int .u64 (m.ts : Int), .slice ro m.refs.length rc, .int .u64 (m.val : Int), .int .i64 m.code, .int .u64 (m.seq : Int), .int .i64 m.vou, .int .u64 (m.at_ : Int), .int .i64 m.dist, .int .u64 (m.stamp : Int), .slice lo m.list.length lc] 28)).alloc (.cells #[.int .u8 (m.kind % 256), .int .u8 (m.frm % 256), .int .u8 (m.to % 256)] 5)).alloc (.cells #[.int .i64 m.kind, .slice (some ⟨w.heap.size + 1, 0, none⟩) 3 3] 92) := ⟨_, rfl⟩
  obtain ⟨hb0, hld0, hbx0⟩ := body_start w m (.cells #[.int .i64 m.kind, .int .i64 m.frm, .int .i64 m.to, .int .u64 (m.call : Int), .int .u64 (m.floor : Int), .int .i64 m.op, .int .i64 m.fld, .int .i64 m.item,
    .int .i64 m.tn, .int .u64 (m.ts : Int), .slice ro m.refs.length rc, .int .u64 (m.val : Int), .int .i64 m.code, .int .u64 (m.seq : Int), .int .i64 m.vou, .int .u64 (m.at_ : Int), .int .i64 m.dist, .int .u64 (m.stamp : Int), .slice lo m.list.length lc] 28) w0 hw0
  have hs0 : w0.heap.size = w.heap.size + 3 := by rw [hw0]; simp
  have K := fun W hb => (MBox.later (B := w.heap.size + 1) hbx0 (by omega) W hb).cells
  have hk0 := fun W hb => (K W hb).1
  have hk3 := fun W hb => (K W hb).2.2.2.1
  have hk4 := fun W hb => (K W hb).2.2.2.2.1
  have hk5 := fun W hb => (K W hb).2.2.2.2.2.1
  have hk6 := fun W hb => (K W hb).2.2.2.2.2.2.1
  have hk7 := fun W hb => (K W hb).2.2.2.2.2.2.2.1
  have hk8 := fun W hb => (K W hb).2.2.2.2.2.2.2.2.1
  have hk9 := fun W hb => (K W hb).2.2.2.2.2.2.2.2.2.1
  have hk11 := fun W hb => (K W hb).2.2.2.2.2.2.2.2.2.2.2.1
  have hk12 := fun W hb => (K W hb).2.2.2.2.2.2.2.2.2.2.2.2.1
  have hk13 := fun W hb => (K W hb).2.2.2.2.2.2.2.2.2.2.2.2.2.1
  have hk14 := fun W hb => (K W hb).2.2.2.2.2.2.2.2.2.2.2.2.2.2.1
  have hk15 := fun W hb => (K W hb).2.2.2.2.2.2.2.2.2.2.2.2.2.2.2.1
  have hk16 := fun W hb => (K W hb).2.2.2.2.2.2.2.2.2.2.2.2.2.2.2.2.1
  have hk17 := fun W hb => (K W hb).2.2.2.2.2.2.2.2.2.2.2.2.2.2.2.2.2.1
  clear K hbox
  rw [← HD.out] at hld0
  have hlen0 : (headB m).length ≤ 3 := by simp [headB]
  generalize headB m = l0 at *
  have HW : Hid (((w.alloc (.cells #[.int .i64 m.kind, .int .i64 m.frm, .int .i64 m.to, .int .u64 (m.call : Int), .int .u64 (m.floor : Int), .int .i64 m.op, .int .i64 m.fld, .int .i64 m.item,
    .int .i64 m.tn, .int .u64 (m.ts : Int), .slice ro m.refs.length rc, .int .u64 (m.val : Int), .int .i64 m.code, .int .u64 (m.seq : Int), .int .i64 m.vou, .int .u64 (m.at_ : Int), .int .i64 m.dist, .int .u64 (m.stamp : Int), .slice lo m.list.length lc] 28)).alloc (.cells #[.int .u8 (m.kind % 256), .int .u8 (m.frm % 256), .int .u8 (m.to % 256)] 5)).alloc (.cells #[.int .i64 m.kind, .slice (some ⟨w.heap.size + 1, 0, none⟩) 3 3] 92) = w0) := hw0.symm
  have HK : Hid (m.kind = 7) := hkd
  clear hw0 HD hkd
  have r0 := Below.refl (w.heap.size + 1) w0
  go_enter Try.func40, Try.ntmps40
  go_wp2_with fail
  rw [HW.out]
  rw [HK.out] at hld0
  simp only [HK.out] at hk0
  refine (lnum_no w0 (w.heap.size + 2) 7 (.slice (some ⟨w.heap.size + 1, 0, none⟩) 3 3) l0 (w.heap.size + 1) 1 m.call [99, 97, 108, 108] (by unfold Fld; omega) rfl (by decide +kernel) hld0).mono ?_
  rintro e x1 ⟨rfl, h1, y1⟩
  have B1 := r0.trans y1
  have q0 := hk0 x1 B1
  have q4 := hk4 x1 B1
  go_wp2_with fail
  clear q0 q4
  refine (lnum_no x1 (w.heap.size + 2) 7 (.slice (some ⟨w.heap.size + 1, 0, none⟩) 3 3) l0 (w.heap.size + 1) 2 m.floor [102, 108, 111, 111, 114] (by unfold Fld; omega) rfl (by decide +kernel) h1).mono ?_
  rintro e x2 ⟨rfl, h2, y2⟩
  have B2 := B1.trans y2
  have q0 := hk0 x2 B2
  have q7 := hk7 x2 B2
  go_wp2_with fail
  clear q0 q7
  rw [wrap_u64 m.item]
  refine (lnum_no x2 (w.heap.size + 2) 7 (.slice (some ⟨w.heap.size + 1, 0, none⟩) 3 3) l0 (w.heap.size + 1) 4 (u64 m.item) [105, 116, 101, 109] (by unfold Fld; omega) rfl (by decide +kernel) h2).mono ?_
  rintro e x3 ⟨rfl, h3, y3⟩
  have B3 := B2.trans y3
  have q0 := hk0 x3 B3
  have q5 := hk5 x3 B3
  go_wp2_with fail
  clear q0 q5
  refine (lone_no x3 (w.heap.size + 2) 7 (.slice (some ⟨w.heap.size + 1, 0, none⟩) 3 3) l0 (w.heap.size + 1) 8 m.op [111, 112] (by unfold Fld; omega) rfl (by decide +kernel) h3).mono ?_
  rintro e x4 ⟨rfl, h4, y4⟩
  have B4 := B3.trans y4
  have q0 := hk0 x4 B4
  have q6 := hk6 x4 B4
  go_wp2_with fail
  clear q0 q6
  refine (lone_no x4 (w.heap.size + 2) 7 (.slice (some ⟨w.heap.size + 1, 0, none⟩) 3 3) l0 (w.heap.size + 1) 16 m.fld [102, 105, 101, 108, 100] (by unfold Fld; omega) rfl (by decide +kernel) h4).mono ?_
  rintro e x5 ⟨rfl, h5, y5⟩
  have B5 := B4.trans y5
  have q0 := hk0 x5 B5
  have q8 := hk8 x5 B5
  have q9 := hk9 x5 B5
  go_wp2_with fail
  clear q0 q8 q9
  refine (rhas_any 7 32 (by unfold Fld; omega) [116, 97, 114, 103, 101, 116] rfl x5).mono ?_
  rintro e x6 ⟨rfl, y6⟩
  rw [show hasB 7 32 = true from by decide +kernel]
  have h6 := h5.below y6
  have B6 := B5.trans (y6.mono (by have := B5.size; omega))
  have q8 := hk8 x6 B6
  have q9 := hk9 x6 B6
  go_wp2_with fail
  clear q8 q9
  refine (lid_any x6 (w.heap.size + 2) 7 (.slice (some ⟨w.heap.size + 1, 0, none⟩) 3 3) l0 (w.heap.size + 1) (m.tn, m.ts) hm.ts h6 (by omega)).mono ?_
  rintro e x7 ⟨rfl, v7, h7, y7⟩
  have hlen7 : (l0 ++ layIDB (m.tn, m.ts)).length ≤ 23 := by rw [List.length_append]; have := hlen0; have := layIDB_len (m.tn, m.ts); omega
  have B7 := B6.trans y7
  have q0 := hk0 x7 B7
  have q11 := hk11 x7 B7
  go_wp2_with fail
  clear q0 q11
  refine (lnum_no x7 (w.heap.size + 2) 7 v7 (l0 ++ layIDB (m.tn, m.ts)) (w.heap.size + 1) 2048 m.val [118, 97, 108, 117, 101] (by unfold Fld; omega) rfl (by decide +kernel) h7).mono ?_
  rintro e x8 ⟨rfl, h8, y8⟩
  have B8 := B7.trans y8
  have q0 := hk0 x8 B8
  go_wp2_with fail
  clear q0
  refine (rhas_any 7 4096 (by unfold Fld; omega) [114, 101, 102, 115] rfl x8).mono ?_
  rintro e x9 ⟨rfl, y9⟩
  rw [show hasB 7 4096 = false from by decide +kernel]
  have h9 := h8.below y9
  have B9 := B8.trans (y9.mono (by have := B8.size; omega))
  have q0 := hk0 x9 B9
  have q13 := hk13 x9 B9
  go_wp2_with fail
  clear q0 q13
  refine (lnum_yes x9 (w.heap.size + 2) 7 v7 (l0 ++ layIDB (m.tn, m.ts)) (w.heap.size + 1) 64 m.seq [115, 101, 113] (by unfold Fld; omega) rfl (by have := hm.seq; unfold U64 at this; exact this) (by decide +kernel) h9 (by omega)).mono ?_
  rintro e x10 ⟨rfl, v10, h10, y10⟩
  have hlen10 : ((l0 ++ layIDB (m.tn, m.ts)) ++ numB m.seq).length ≤ 33 := by rw [List.length_append]; have := hlen7; have := numB_len m.seq; omega
  have B10 := B9.trans y10
  have q0 := hk0 x10 B10
  have q14 := hk14 x10 B10
  go_wp2_with fail
  clear q0 q14
  refine (lone_no x10 (w.heap.size + 2) 7 v10 ((l0 ++ layIDB (m.tn, m.ts)) ++ numB m.seq) (w.heap.size + 1) 128 m.vou [118, 111, 117, 99, 104, 101, 114] (by unfold Fld; omega) rfl (by decide +kernel) h10).mono ?_
  rintro e x11 ⟨rfl, h11, y11⟩
  have B11 := B10.trans y11
  have q0 := hk0 x11 B11
  have q15 := hk15 x11 B11
  go_wp2_with fail
  clear q0 q15
  refine (lnum_no x11 (w.heap.size + 2) 7 v10 ((l0 ++ layIDB (m.tn, m.ts)) ++ numB m.seq) (w.heap.size + 1) 256 m.at_ [97, 116] (by unfold Fld; omega) rfl (by decide +kernel) h11).mono ?_
  rintro e x12 ⟨rfl, h12, y12⟩
  have B12 := B11.trans y12
  have q0 := hk0 x12 B12
  have q16 := hk16 x12 B12
  go_wp2_with fail
  clear q0 q16
  refine (lone_no x12 (w.heap.size + 2) 7 v10 ((l0 ++ layIDB (m.tn, m.ts)) ++ numB m.seq) (w.heap.size + 1) 512 m.dist [100, 105, 115, 116] (by unfold Fld; omega) rfl (by decide +kernel) h12).mono ?_
  rintro e x13 ⟨rfl, h13, y13⟩
  have B13 := B12.trans y13
  have q0 := hk0 x13 B13
  have q17 := hk17 x13 B13
  go_wp2_with fail
  clear q0 q17
  refine (lnum_no x13 (w.heap.size + 2) 7 v10 ((l0 ++ layIDB (m.tn, m.ts)) ++ numB m.seq) (w.heap.size + 1) 8192 m.stamp [115, 116, 97, 109, 112] (by unfold Fld; omega) rfl (by decide +kernel) h13).mono ?_
  rintro e x14 ⟨rfl, h14, y14⟩
  have B14 := B13.trans y14
  have q0 := hk0 x14 B14
  go_wp2_with fail
  clear q0
  refine (rhas_any 7 16384 (by unfold Fld; omega) [108, 105, 115, 116] rfl x14).mono ?_
  rintro e x15 ⟨rfl, y15⟩
  rw [show hasB 7 16384 = false from by decide +kernel]
  have h15 := h14.below y15
  have B15 := B14.trans (y15.mono (by have := B14.size; omega))
  obtain ⟨ao, nn, cc, hv⟩ := ld_form h15
  subst hv
  have d1 := h15.c1
  go_wp2
  go_ret
  refine ⟨_, rfl, ?_, hb0.trans (B15.mono (by omega))⟩
  rw [HP.out]
  exact Bs.ofOwns h15.own

end Go.Proofs.Ytcpegfjjdojinaa

namespace Go.Proofs.Ytcpegfjjdojinaa
open Go.RowKit

set_option maxRecDepth 40000 in
set_option maxHeartbeats 16000000 in
theorem rbody_8 (m : Msg) (ro lo : Option Addr) (rc lc : Nat) (w : World) (hm : m.Ok) (hkd : m.kind = 8) :
    Calls Try.prog 40 #[m.v ro lo rc lc] w fun e w' => ∃ v', e = .returned v' ∧ Bs w' v' (partsB m) ∧ Below w.heap.size w w' := by
  have HP : Hid (partsB m = headB m ++ numB m.call ++ numB (u64 m.item) ++ [u8 m.op] ++ layIDB (m.tn, m.ts)) := parts_8 hkd
  have HD : Hid (headB m = [u8 m.kind, u8 m.frm, u8 m.to]) := rfl
  generalize partsB m = G at *
  have hbox := MBox.new w m ro lo rc lc
  obtain ⟨w0, hw0⟩ : ∃ w0, w0 = ((w.alloc (.cells #[.int .i64 m.kind, .int .i64 m.frm, .int .i64 m.to, .int .u64 (m.call : Int), .int .u64 (m.floor : Int), .int .i64 m.op, .int .i64 m.fld, .int .i64 m.item,
    .int .i64 m.tn, .int .u64 (m.ts : Int), .slice ro m.refs.length rc, .int .u64 (m.val : Int), .int .i64 m.code, .int .u64 (m.seq : Int), .int .i64 m.vou, .int .u64 (m.at_ : Int), .int .i64 m.dist, .int .u64 (m.stamp : Int), .slice lo m.list.length lc] 28)).alloc (.cells #[.int .u8 (m.kind % 256), .int .u8 (m.frm % 256), .int .u8 (m.to % 256)] 5)).alloc (.cells #[.int .i64 m.kind, .slice (some ⟨w.heap.size + 1, 0, none⟩) 3 3] 92) := ⟨_, rfl⟩
  obtain ⟨hb0, hld0, hbx0⟩ := body_start w m (.cells #[.int .i64 m.kind, .int .i64 m.frm, .int .i64 m.to, .int .u64 (m.call : Int), .int .u64 (m.floor : Int), .int .i64 m.op, .int .i64 m.fld, .int .i64 m.item,
    .int .i64 m.tn, .int .u64 (m.ts : Int), .slice ro m.refs.length rc, .int .u64 (m.val : Int), .int .i64 m.code, .int .u64 (m.seq : Int), .int .i64 m.vou, .int .u64 (m.at_ : Int), .int .i64 m.dist, .int .u64 (m.stamp : Int), .slice lo m.list.length lc] 28) w0 hw0
  have hs0 : w0.heap.size = w.heap.size + 3 := by rw [hw0]; simp
  have K := fun W hb => (MBox.later (B := w.heap.size + 1) hbx0 (by omega) W hb).cells
  have hk0 := fun W hb => (K W hb).1
  have hk3 := fun W hb => (K W hb).2.2.2.1
  have hk4 := fun W hb => (K W hb).2.2.2.2.1
  have hk5 := fun W hb => (K W hb).2.2.2.2.2.1
  have hk6 := fun W hb => (K W hb).2.2.2.2.2.2.1
  have hk7 := fun W hb => (K W hb).2.2.2.2.2.2.2.1
  have hk8 := fun W hb => (K W hb).2.2.2.2.2.2.2.2.1
  have hk9 := fun W hb => (K W hb).2.2.2.2.2.2.2.2.2.1
  have hk11 := fun W hb => (K W hb).2.2.2.2.2.2.2.2.2.2.2.1
  have hk12 := fun W hb => (K W hb).2.2.2.2.2.2.2.2.2.2.2.2.1
  have hk13 := fun W hb => (K W hb).2.2.2.2.2.2.2.2.2.2.2.2.2.1
  have hk14 := fun W hb => (K W hb).2.2.2.2.2.2.2.2.2.2.2.2.2.2.1
  have hk15 := fun W hb => (K W hb).2.2.2.2.2.2.2.2.2.2.2.2.2.2.2.1
  have hk16 := fun W hb => (K W hb).2.2.2.2.2.2.2.2.2.2.2.2.2.2.2.2.1
  have hk17 := fun W hb => (K W hb).2.2.2.2.2.2.2.2.2.2.2.2.2.2.2.2.2.1
  clear K hbox
  rw [← HD.out] at hld0
  have hlen0 : (headB m).length ≤ 3 := by simp [headB]
  generalize headB m = l0 at *
  have HW : Hid (((w.alloc (.cells #[.int .i64 m.kind, .int .i64 m.frm, .int .i64 m.to, .int .u64 (m.call : Int), .int .u64 (m.floor : Int), .int .i64 m.op, .int .i64 m.fld, .int .i64 m.item,
    .int .i64 m.tn, .int .u64 (m.ts : Int), .slice ro m.refs.length rc, .int .u64 (m.val : Int), .int .i64 m.code, .int .u64 (m.seq : Int), .int .i64 m.vou, .int .u64 (m.at_ : Int), .int .i64 m.dist, .int .u64 (m.stamp : Int), .slice lo m.list.length lc] 28)).alloc (.cells #[.int .u8 (m.kind % 256), .int .u8 (m.frm % 256), .int .u8 (m.to % 256)] 5)).alloc (.cells #[.int .i64 m.kind, .slice (some ⟨w.heap.size + 1, 0, none⟩) 3 3] 92) = w0) := hw0.symm
  have HK : Hid (m.kind = 8) := hkd
  clear hw0 HD hkd
  have r0 := Below.refl (w.heap.size + 1) w0
  go_enter Try.func40, Try.ntmps40
  go_wp2_with fail
  rw [HW.out]
  rw [HK.out] at hld0
  simp only [HK.out] at hk0
  refine (lnum_yes w0 (w.heap.size + 2) 8 (.slice (some ⟨w.heap.size + 1, 0, none⟩) 3 3) l0 (w.heap.size + 1) 1 m.call [99, 97, 108, 108] (by unfold Fld; omega) rfl (by have := hm.call; unfold U64 at this; exact this) (by decide +kernel) hld0 (by omega)).mono ?_
  rintro e x1 ⟨rfl, v1, h1, y1⟩
  have hlen1 : (l0 ++ numB m.call).length ≤ 13 := by rw [List.length_append]; have := hlen0; have := numB_len m.call; omega
  have B1 := r0.trans y1
  have q0 := hk0 x1 B1
  have q4 := hk4 x1 B1
  go_wp2_with fail
  clear q0 q4
  refine (lnum_no x1 (w.heap.size + 2) 8 v1 (l0 ++ numB m.call) (w.heap.size + 1) 2 m.floor [102, 108, 111, 111, 114] (by unfold Fld; omega) rfl (by decide +kernel) h1).mono ?_
  rintro e x2 ⟨rfl, h2, y2⟩
  have B2 := B1.trans y2
  have q0 := hk0 x2 B2
  have q7 := hk7 x2 B2
  go_wp2_with fail
  clear q0 q7
  rw [wrap_u64 m.item]
  refine (lnum_yes x2 (w.heap.size + 2) 8 v1 (l0 ++ numB m.call) (w.heap.size + 1) 4 (u64 m.item) [105, 116, 101, 109] (by unfold Fld; omega) rfl (by have := U64.wrap m.item; unfold U64 at this; exact this) (by decide +kernel) h2 (by omega)).mono ?_
  rintro e x3 ⟨rfl, v3, h3, y3⟩
  have hlen3 : ((l0 ++ numB m.call) ++ numB (u64 m.item)).length ≤ 23 := by rw [List.length_append]; have := hlen1; have := numB_len (u64 m.item); omega
  have B3 := B2.trans y3
  have q0 := hk0 x3 B3
  have q5 := hk5 x3 B3
  go_wp2_with fail
  clear q0 q5
  refine (lone_yes x3 (w.heap.size + 2) 8 v3 ((l0 ++ numB m.call) ++ numB (u64 m.item)) (w.heap.size + 1) 8 m.op [111, 112] (by unfold Fld; omega) rfl (by decide +kernel) h3 (by omega)).mono ?_
  rintro e x4 ⟨rfl, v4, h4, y4⟩
  have hlen4 : (((l0 ++ numB m.call) ++ numB (u64 m.item)) ++ [u8 m.op]).length ≤ 33 := by rw [List.length_append]; have := hlen3; have : ([u8 m.op] : List UInt8).length = 1 := rfl; omega
  have B4 := B3.trans y4
  have q0 := hk0 x4 B4
  have q6 := hk6 x4 B4
  go_wp2_with fail
  clear q0 q6
  refine (lone_no x4 (w.heap.size + 2) 8 v4 (((l0 ++ numB m.call) ++ numB (u64 m.item)) ++ [u8 m.op]) (w.heap.size + 1) 16 m.fld [102, 105, 101, 108, 100] (by unfold Fld; omega) rfl (by decide +kernel) h4).mono ?_
  rintro e x5 ⟨rfl, h5, y5⟩
  have B5 := B4.trans y5
  have q0 := hk0 x5 B5
  have q8 := hk8 x5 B5
  have q9 := hk9 x5 B5
  go_wp2_with fail
  clear q0 q8 q9
  refine (rhas_any 8 32 (by unfold Fld; omega) [116, 97, 114, 103, 101, 116] rfl x5).mono ?_
  rintro e x6 ⟨rfl, y6⟩
  rw [show hasB 8 32 = true from by decide +kernel]
  have h6 := h5.below y6
  have B6 := B5.trans (y6.mono (by have := B5.size; omega))
  have q8 := hk8 x6 B6
  have q9 := hk9 x6 B6
  go_wp2_with fail
  clear q8 q9
  refine (lid_any x6 (w.heap.size + 2) 8 v4 (((l0 ++ numB m.call) ++ numB (u64 m.item)) ++ [u8 m.op]) (w.heap.size + 1) (m.tn, m.ts) hm.ts h6 (by omega)).mono ?_
  rintro e x7 ⟨rfl, v7, h7, y7⟩
  have hlen7 : ((((l0 ++ numB m.call) ++ numB (u64 m.item)) ++ [u8 m.op]) ++ layIDB (m.tn, m.ts)).length ≤ 53 := by rw [List.length_append]; have := hlen4; have := layIDB_len (m.tn, m.ts); omega
  have B7 := B6.trans y7
  have q0 := hk0 x7 B7
  have q11 := hk11 x7 B7
  go_wp2_with fail
  clear q0 q11
  refine (lnum_no x7 (w.heap.size + 2) 8 v7 ((((l0 ++ numB m.call) ++ numB (u64 m.item)) ++ [u8 m.op]) ++ layIDB (m.tn, m.ts)) (w.heap.size + 1) 2048 m.val [118, 97, 108, 117, 101] (by unfold Fld; omega) rfl (by decide +kernel) h7).mono ?_
  rintro e x8 ⟨rfl, h8, y8⟩
  have B8 := B7.trans y8
  have q0 := hk0 x8 B8
  go_wp2_with fail
  clear q0
  refine (rhas_any 8 4096 (by unfold Fld; omega) [114, 101, 102, 115] rfl x8).mono ?_
  rintro e x9 ⟨rfl, y9⟩
  rw [show hasB 8 4096 = false from by decide +kernel]
  have h9 := h8.below y9
  have B9 := B8.trans (y9.mono (by have := B8.size; omega))
  have q0 := hk0 x9 B9
  have q13 := hk13 x9 B9
  go_wp2_with fail
  clear q0 q13
  refine (lnum_no x9 (w.heap.size + 2) 8 v7 ((((l0 ++ numB m.call) ++ numB (u64 m.item)) ++ [u8 m.op]) ++ layIDB (m.tn, m.ts)) (w.heap.size + 1) 64 m.seq [115, 101, 113] (by unfold Fld; omega) rfl (by decide +kernel) h9).mono ?_
  rintro e x10 ⟨rfl, h10, y10⟩
  have B10 := B9.trans y10
  have q0 := hk0 x10 B10
  have q14 := hk14 x10 B10
  go_wp2_with fail
  clear q0 q14
  refine (lone_no x10 (w.heap.size + 2) 8 v7 ((((l0 ++ numB m.call) ++ numB (u64 m.item)) ++ [u8 m.op]) ++ layIDB (m.tn, m.ts)) (w.heap.size + 1) 128 m.vou [118, 111, 117, 99, 104, 101, 114] (by unfold Fld; omega) rfl (by decide +kernel) h10).mono ?_
  rintro e x11 ⟨rfl, h11, y11⟩
  have B11 := B10.trans y11
  have q0 := hk0 x11 B11
  have q15 := hk15 x11 B11
  go_wp2_with fail
  clear q0 q15
  refine (lnum_no x11 (w.heap.size + 2) 8 v7 ((((l0 ++ numB m.call) ++ numB (u64 m.item)) ++ [u8 m.op]) ++ layIDB (m.tn, m.ts)) (w.heap.size + 1) 256 m.at_ [97, 116] (by unfold Fld; omega) rfl (by decide +kernel) h11).mono ?_
  rintro e x12 ⟨rfl, h12, y12⟩
  have B12 := B11.trans y12
  have q0 := hk0 x12 B12
  have q16 := hk16 x12 B12
  go_wp2_with fail
  clear q0 q16
  refine (lone_no x12 (w.heap.size + 2) 8 v7 ((((l0 ++ numB m.call) ++ numB (u64 m.item)) ++ [u8 m.op]) ++ layIDB (m.tn, m.ts)) (w.heap.size + 1) 512 m.dist [100, 105, 115, 116] (by unfold Fld; omega) rfl (by decide +kernel) h12).mono ?_
  rintro e x13 ⟨rfl, h13, y13⟩
  have B13 := B12.trans y13
  have q0 := hk0 x13 B13
  have q17 := hk17 x13 B13
  go_wp2_with fail
  clear q0 q17
  refine (lnum_no x13 (w.heap.size + 2) 8 v7 ((((l0 ++ numB m.call) ++ numB (u64 m.item)) ++ [u8 m.op]) ++ layIDB (m.tn, m.ts)) (w.heap.size + 1) 8192 m.stamp [115, 116, 97, 109, 112] (by unfold Fld; omega) rfl (by decide +kernel) h13).mono ?_
  rintro e x14 ⟨rfl, h14, y14⟩
  have B14 := B13.trans y14
  have q0 := hk0 x14 B14
  go_wp2_with fail
  clear q0
  refine (rhas_any 8 16384 (by unfold Fld; omega) [108, 105, 115, 116] rfl x14).mono ?_
  rintro e x15 ⟨rfl, y15⟩
  rw [show hasB 8 16384 = false from by decide +kernel]
  have h15 := h14.below y15
  have B15 := B14.trans (y15.mono (by have := B14.size; omega))
  obtain ⟨ao, nn, cc, hv⟩ := ld_form h15
  subst hv
  have d1 := h15.c1
  go_wp2
  go_ret
  refine ⟨_, rfl, ?_, hb0.trans (B15.mono (by omega))⟩
  rw [HP.out]
  exact Bs.ofOwns h15.own

end Go.Proofs.Ytcpegfjjdojinaa

