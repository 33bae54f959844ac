/- The plain body of a message of Kind 9: its walk. -/
import Derived.Test.YtcpegfjjdojinaaRLaid3P
import Derived.Deep.CutRange
import Derived.Deep.CutBlock
namespace Go.Proofs.Ytcpegfjjdojinaa
open Go.RowKit

set_option maxRecDepth 40000 in
set_option maxHeartbeats 16000000 in
theorem rbody_9 (m : Msg) (ro lo : Option Addr) (rc lc : Nat) (w : World) (hm : m.Ok) (hl : Us w lo m.list) (hll : m.list.length ≤ 1000000) (hkd : m.kind = 9) :
    Calls Try.prog 40 #[m.v ro lo rc lc] w fun e w' => ∃ v', e = .returned v' ∧ Bs w' v' (partsB m) ∧ Below w.heap.size w w' := by
  have HP : Hid (partsB m = headB m ++ numB m.call ++ numB (u64 m.item) ++ [u8 m.code] ++ numB m.stamp ++ layListB m.list) := parts_9 hkd
  have HD : Hid (headB m = [u8 m.kind, u8 m.frm, u8 m.to]) := rfl
  generalize partsB m = G at *
  have hbox := MBox.new w m ro lo rc lc
  obtain ⟨w0, hw0⟩ : ∃ w0, w0 = ((w.alloc (.cells #[.int .i64 m.kind, .int .i64 m.frm, .int .i64 m.to, .int .u64 (m.call : Int), .int .u64 (m.floor : Int), .int .i64 m.op, .int .i64 m.fld, .int .i64 m.item,
    .int .i64 m.tn, .int .u64 (m.ts : Int), .slice ro m.refs.length rc, .int .u64 (m.val : Int), .int .i64 m.code, .int .u64 (m.seq : Int), .int .i64 m.vou, .int .u64 (m.at_ : Int), .int .i64 m.dist, .int .u64 (m.stamp : Int), .slice lo m.list.length lc] 28)).alloc (.cells #[.int .u8 (m.kind % 256), .int .u8 (m.frm % 256), .int .u8 (m.to % 256)] 5)).alloc (.cells #[.int .i64 m.kind, .slice (some ⟨w.heap.size + 1, 0, none⟩) 3 3] 92) := ⟨_, rfl⟩
  obtain ⟨hb0, hld0, hbx0⟩ := body_start w m (.cells #[.int .i64 m.kind, .int .i64 m.frm, .int .i64 m.to, .int .u64 (m.call : Int), .int .u64 (m.floor : Int), .int .i64 m.op, .int .i64 m.fld, .int .i64 m.item,
    .int .i64 m.tn, .int .u64 (m.ts : Int), .slice ro m.refs.length rc, .int .u64 (m.val : Int), .int .i64 m.code, .int .u64 (m.seq : Int), .int .i64 m.vou, .int .u64 (m.at_ : Int), .int .i64 m.dist, .int .u64 (m.stamp : Int), .slice lo m.list.length lc] 28) w0 hw0
  have hs0 : w0.heap.size = w.heap.size + 3 := by rw [hw0]; simp
  have K := fun W hb => (MBox.later (B := w.heap.size + 1) hbx0 (by omega) W hb).cells
  have hk0 := fun W hb => (K W hb).1
  have hk3 := fun W hb => (K W hb).2.2.2.1
  have hk4 := fun W hb => (K W hb).2.2.2.2.1
  have hk5 := fun W hb => (K W hb).2.2.2.2.2.1
  have hk6 := fun W hb => (K W hb).2.2.2.2.2.2.1
  have hk7 := fun W hb => (K W hb).2.2.2.2.2.2.2.1
  have hk8 := fun W hb => (K W hb).2.2.2.2.2.2.2.2.1
  have hk9 := fun W hb => (K W hb).2.2.2.2.2.2.2.2.2.1
  have hk11 := fun W hb => (K W hb).2.2.2.2.2.2.2.2.2.2.2.1
  have hk12 := fun W hb => (K W hb).2.2.2.2.2.2.2.2.2.2.2.2.1
  have hk13 := fun W hb => (K W hb).2.2.2.2.2.2.2.2.2.2.2.2.2.1
  have hk14 := fun W hb => (K W hb).2.2.2.2.2.2.2.2.2.2.2.2.2.2.1
  have hk15 := fun W hb => (K W hb).2.2.2.2.2.2.2.2.2.2.2.2.2.2.2.1
  have hk16 := fun W hb => (K W hb).2.2.2.2.2.2.2.2.2.2.2.2.2.2.2.2.1
  have hk17 := fun W hb => (K W hb).2.2.2.2.2.2.2.2.2.2.2.2.2.2.2.2.2.1
  have hk18 := fun W hb => (K W hb).2.2.2.2.2.2.2.2.2.2.2.2.2.2.2.2.2.2
  clear K hbox
  rw [← HD.out] at hld0
  have hlen0 : (headB m).length ≤ 3 := by simp [headB]
  generalize headB m = l0 at *
  have HW : Hid (((w.alloc (.cells #[.int .i64 m.kind, .int .i64 m.frm, .int .i64 m.to, .int .u64 (m.call : Int), .int .u64 (m.floor : Int), .int .i64 m.op, .int .i64 m.fld, .int .i64 m.item,
    .int .i64 m.tn, .int .u64 (m.ts : Int), .slice ro m.refs.length rc, .int .u64 (m.val : Int), .int .i64 m.code, .int .u64 (m.seq : Int), .int .i64 m.vou, .int .u64 (m.at_ : Int), .int .i64 m.dist, .int .u64 (m.stamp : Int), .slice lo m.list.length lc] 28)).alloc (.cells #[.int .u8 (m.kind % 256), .int .u8 (m.frm % 256), .int .u8 (m.to % 256)] 5)).alloc (.cells #[.int .i64 m.kind, .slice (some ⟨w.heap.size + 1, 0, none⟩) 3 3] 92) = w0) := hw0.symm
  have HK : Hid (m.kind = 9) := hkd
  clear hw0 HD hkd
  have r0 := Below.refl (w.heap.size + 1) w0
  go_enter Try.func40, Try.ntmps40
  go_wp2_with fail
  rw [HW.out]
  rw [HK.out] at hld0
  simp only [HK.out] at hk0
  refine (lnum_yes w0 (w.heap.size + 2) 9 (.slice (some ⟨w.heap.size + 1, 0, none⟩) 3 3) l0 (w.heap.size + 1) 1 m.call [99, 97, 108, 108] (by unfold Fld; omega) rfl (by have := hm.call; unfold U64 at this; exact this) (by decide +kernel) hld0 (by omega)).mono ?_
  rintro e x1 ⟨rfl, v1, h1, y1⟩
  have hlen1 : (l0 ++ numB m.call).length ≤ 13 := by rw [List.length_append]; have := hlen0; have := numB_len m.call; omega
  have B1 := r0.trans y1
  have q0 := hk0 x1 B1
  have q4 := hk4 x1 B1
  go_wp2_with fail
  clear q0 q4
  refine (lnum_no x1 (w.heap.size + 2) 9 v1 (l0 ++ numB m.call) (w.heap.size + 1) 2 m.floor [102, 108, 111, 111, 114] (by unfold Fld; omega) rfl (by decide +kernel) h1).mono ?_
  rintro e x2 ⟨rfl, h2, y2⟩
  have B2 := B1.trans y2
  have q0 := hk0 x2 B2
  have q7 := hk7 x2 B2
  go_wp2_with fail
  clear q0 q7
  rw [wrap_u64 m.item]
  refine (lnum_yes x2 (w.heap.size + 2) 9 v1 (l0 ++ numB m.call) (w.heap.size + 1) 4 (u64 m.item) [105, 116, 101, 109] (by unfold Fld; omega) rfl (by have := U64.wrap m.item; unfold U64 at this; exact this) (by decide +kernel) h2 (by omega)).mono ?_
  rintro e x3 ⟨rfl, v3, h3, y3⟩
  have hlen3 : ((l0 ++ numB m.call) ++ numB (u64 m.item)).length ≤ 23 := by rw [List.length_append]; have := hlen1; have := numB_len (u64 m.item); omega
  have B3 := B2.trans y3
  have q0 := hk0 x3 B3
  have q5 := hk5 x3 B3
  go_wp2_with fail
  clear q0 q5
  refine (lone_no x3 (w.heap.size + 2) 9 v3 ((l0 ++ numB m.call) ++ numB (u64 m.item)) (w.heap.size + 1) 8 m.op [111, 112] (by unfold Fld; omega) rfl (by decide +kernel) h3).mono ?_
  rintro e x4 ⟨rfl, h4, y4⟩
  have B4 := B3.trans y4
  have q0 := hk0 x4 B4
  have q6 := hk6 x4 B4
  go_wp2_with fail
  clear q0 q6
  refine (lone_no x4 (w.heap.size + 2) 9 v3 ((l0 ++ numB m.call) ++ numB (u64 m.item)) (w.heap.size + 1) 16 m.fld [102, 105, 101, 108, 100] (by unfold Fld; omega) rfl (by decide +kernel) h4).mono ?_
  rintro e x5 ⟨rfl, h5, y5⟩
  have B5 := B4.trans y5
  have q0 := hk0 x5 B5
  have q12 := hk12 x5 B5
  go_wp2_with fail
  clear q0 q12
  refine (lone_yes x5 (w.heap.size + 2) 9 v3 ((l0 ++ numB m.call) ++ numB (u64 m.item)) (w.heap.size + 1) 1024 m.code [99, 111, 100, 101] (by unfold Fld; omega) rfl (by decide +kernel) h5 (by omega)).mono ?_
  rintro e x6 ⟨rfl, v6, h6, y6⟩
  have hlen6 : (((l0 ++ numB m.call) ++ numB (u64 m.item)) ++ [u8 m.code]).length ≤ 33 := by rw [List.length_append]; have := hlen3; have : ([u8 m.code] : List UInt8).length = 1 := rfl; omega
  have B6 := B5.trans y6
  have q0 := hk0 x6 B6
  have q8 := hk8 x6 B6
  have q9 := hk9 x6 B6
  go_wp2_with fail
  clear q0 q8 q9
  refine (rhas_any 9 32 (by unfold Fld; omega) [116, 97, 114, 103, 101, 116] rfl x6).mono ?_
  rintro e x7 ⟨rfl, y7⟩
  rw [show hasB 9 32 = false from by decide +kernel]
  have h7 := h6.below y7
  have B7 := B6.trans (y7.mono (by have := B6.size; omega))
  have q0 := hk0 x7 B7
  have q11 := hk11 x7 B7
  go_wp2_with fail
  clear q0 q11
  refine (lnum_no x7 (w.heap.size + 2) 9 v6 (((l0 ++ numB m.call) ++ numB (u64 m.item)) ++ [u8 m.code]) (w.heap.size + 1) 2048 m.val [118, 97, 108, 117, 101] (by unfold Fld; omega) rfl (by decide +kernel) h7).mono ?_
  rintro e x8 ⟨rfl, h8, y8⟩
  have B8 := B7.trans y8
  have q0 := hk0 x8 B8
  go_wp2_with fail
  clear q0
  refine (rhas_any 9 4096 (by unfold Fld; omega) [114, 101, 102, 115] rfl x8).mono ?_
  rintro e x9 ⟨rfl, y9⟩
  rw [show hasB 9 4096 = false from by decide +kernel]
  have h9 := h8.below y9
  have B9 := B8.trans (y9.mono (by have := B8.size; omega))
  have q0 := hk0 x9 B9
  have q13 := hk13 x9 B9
  go_wp2_with fail
  clear q0 q13
  refine (lnum_no x9 (w.heap.size + 2) 9 v6 (((l0 ++ numB m.call) ++ numB (u64 m.item)) ++ [u8 m.code]) (w.heap.size + 1) 64 m.seq [115, 101, 113] (by unfold Fld; omega) rfl (by decide +kernel) h9).mono ?_
  rintro e x10 ⟨rfl, h10, y10⟩
  have B10 := B9.trans y10
  have q0 := hk0 x10 B10
  have q14 := hk14 x10 B10
  go_wp2_with fail
  clear q0 q14
  refine (lone_no x10 (w.heap.size + 2) 9 v6 (((l0 ++ numB m.call) ++ numB (u64 m.item)) ++ [u8 m.code]) (w.heap.size + 1) 128 m.vou [118, 111, 117, 99, 104, 101, 114] (by unfold Fld; omega) rfl (by decide +kernel) h10).mono ?_
  rintro e x11 ⟨rfl, h11, y11⟩
  have B11 := B10.trans y11
  have q0 := hk0 x11 B11
  have q15 := hk15 x11 B11
  go_wp2_with fail
  clear q0 q15
  refine (lnum_no x11 (w.heap.size + 2) 9 v6 (((l0 ++ numB m.call) ++ numB (u64 m.item)) ++ [u8 m.code]) (w.heap.size + 1) 256 m.at_ [97, 116] (by unfold Fld; omega) rfl (by decide +kernel) h11).mono ?_
  rintro e x12 ⟨rfl, h12, y12⟩
  have B12 := B11.trans y12
  have q0 := hk0 x12 B12
  have q16 := hk16 x12 B12
  go_wp2_with fail
  clear q0 q16
  refine (lone_no x12 (w.heap.size + 2) 9 v6 (((l0 ++ numB m.call) ++ numB (u64 m.item)) ++ [u8 m.code]) (w.heap.size + 1) 512 m.dist [100, 105, 115, 116] (by unfold Fld; omega) rfl (by decide +kernel) h12).mono ?_
  rintro e x13 ⟨rfl, h13, y13⟩
  have B13 := B12.trans y13
  have q0 := hk0 x13 B13
  have q17 := hk17 x13 B13
  go_wp2_with fail
  clear q0 q17
  refine (lnum_yes x13 (w.heap.size + 2) 9 v6 (((l0 ++ numB m.call) ++ numB (u64 m.item)) ++ [u8 m.code]) (w.heap.size + 1) 8192 m.stamp [115, 116, 97, 109, 112] (by unfold Fld; omega) rfl (by have := hm.stamp; unfold U64 at this; exact this) (by decide +kernel) h13 (by omega)).mono ?_
  rintro e x14 ⟨rfl, v14, h14, y14⟩
  have hlen14 : ((((l0 ++ numB m.call) ++ numB (u64 m.item)) ++ [u8 m.code]) ++ numB m.stamp).length ≤ 43 := by rw [List.length_append]; have := hlen6; have := numB_len m.stamp; omega
  have B14 := B13.trans y14
  have q0 := hk0 x14 B14
  go_wp2_with fail
  clear q0
  refine (rhas_any 9 16384 (by unfold Fld; omega) [108, 105, 115, 116] rfl x14).mono ?_
  rintro e x15 ⟨rfl, y15⟩
  rw [show hasB 9 16384 = true from by decide +kernel]
  have h15 := h14.below y15
  have B15 := B14.trans (y15.mono (by have := B14.size; omega))
  go_wp2_with fail
  obtain ⟨L16, hL16⟩ : ∃ y, y = ((((l0 ++ numB m.call) ++ numB (u64 m.item)) ++ [u8 m.code]) ++ numB m.stamp) := ⟨_, rfl⟩
  rw [← hL16] at h15 hlen14
  have HL16 : Hid (L16 = ((((l0 ++ numB m.call) ++ numB (u64 m.item)) ++ [u8 m.code]) ++ numB m.stamp)) := hL16
  clear hL16
  have hnl := numB_len m.list.length
  have hln : m.list.length < 18446744073709551616 := by omega
  have HW1 : Hid (IntKind.u64.wrap (m.list.length : Int) = (m.list.length : Int)) := by show _ = _; rw [wrap_u64]; unfold u64; omega
  have HW2 : Hid ((m.list.length : Int) % 18446744073709551616 = (m.list.length : Int)) := by show _ = _; omega
  have hli : (m.list.length : Int) ≤ 9223372036854775807 := by omega
  obtain ⟨i, hi, hy0, hy1, hy2⟩ := info_parts Try.infoByte
  obtain ⟨ao, n0, c, hv⟩ := ld_form h15
  subst hv
  have hd : Below x15.heap.size x15 x15.drew := (Below.refl _ _).drew
  have hA := h15.below hd
  have dA := hA.c1
  have BA := B15.trans (hd.mono (by have := B15.size; omega))
  have q18 := hk18 x15.drew BA
  go_cut [3] from 124 (fun a wc => a = .pointer (some ⟨w.heap.size + 2, 0, none⟩) ∧ (∃ v1, LD wc (w.heap.size + 2) 9 v1 (L16 ++ numB m.list.length) (w.heap.size + 1)) ∧ Below (w.heap.size + 1) w0 wc)
  case first =>
    go_region_law (first
      | (refine step_append_bs rfl (.tmp 128) (.tmp 133) 29 rfl (w.heap.size + 1) 5 i Try.underlying29 hi hy0 hy1 hy2 (.slice ao n0 c) L16.length L16 rfl rfl hC.own _ rfl (numB m.list.length) hs2 (by omega) (by have := hC.size; omega) ?_; intro v4 w4 ho4 hk4 hm4; obtain ⟨ao4, n4, c4, hv4⟩ := own_form ho4; subst hv4; have hb4 := (hk4.block (w.heap.size + 2) hC.size hC.ne).trans hC.box; have e1 := cell_of_row w4 (w.heap.size + 2) 1 _ _ _ hb4; have e2 := frozen_of_row w4 (w.heap.size + 2) 1 _ _ hb4)
      | (go_simp; go_wp2_with (go_at_call 70; (first | rw [HW1.out] | rw [HW2.out]); refine (refNum_any m.list.length hln _).mono ?_; rintro e w2 ⟨v2, rfl, ho2, hb2⟩; have hC := hA.below hb2; have dC := hC.c1; obtain ⟨ao2, n2, c2, hv2⟩ := own_form ho2; subst hv2; have hs2 := Bs.ofOwns ho2)))
    all_goals
      go_wp2
      go_meet
      have hst := hC.stored ho4 hk4 hm4
      exact ⟨rfl, ⟨_, hst.1⟩, BA.trans ((hb2.mono (by have := BA.size; omega)).trans hst.2)⟩
  case rest =>
    obtain ⟨rfl, ⟨v16, h16⟩, B16⟩ := hcut
    clear hA dA BA q18 hd
    obtain ⟨wd, hwd⟩ : ∃ x, x = wc := ⟨_, rfl⟩
    subst hwd
    go_wp2_with fail
    go_loopw [5] (fun i wr => ∃ (k : Nat) (vv : Value), k ≤ m.list.length ∧ i = .int .i64 (k : Int) ∧ LD wr (w.heap.size + 2) 9 vv (L16 ++ numB m.list.length ++ (m.list.take k).flatMap numB) (w.heap.size + 1) ∧ Below (w.heap.size + 1) w0 wr) (fun i _ => m.list.length - (intOf i).toNat)
    case atStart => exact ⟨0, v16, Nat.zero_le _, rfl, by simpa using h16, B16⟩
    case round =>
      obtain ⟨k, vv, hk, rfl, hto, hbr⟩ := hrel
      have hzr := hbr.size
      have a18 := hk18 wr hbr
      by_cases hlt : k < m.list.length
      · obtain ⟨blk, off, rfl, hblk, hat⟩ := hl (by intro e; rw [e] at hlt; simp at hlt)
        have hdr : Below wr.heap.size wr wr.drew := (Below.refl _ _).drew
        have hbd : Below (w.heap.size + 1) w0 wr.drew := hbr.trans (hdr.mono (by omega))
        have hbw : Below w.heap.size w wr.drew := hb0.trans (hbd.mono (by omega))
        have y0 := (hbw.cell (p := ⟨blk, off + k, none⟩) hblk).trans (hat k hlt)
        have b18 := hk18 wr.drew hbd
        have hux : m.list[k] < 18446744073709551616 := by have := hm.list m.list[k] (List.getElem_mem hlt); unfold U64 at this; exact this
        have HF : Hid ((m.list.take (k + 1)).flatMap numB = (m.list.take k).flatMap numB ++ numB m.list[k]) := flat_step numB m.list k hlt
        have hfl : ((m.list.take k).flatMap numB).length ≤ 10 * m.list.length := Nat.le_trans (flat_len numB 10 _ numB_len) (Nat.mul_le_mul_left _ (by simp; omega))
        have HLL : Hid ((L16 ++ numB m.list.length ++ (m.list.take k).flatMap numB).length + 20 ≤ 140737488355328) := by show _ ≤ _; simp only [List.length_append]; omega
        clear hat hl hfl
        generalize m.list[k] = z at *
        have hzl := numB_len z
        have HLM := HLL.out
        obtain ⟨LL, hLL⟩ : ∃ y, y = L16 ++ numB m.list.length ++ (m.list.take k).flatMap numB := ⟨_, rfl⟩
        rw [← hLL] at hto HLM
        have HE : Hid (LL = L16 ++ numB m.list.length ++ (m.list.take k).flatMap numB) := hLL
        clear hLL HLL
        obtain ⟨ao1, n1, c1, hv1⟩ := ld_form hto
        subst hv1
        have hA := hto.below hdr
        have dA := hA.c1
        go_upto_block 3 with fail
        go_cut [] from 137 to 157 (fun wc => (∃ v1, LD wc (w.heap.size + 2) 9 v1 (LL ++ numB z) (w.heap.size + 1)) ∧ Below (w.heap.size + 1) w0 wc)
        case first =>
          go_wp2_with fail
          go_region_law (first
            | (refine step_append_bs rfl (.tmp 148) (.tmp 154) 29 rfl (w.heap.size + 1) 5 i Try.underlying29 hi hy0 hy1 hy2 (.slice ao1 n1 c1) LL.length LL rfl rfl hC.own _ rfl (numB z) hs2 (by omega) (by have := hC.size; omega) ?_; intro v4 w4 ho4 hk4 hm4; obtain ⟨ao4, n4, c4, hv4⟩ := own_form ho4; subst hv4; have hb4 := (hk4.block (w.heap.size + 2) hC.size hC.ne).trans hC.box; have e1 := cell_of_row w4 (w.heap.size + 2) 1 _ _ _ hb4; have e2 := frozen_of_row w4 (w.heap.size + 2) 1 _ _ hb4)
            | (go_simp; go_wp2_with (go_at_call 70; refine (refNum_any z hux _).mono ?_; rintro e w2 ⟨v2, rfl, ho2, hb2⟩; have hC := hA.below hb2; have dC := hC.c1; obtain ⟨ao2, n2, c2, hv2⟩ := own_form ho2; subst hv2; have hs2 := Bs.ofOwns ho2)))
          all_goals
            go_wp2
            go_meet
            have hst := hC.stored ho4 hk4 hm4
            exact ⟨⟨_, hst.1⟩, hbd.trans ((hb2.mono (by have := hbd.size; omega)).trans hst.2)⟩
        case rest =>
          obtain ⟨⟨v9, hst⟩, hb9⟩ := hcut
          clear hA dA b18 y0 hbw hbd hdr hto hbr a18
          go_wp2
          refine ⟨⟨k + 1, v9, by omega, by go_num, ?_, hb9⟩, ?_⟩
          · rw [HF.out, ← List.append_assoc, ← HE.out]
            exact hst
          · simp [intOf]; omega
      · have hkl : k = m.list.length := by omega
        rw [hkl, List.take_length] at hto
        have hlm16 : (L16 ++ numB m.list.length ++ m.list.flatMap numB).length ≤ 11000143 := by
          have := flat_len numB 10 m.list numB_len
          have := hlen14
          simp only [List.length_append]
          omega
        clear hkl hl
        obtain ⟨we, hwe⟩ : ∃ x, x = wr := ⟨_, rfl⟩
        subst hwe
        have B17 := hbr
        obtain ⟨ao, nn, cc, hv⟩ := ld_form hto
        subst hv
        have d1 := hto.c1
        go_wp2
        go_ret
        refine ⟨_, rfl, ?_, hb0.trans (B17.mono (by omega))⟩
        rw [HP.out]
        rw [layListB, ← List.append_assoc, ← HL16.out]
        exact Bs.ofOwns hto.own

end Go.Proofs.Ytcpegfjjdojinaa
