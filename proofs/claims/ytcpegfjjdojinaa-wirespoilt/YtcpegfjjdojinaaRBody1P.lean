import Derived.Test.YtcpegfjjdojinaaRLaid3P
/- The plain body of a message of Kind 1: its walk. -/
/- The plain body of a message of Kind 2: its walk. -/
namespace Go.Proofs.Ytcpegfjjdojinaa
open Go.RowKit

set_option maxRecDepth 40000 in
set_option maxHeartbeats 16000000 in
theorem rbody_1 (m : Msg) (ro lo : Option Addr) (rc lc : Nat) (w : World) (hm : m.Ok) (hr : IDs w ro m.refs) (hrl : m.refs.length ≤ 1000000) (hkd : m.kind = 1) :
    Calls Try.prog 40 #[m.v ro lo rc lc] w fun e w' => ∃ v', e = .returned v' ∧ Bs w' v' (partsB m) ∧ Below w.heap.size w w' := by
  have HP : Hid (partsB m = headB m ++ numB m.call ++ numB m.floor ++ [u8 m.op] ++ [u8 m.fld] ++ layIDB (m.tn, m.ts) ++ numB m.val ++ layIDsB m.refs) := parts_1 hkd
  have HD : Hid (headB m = [u8 m.kind, u8 m.frm, u8 m.to]) := rfl
  generalize partsB m = G at *
  have hbox := MBox.new w m ro lo rc lc
  obtain ⟨w0, hw0⟩ : ∃ w0, w0 = ((w.alloc (.cells #[.int .i64 m.kind, .int .i64 m.frm, .int .i64 m.to, .int .u64 (m.call : Int), .int .u64 (m.floor : Int), .int .i64 m.op, .int .i64 m.fld, .int .i64 m.item,
    .int .i64 m.tn, .int .u64 (m.ts : Int), .slice ro m.refs.length rc, .int .u64 (m.val : Int), .int .i64 m.code, .int .u64 (m.seq : Int), .int .i64 m.vou, .int .u64 (m.at_ : Int), .int .i64 m.dist, .int .u64 (m.stamp : Int), .slice lo m.list.length lc] 28)).alloc (.cells #[.int .u8 (m.kind % 256), .int .u8 (m.frm % 256), .int .u8 (m.to % 256)] 5)).alloc (.cells #[.int .i64 m.kind, .slice (some ⟨w.heap.size + 1, 0, none⟩) 3 3] 92) := ⟨_, rfl⟩
  obtain ⟨hb0, hld0, hbx0⟩ := body_start w m (.cells #[.int .i64 m.kind, .int .i64 m.frm, .int .i64 m.to, .int .u64 (m.call : Int), .int .u64 (m.floor : Int), .int .i64 m.op, .int .i64 m.fld, .int .i64 m.item,
    .int .i64 m.tn, .int .u64 (m.ts : Int), .slice ro m.refs.length rc, .int .u64 (m.val : Int), .int .i64 m.code, .int .u64 (m.seq : Int), .int .i64 m.vou, .int .u64 (m.at_ : Int), .int .i64 m.dist, .int .u64 (m.stamp : Int), .slice lo m.list.length lc] 28) w0 hw0
  have hs0 : w0.heap.size = w.heap.size + 3 := by rw [hw0]; simp
  have K := fun W hb => (MBox.later (B := w.heap.size + 1) hbx0 (by omega) W hb).cells
  have hk0 := fun W hb => (K W hb).1
  have hk3 := fun W hb => (K W hb).2.2.2.1
  have hk4 := fun W hb => (K W hb).2.2.2.2.1
  have hk5 := fun W hb => (K W hb).2.2.2.2.2.1
  have hk6 := fun W hb => (K W hb).2.2.2.2.2.2.1
  have hk7 := fun W hb => (K W hb).2.2.2.2.2.2.2.1
  have hk8 := fun W hb => (K W hb).2.2.2.2.2.2.2.2.1
  have hk9 := fun W hb => (K W hb).2.2.2.2.2.2.2.2.2.1
  have hk10 := fun W hb => (K W hb).2.2.2.2.2.2.2.2.2.2.1
  have hk11 := fun W hb => (K W hb).2.2.2.2.2.2.2.2.2.2.2.1
  have hk12 := fun W hb => (K W hb).2.2.2.2.2.2.2.2.2.2.2.2.1
  have hk13 := fun W hb => (K W hb).2.2.2.2.2.2.2.2.2.2.2.2.2.1
  have hk14 := fun W hb => (K W hb).2.2.2.2.2.2.2.2.2.2.2.2.2.2.1
  have hk15 := fun W hb => (K W hb).2.2.2.2.2.2.2.2.2.2.2.2.2.2.2.1
  have hk16 := fun W hb => (K W hb).2.2.2.2.2.2.2.2.2.2.2.2.2.2.2.2.1
  have hk17 := fun W hb => (K W hb).2.2.2.2.2.2.2.2.2.2.2.2.2.2.2.2.2.1
  clear K hbox
  rw [← HD.out] at hld0
  have hlen0 : (headB m).length ≤ 3 := by simp [headB]
  generalize headB m = l0 at *
  have HW : Hid (((w.alloc (.cells #[.int .i64 m.kind, .int .i64 m.frm, .int .i64 m.to, .int .u64 (m.call : Int), .int .u64 (m.floor : Int), .int .i64 m.op, .int .i64 m.fld, .int .i64 m.item,
    .int .i64 m.tn, .int .u64 (m.ts : Int), .slice ro m.refs.length rc, .int .u64 (m.val : Int), .int .i64 m.code, .int .u64 (m.seq : Int), .int .i64 m.vou, .int .u64 (m.at_ : Int), .int .i64 m.dist, .int .u64 (m.stamp : Int), .slice lo m.list.length lc] 28)).alloc (.cells #[.int .u8 (m.kind % 256), .int .u8 (m.frm % 256), .int .u8 (m.to % 256)] 5)).alloc (.cells #[.int .i64 m.kind, .slice (some ⟨w.heap.size + 1, 0, none⟩) 3 3] 92) = w0) := hw0.symm
  have HK : Hid (m.kind = 1) := hkd
  clear hw0 HD hkd
  have r0 := Below.refl (w.heap.size + 1) w0
  go_enter Try.func40, Try.ntmps40
  go_wp2_with fail
  rw [HW.out]
  rw [HK.out] at hld0
  simp only [HK.out] at hk0
  refine (lnum_yes w0 (w.heap.size + 2) 1 (.slice (some ⟨w.heap.size + 1, 0, none⟩) 3 3) l0 (w.heap.size + 1) 1 m.call [99, 97, 108, 108] (by unfold Fld; omega) rfl (by have := hm.call; unfold U64 at this; exact this) (by decide +kernel) hld0 (by omega)).mono ?_
  rintro e x1 ⟨rfl, v1, h1, y1⟩
  have hlen1 : (l0 ++ numB m.call).length ≤ 13 := by rw [List.length_append]; have := hlen0; have := numB_len m.call; omega
  have B1 := r0.trans y1
  have q0 := hk0 x1 B1
  have q4 := hk4 x1 B1
  go_wp2_with fail
  clear q0 q4
  refine (lnum_yes x1 (w.heap.size + 2) 1 v1 (l0 ++ numB m.call) (w.heap.size + 1) 2 m.floor [102, 108, 111, 111, 114] (by unfold Fld; omega) rfl (by have := hm.floor; unfold U64 at this; exact this) (by decide +kernel) h1 (by omega)).mono ?_
  rintro e x2 ⟨rfl, v2, h2, y2⟩
  have hlen2 : ((l0 ++ numB m.call) ++ numB m.floor).length ≤ 23 := by rw [List.length_append]; have := hlen1; have := numB_len m.floor; omega
  have B2 := B1.trans y2
  have q0 := hk0 x2 B2
  have q7 := hk7 x2 B2
  go_wp2_with fail
  clear q0 q7
  rw [wrap_u64 m.item]
  refine (lnum_no x2 (w.heap.size + 2) 1 v2 ((l0 ++ numB m.call) ++ numB m.floor) (w.heap.size + 1) 4 (u64 m.item) [105, 116, 101, 109] (by unfold Fld; omega) rfl (by decide +kernel) h2).mono ?_
  rintro e x3 ⟨rfl, h3, y3⟩
  have B3 := B2.trans y3
  have q0 := hk0 x3 B3
  have q5 := hk5 x3 B3
  go_wp2_with fail
  clear q0 q5
  refine (lone_yes x3 (w.heap.size + 2) 1 v2 ((l0 ++ numB m.call) ++ numB m.floor) (w.heap.size + 1) 8 m.op [111, 112] (by unfold Fld; omega) rfl (by decide +kernel) h3 (by omega)).mono ?_
  rintro e x4 ⟨rfl, v4, h4, y4⟩
  have hlen4 : (((l0 ++ numB m.call) ++ numB m.floor) ++ [u8 m.op]).length ≤ 33 := by rw [List.length_append]; have := hlen2; have : ([u8 m.op] : List UInt8).length = 1 := rfl; omega
  have B4 := B3.trans y4
  have q0 := hk0 x4 B4
  have q6 := hk6 x4 B4
  go_wp2_with fail
  clear q0 q6
  refine (lone_yes x4 (w.heap.size + 2) 1 v4 (((l0 ++ numB m.call) ++ numB m.floor) ++ [u8 m.op]) (w.heap.size + 1) 16 m.fld [102, 105, 101, 108, 100] (by unfold Fld; omega) rfl (by decide +kernel) h4 (by omega)).mono ?_
  rintro e x5 ⟨rfl, v5, h5, y5⟩
  have hlen5 : ((((l0 ++ numB m.call) ++ numB m.floor) ++ [u8 m.op]) ++ [u8 m.fld]).length ≤ 43 := by rw [List.length_append]; have := hlen4; have : ([u8 m.fld] : List UInt8).length = 1 := rfl; omega
  have B5 := B4.trans y5
  have q0 := hk0 x5 B5
  have q8 := hk8 x5 B5
  have q9 := hk9 x5 B5
  go_wp2_with fail
  clear q0 q8 q9
  refine (rhas_any 1 32 (by unfold Fld; omega) [116, 97, 114, 103, 101, 116] rfl x5).mono ?_
  rintro e x6 ⟨rfl, y6⟩
  rw [show hasB 1 32 = true from by decide +kernel]
  have h6 := h5.below y6
  have B6 := B5.trans (y6.mono (by have := B5.size; omega))
  have q8 := hk8 x6 B6
  have q9 := hk9 x6 B6
  go_wp2_with fail
  clear q8 q9
  refine (lid_any x6 (w.heap.size + 2) 1 v5 ((((l0 ++ numB m.call) ++ numB m.floor) ++ [u8 m.op]) ++ [u8 m.fld]) (w.heap.size + 1) (m.tn, m.ts) hm.ts h6 (by omega)).mono ?_
  rintro e x7 ⟨rfl, v7, h7, y7⟩
  have hlen7 : (((((l0 ++ numB m.call) ++ numB m.floor) ++ [u8 m.op]) ++ [u8 m.fld]) ++ layIDB (m.tn, m.ts)).length ≤ 63 := by rw [List.length_append]; have := hlen5; have := layIDB_len (m.tn, m.ts); omega
  have B7 := B6.trans y7
  have q0 := hk0 x7 B7
  have q11 := hk11 x7 B7
  go_wp2_with fail
  clear q0 q11
  refine (lnum_yes x7 (w.heap.size + 2) 1 v7 (((((l0 ++ numB m.call) ++ numB m.floor) ++ [u8 m.op]) ++ [u8 m.fld]) ++ layIDB (m.tn, m.ts)) (w.heap.size + 1) 2048 m.val [118, 97, 108, 117, 101] (by unfold Fld; omega) rfl (by have := hm.val; unfold U64 at this; exact this) (by decide +kernel) h7 (by omega)).mono ?_
  rintro e x8 ⟨rfl, v8, h8, y8⟩
  have hlen8 : ((((((l0 ++ numB m.call) ++ numB m.floor) ++ [u8 m.op]) ++ [u8 m.fld]) ++ layIDB (m.tn, m.ts)) ++ numB m.val).length ≤ 73 := by rw [List.length_append]; have := hlen7; have := numB_len m.val; omega
  have B8 := B7.trans y8
  have q0 := hk0 x8 B8
  go_wp2_with fail
  clear q0
  refine (rhas_any 1 4096 (by unfold Fld; omega) [114, 101, 102, 115] rfl x8).mono ?_
  rintro e x9 ⟨rfl, y9⟩
  rw [show hasB 1 4096 = true from by decide +kernel]
  have h9 := h8.below y9
  have B9 := B8.trans (y9.mono (by have := B8.size; omega))
  go_wp2_with fail
  obtain ⟨L10, hL10⟩ : ∃ y, y = ((((((l0 ++ numB m.call) ++ numB m.floor) ++ [u8 m.op]) ++ [u8 m.fld]) ++ layIDB (m.tn, m.ts)) ++ numB m.val) := ⟨_, rfl⟩
  rw [← hL10] at h9 hlen8
  have HL10 : Hid (L10 = ((((((l0 ++ numB m.call) ++ numB m.floor) ++ [u8 m.op]) ++ [u8 m.fld]) ++ layIDB (m.tn, m.ts)) ++ numB m.val)) := hL10
  clear hL10
  have hnl := numB_len m.refs.length
  have hln : m.refs.length < 18446744073709551616 := by omega
  have HW1 : Hid (IntKind.u64.wrap (m.refs.length : Int) = (m.refs.length : Int)) := by show _ = _; rw [wrap_u64]; unfold u64; omega
  have HW2 : Hid ((m.refs.length : Int) % 18446744073709551616 = (m.refs.length : Int)) := by show _ = _; omega
  have hli : (m.refs.length : Int) ≤ 9223372036854775807 := by omega
  obtain ⟨i, hi, hy0, hy1, hy2⟩ := info_parts Try.infoByte
  obtain ⟨ao, n0, c, hv⟩ := ld_form h9
  subst hv
  have hd : Below x9.heap.size x9 x9.drew := (Below.refl _ _).drew
  have hA := h9.below hd
  have dA := hA.c1
  have BA := B9.trans (hd.mono (by have := B9.size; omega))
  have q10 := hk10 x9.drew BA
  go_cut [3] from 67 (fun a wc => a = .pointer (some ⟨w.heap.size + 2, 0, none⟩) ∧ (∃ v1, LD wc (w.heap.size + 2) 1 v1 (L10 ++ numB m.refs.length) (w.heap.size + 1)) ∧ Below (w.heap.size + 1) w0 wc)
  case first =>
    go_region_law (first
      | (refine step_append_bs rfl (.tmp 71) (.tmp 76) 29 rfl (w.heap.size + 1) 5 i Try.underlying29 hi hy0 hy1 hy2 (.slice ao n0 c) L10.length L10 rfl rfl hC.own _ rfl (numB m.refs.length) hs2 (by omega) (by have := hC.size; omega) ?_; intro v4 w4 ho4 hk4 hm4; obtain ⟨ao4, n4, c4, hv4⟩ := own_form ho4; subst hv4; have hb4 := (hk4.block (w.heap.size + 2) hC.size hC.ne).trans hC.box; have e1 := cell_of_row w4 (w.heap.size + 2) 1 _ _ _ hb4; have e2 := frozen_of_row w4 (w.heap.size + 2) 1 _ _ hb4)
      | (go_simp; go_wp2_with (go_at_call 70; (first | rw [HW1.out] | rw [HW2.out]); refine (refNum_any m.refs.length hln _).mono ?_; rintro e w2 ⟨v2, rfl, ho2, hb2⟩; have hC := hA.below hb2; have dC := hC.c1; obtain ⟨ao2, n2, c2, hv2⟩ := own_form ho2; subst hv2; have hs2 := Bs.ofOwns ho2)))
    all_goals
      go_wp2
      go_meet
      have hst := hC.stored ho4 hk4 hm4
      exact ⟨rfl, ⟨_, hst.1⟩, BA.trans ((hb2.mono (by have := BA.size; omega)).trans hst.2)⟩
  case rest =>
    obtain ⟨rfl, ⟨v10, h10⟩, B10⟩ := hcut
    clear hA dA BA q10 hd
    obtain ⟨wd, hwd⟩ : ∃ x, x = wc := ⟨_, rfl⟩
    subst hwd
    go_wp2_with fail
    go_loopw [4] (fun i wr => ∃ (k : Nat) (vv : Value), k ≤ m.refs.length ∧ i = .int .i64 (k : Int) ∧ LD wr (w.heap.size + 2) 1 vv (L10 ++ numB m.refs.length ++ (m.refs.take k).flatMap layIDB) (w.heap.size + 1) ∧ Below (w.heap.size + 1) w0 wr) (fun i _ => m.refs.length - (intOf i).toNat)
    case atStart => exact ⟨0, v10, Nat.zero_le _, rfl, by simpa using h10, B10⟩
    case round =>
      obtain ⟨k, vv, hk, rfl, hto, hbr⟩ := hrel
      have hzr := hbr.size
      have a10 := hk10 wr hbr
      by_cases hlt : k < m.refs.length
      · obtain ⟨blk, off, rfl, hblk, hat⟩ := hr (by intro e; rw [e] at hlt; simp at hlt)
        have hbw : Below w.heap.size w wr := hb0.trans (hbr.mono (by omega))
        have y0 := (hbw.cell (p := ⟨blk, off + k * 2, none⟩) hblk).trans (hat k hlt).1
        have y1 := (hbw.cell (p := ⟨blk, off + k * 2 + 1, none⟩) hblk).trans (hat k hlt).2
        have hux : U64 m.refs[k].2 := (hm.refs m.refs[k] (List.getElem_mem hlt)).2
        have HF : Hid ((m.refs.take (k + 1)).flatMap layIDB = (m.refs.take k).flatMap layIDB ++ layIDB m.refs[k]) := flat_step layIDB m.refs k hlt
        have hfl : ((m.refs.take k).flatMap layIDB).length ≤ 11 * m.refs.length := Nat.le_trans (flat_len layIDB 11 _ layIDB_len) (Nat.mul_le_mul_left _ (by simp; omega))
        have HLL : Hid ((L10 ++ numB m.refs.length ++ (m.refs.take k).flatMap layIDB).length + 20 ≤ 140737488355328) := by show _ ≤ _; simp only [List.length_append]; omega
        clear hat hr hfl
        generalize m.refs[k] = z at *
        go_wp2_with (go_at_call 69; refine (lid_any _ (w.heap.size + 2) 1 vv _ (w.heap.size + 1) z hux hto HLL.out).mono ?_; rintro e w2 ⟨rfl, v2, hto2, hb2⟩)
        go_roundw
        case rel =>
          refine ⟨k + 1, v2, by omega, by go_num, ?_, hbr.trans hb2⟩
          rw [HF.out, ← List.append_assoc]
          exact hto2
        case measure => simp [intOf]; omega
      · have hkl : k = m.refs.length := by omega
        rw [hkl, List.take_length] at hto
        have hlm10 : (L10 ++ numB m.refs.length ++ m.refs.flatMap layIDB).length ≤ 11000173 := by
          have := flat_len layIDB 11 m.refs layIDB_len
          have := hlen8
          simp only [List.length_append]
          omega
        clear hkl hr
        obtain ⟨we, hwe⟩ : ∃ x, x = wr := ⟨_, rfl⟩
        subst hwe
        have B11 := hbr
        have q0 := hk0 we B11
        have q13 := hk13 we B11
        go_wp2_with fail
        clear q0 q13
        refine (lnum_no we (w.heap.size + 2) 1 vv (L10 ++ numB m.refs.length ++ m.refs.flatMap layIDB) (w.heap.size + 1) 64 m.seq [115, 101, 113] (by unfold Fld; omega) rfl (by decide +kernel) hto).mono ?_
        rintro e x12 ⟨rfl, h12, y12⟩
        have B12 := B11.trans y12
        have q0 := hk0 x12 B12
        have q14 := hk14 x12 B12
        go_wp2_with fail
        clear q0 q14
        refine (lone_no x12 (w.heap.size + 2) 1 vv (L10 ++ numB m.refs.length ++ m.refs.flatMap layIDB) (w.heap.size + 1) 128 m.vou [118, 111, 117, 99, 104, 101, 114] (by unfold Fld; omega) rfl (by decide +kernel) h12).mono ?_
        rintro e x13 ⟨rfl, h13, y13⟩
        have B13 := B12.trans y13
        have q0 := hk0 x13 B13
        have q15 := hk15 x13 B13
        go_wp2_with fail
        clear q0 q15
        refine (lnum_no x13 (w.heap.size + 2) 1 vv (L10 ++ numB m.refs.length ++ m.refs.flatMap layIDB) (w.heap.size + 1) 256 m.at_ [97, 116] (by unfold Fld; omega) rfl (by decide +kernel) h13).mono ?_
        rintro e x14 ⟨rfl, h14, y14⟩
        have B14 := B13.trans y14
        have q0 := hk0 x14 B14
        have q16 := hk16 x14 B14
        go_wp2_with fail
        clear q0 q16
        refine (lone_no x14 (w.heap.size + 2) 1 vv (L10 ++ numB m.refs.length ++ m.refs.flatMap layIDB) (w.heap.size + 1) 512 m.dist [100, 105, 115, 116] (by unfold Fld; omega) rfl (by decide +kernel) h14).mono ?_
        rintro e x15 ⟨rfl, h15, y15⟩
        have B15 := B14.trans y15
        have q0 := hk0 x15 B15
        have q17 := hk17 x15 B15
        go_wp2_with fail
        clear q0 q17
        refine (lnum_no x15 (w.heap.size + 2) 1 vv (L10 ++ numB m.refs.length ++ m.refs.flatMap layIDB) (w.heap.size + 1) 8192 m.stamp [115, 116, 97, 109, 112] (by unfold Fld; omega) rfl (by decide +kernel) h15).mono ?_
        rintro e x16 ⟨rfl, h16, y16⟩
        have B16 := B15.trans y16
        have q0 := hk0 x16 B16
        go_wp2_with fail
        clear q0
        refine (rhas_any 1 16384 (by unfold Fld; omega) [108, 105, 115, 116] rfl x16).mono ?_
        rintro e x17 ⟨rfl, y17⟩
        rw [show hasB 1 16384 = false from by decide +kernel]
        have h17 := h16.below y17
        have B17 := B16.trans (y17.mono (by have := B16.size; omega))
        obtain ⟨ao, nn, cc, hv⟩ := ld_form h17
        subst hv
        have d1 := h17.c1
        go_wp2
        go_ret
        refine ⟨_, rfl, ?_, hb0.trans (B17.mono (by omega))⟩
        rw [HP.out]
        rw [layIDsB, ← List.append_assoc, ← HL10.out]
        exact Bs.ofOwns h17.own

end Go.Proofs.Ytcpegfjjdojinaa

namespace Go.Proofs.Ytcpegfjjdojinaa
open Go.RowKit

set_option maxRecDepth 40000 in
set_option maxHeartbeats 16000000 in
theorem rbody_2 (m : Msg) (ro lo : Option Addr) (rc lc : Nat) (w : World) (hm : m.Ok) (hr : IDs w ro m.refs) (hrl : m.refs.length ≤ 1000000) (hkd : m.kind = 2) :
    Calls Try.prog 40 #[m.v ro lo rc lc] w fun e w' => ∃ v', e = .returned v' ∧ Bs w' v' (partsB m) ∧ Below w.heap.size w w' := by
  have HP : Hid (partsB m = headB m ++ numB m.call ++ [u8 m.code] ++ numB m.val ++ layIDsB m.refs) := parts_2 hkd
  have HD : Hid (headB m = [u8 m.kind, u8 m.frm, u8 m.to]) := rfl
  generalize partsB m = G at *
  have hbox := MBox.new w m ro lo rc lc
  obtain ⟨w0, hw0⟩ : ∃ w0, w0 = ((w.alloc (.cells #[.int .i64 m.kind, .int .i64 m.frm, .int .i64 m.to, .int .u64 (m.call : Int), .int .u64 (m.floor : Int), .int .i64 m.op, .int .i64 m.fld, .int .i64 m.item,
    .int .i64 m.tn, .int .u64 (m.ts : Int), .slice ro m.refs.length rc, .int .u64 (m.val : Int), .int .i64 m.code, .int .u64 (m.seq : Int), .int .i64 m.vou, .int .u64 (m.at_ : Int), .int .i64 m.dist, .int .u64 (m.stamp : Int), .slice lo m.list.length lc] 28)).alloc (.cells #[.int .u8 (m.kind % 256), .int .u8 (m.frm % 256), .int .u8 (m.to % 256)] 5)).alloc (.cells #[.int .i64 m.kind, .slice (some ⟨w.heap.size + 1, 0, none⟩) 3 3] 92) := ⟨_, rfl⟩
  obtain ⟨hb0, hld0, hbx0⟩ := body_start w m (.cells #[.int .i64 m.kind, .int .i64 m.frm, .int .i64 m.to, .int .u64 (m.call : Int), .int .u64 (m.floor : Int), .int .i64 m.op, .int .i64 m.fld, .int .i64 m.item,
    .int .i64 m.tn, .int .u64 (m.ts : Int), .slice ro m.refs.length rc, .int .u64 (m.val : Int), .int .i64 m.code, .int .u64 (m.seq : Int), .int .i64 m.vou, .int .u64 (m.at_ : Int), .int .i64 m.dist, .int .u64 (m.stamp : Int), .slice lo m.list.length lc] 28) w0 hw0
  have hs0 : w0.heap.size = w.heap.size + 3 := by rw [hw0]; simp
  have K := fun W hb => (MBox.later (B := w.heap.size + 1) hbx0 (by omega) W hb).cells
  have hk0 := fun W hb => (K W hb).1
  have hk3 := fun W hb => (K W hb).2.2.2.1
  have hk4 := fun W hb => (K W hb).2.2.2.2.1
  have hk5 := fun W hb => (K W hb).2.2.2.2.2.1
  have hk6 := fun W hb => (K W hb).2.2.2.2.2.2.1
  have hk7 := fun W hb => (K W hb).2.2.2.2.2.2.2.1
  have hk8 := fun W hb => (K W hb).2.2.2.2.2.2.2.2.1
  have hk9 := fun W hb => (K W hb).2.2.2.2.2.2.2.2.2.1
  have hk10 := fun W hb => (K W hb).2.2.2.2.2.2.2.2.2.2.1
  have hk11 := fun W hb => (K W hb).2.2.2.2.2.2.2.2.2.2.2.1
  have hk12 := fun W hb => (K W hb).2.2.2.2.2.2.2.2.2.2.2.2.1
  have hk13 := fun W hb => (K W hb).2.2.2.2.2.2.2.2.2.2.2.2.2.1
  have hk14 := fun W hb => (K W hb).2.2.2.2.2.2.2.2.2.2.2.2.2.2.1
  have hk15 := fun W hb => (K W hb).2.2.2.2.2.2.2.2.2.2.2.2.2.2.2.1
  have hk16 := fun W hb => (K W hb).2.2.2.2.2.2.2.2.2.2.2.2.2.2.2.2.1
  have hk17 := fun W hb => (K W hb).2.2.2.2.2.2.2.2.2.2.2.2.2.2.2.2.2.1
  clear K hbox
  rw [← HD.out] at hld0
  have hlen0 : (headB m).length ≤ 3 := by simp [headB]
  generalize headB m = l0 at *
  have HW : Hid (((w.alloc (.cells #[.int .i64 m.kind, .int .i64 m.frm, .int .i64 m.to, .int .u64 (m.call : Int), .int .u64 (m.floor : Int), .int .i64 m.op, .int .i64 m.fld, .int .i64 m.item,
    .int .i64 m.tn, .int .u64 (m.ts : Int), .slice ro m.refs.length rc, .int .u64 (m.val : Int), .int .i64 m.code, .int .u64 (m.seq : Int), .int .i64 m.vou, .int .u64 (m.at_ : Int), .int .i64 m.dist, .int .u64 (m.stamp : Int), .slice lo m.list.length lc] 28)).alloc (.cells #[.int .u8 (m.kind % 256), .int .u8 (m.frm % 256), .int .u8 (m.to % 256)] 5)).alloc (.cells #[.int .i64 m.kind, .slice (some ⟨w.heap.size + 1, 0, none⟩) 3 3] 92) = w0) := hw0.symm
  have HK : Hid (m.kind = 2) := hkd
  clear hw0 HD hkd
  have r0 := Below.refl (w.heap.size + 1) w0
  go_enter Try.func40, Try.ntmps40
  go_wp2_with fail
  rw [HW.out]
  rw [HK.out] at hld0
  simp only [HK.out] at hk0
  refine (lnum_yes w0 (w.heap.size + 2) 2 (.slice (some ⟨w.heap.size + 1, 0, none⟩) 3 3) l0 (w.heap.size + 1) 1 m.call [99, 97, 108, 108] (by unfold Fld; omega) rfl (by have := hm.call; unfold U64 at this; exact this) (by decide +kernel) hld0 (by omega)).mono ?_
  rintro e x1 ⟨rfl, v1, h1, y1⟩
  have hlen1 : (l0 ++ numB m.call).length ≤ 13 := by rw [List.length_append]; have := hlen0; have := numB_len m.call; omega
  have B1 := r0.trans y1
  have q0 := hk0 x1 B1
  have q4 := hk4 x1 B1
  go_wp2_with fail
  clear q0 q4
  refine (lnum_no x1 (w.heap.size + 2) 2 v1 (l0 ++ numB m.call) (w.heap.size + 1) 2 m.floor [102, 108, 111, 111, 114] (by unfold Fld; omega) rfl (by decide +kernel) h1).mono ?_
  rintro e x2 ⟨rfl, h2, y2⟩
  have B2 := B1.trans y2
  have q0 := hk0 x2 B2
  have q7 := hk7 x2 B2
  go_wp2_with fail
  clear q0 q7
  rw [wrap_u64 m.item]
  refine (lnum_no x2 (w.heap.size + 2) 2 v1 (l0 ++ numB m.call) (w.heap.size + 1) 4 (u64 m.item) [105, 116, 101, 109] (by unfold Fld; omega) rfl (by decide +kernel) h2).mono ?_
  rintro e x3 ⟨rfl, h3, y3⟩
  have B3 := B2.trans y3
  have q0 := hk0 x3 B3
  have q5 := hk5 x3 B3
  go_wp2_with fail
  clear q0 q5
  refine (lone_no x3 (w.heap.size + 2) 2 v1 (l0 ++ numB m.call) (w.heap.size + 1) 8 m.op [111, 112] (by unfold Fld; omega) rfl (by decide +kernel) h3).mono ?_
  rintro e x4 ⟨rfl, h4, y4⟩
  have B4 := B3.trans y4
  have q0 := hk0 x4 B4
  have q6 := hk6 x4 B4
  go_wp2_with fail
  clear q0 q6
  refine (lone_no x4 (w.heap.size + 2) 2 v1 (l0 ++ numB m.call) (w.heap.size + 1) 16 m.fld [102, 105, 101, 108, 100] (by unfold Fld; omega) rfl (by decide +kernel) h4).mono ?_
  rintro e x5 ⟨rfl, h5, y5⟩
  have B5 := B4.trans y5
  have q0 := hk0 x5 B5
  have q12 := hk12 x5 B5
  go_wp2_with fail
  clear q0 q12
  refine (lone_yes x5 (w.heap.size + 2) 2 v1 (l0 ++ numB m.call) (w.heap.size + 1) 1024 m.code [99, 111, 100, 101] (by unfold Fld; omega) rfl (by decide +kernel) h5 (by omega)).mono ?_
  rintro e x6 ⟨rfl, v6, h6, y6⟩
  have hlen6 : ((l0 ++ numB m.call) ++ [u8 m.code]).length ≤ 23 := by rw [List.length_append]; have := hlen1; have : ([u8 m.code] : List UInt8).length = 1 := rfl; omega
  have B6 := B5.trans y6
  have q0 := hk0 x6 B6
  have q8 := hk8 x6 B6
  have q9 := hk9 x6 B6
  go_wp2_with fail
  clear q0 q8 q9
  refine (rhas_any 2 32 (by unfold Fld; omega) [116, 97, 114, 103, 101, 116] rfl x6).mono ?_
  rintro e x7 ⟨rfl, y7⟩
  rw [show hasB 2 32 = false from by decide +kernel]
  have h7 := h6.below y7
  have B7 := B6.trans (y7.mono (by have := B6.size; omega))
  have q0 := hk0 x7 B7
  have q11 := hk11 x7 B7
  go_wp2_with fail
  clear q0 q11
  refine (lnum_yes x7 (w.heap.size + 2) 2 v6 ((l0 ++ numB m.call) ++ [u8 m.code]) (w.heap.size + 1) 2048 m.val [118, 97, 108, 117, 101] (by unfold Fld; omega) rfl (by have := hm.val; unfold U64 at this; exact this) (by decide +kernel) h7 (by omega)).mono ?_
  rintro e x8 ⟨rfl, v8, h8, y8⟩
  have hlen8 : (((l0 ++ numB m.call) ++ [u8 m.code]) ++ numB m.val).length ≤ 33 := by rw [List.length_append]; have := hlen6; have := numB_len m.val; omega
  have B8 := B7.trans y8
  have q0 := hk0 x8 B8
  go_wp2_with fail
  clear q0
  refine (rhas_any 2 4096 (by unfold Fld; omega) [114, 101, 102, 115] rfl x8).mono ?_
  rintro e x9 ⟨rfl, y9⟩
  rw [show hasB 2 4096 = true from by decide +kernel]
  have h9 := h8.below y9
  have B9 := B8.trans (y9.mono (by have := B8.size; omega))
  go_wp2_with fail
  obtain ⟨L10, hL10⟩ : ∃ y, y = (((l0 ++ numB m.call) ++ [u8 m.code]) ++ numB m.val) := ⟨_, rfl⟩
  rw [← hL10] at h9 hlen8
  have HL10 : Hid (L10 = (((l0 ++ numB m.call) ++ [u8 m.code]) ++ numB m.val)) := hL10
  clear hL10
  have hnl := numB_len m.refs.length
  have hln : m.refs.length < 18446744073709551616 := by omega
  have HW1 : Hid (IntKind.u64.wrap (m.refs.length : Int) = (m.refs.length : Int)) := by show _ = _; rw [wrap_u64]; unfold u64; omega
  have HW2 : Hid ((m.refs.length : Int) % 18446744073709551616 = (m.refs.length : Int)) := by show _ = _; omega
  have hli : (m.refs.length : Int) ≤ 9223372036854775807 := by omega
  obtain ⟨i, hi, hy0, hy1, hy2⟩ := info_parts Try.infoByte
  obtain ⟨ao, n0, c, hv⟩ := ld_form h9
  subst hv
  have hd : Below x9.heap.size x9 x9.drew := (Below.refl _ _).drew
  have hA := h9.below hd
  have dA := hA.c1
  have BA := B9.trans (hd.mono (by have := B9.size; omega))
  have q10 := hk10 x9.drew BA
  go_cut [3] from 67 (fun a wc => a = .pointer (some ⟨w.heap.size + 2, 0, none⟩) ∧ (∃ v1, LD wc (w.heap.size + 2) 2 v1 (L10 ++ numB m.refs.length) (w.heap.size + 1)) ∧ Below (w.heap.size + 1) w0 wc)
  case first =>
    go_region_law (first
      | (refine step_append_bs rfl (.tmp 71) (.tmp 76) 29 rfl (w.heap.size + 1) 5 i Try.underlying29 hi hy0 hy1 hy2 (.slice ao n0 c) L10.length L10 rfl rfl hC.own _ rfl (numB m.refs.length) hs2 (by omega) (by have := hC.size; omega) ?_; intro v4 w4 ho4 hk4 hm4; obtain ⟨ao4, n4, c4, hv4⟩ := own_form ho4; subst hv4; have hb4 := (hk4.block (w.heap.size + 2) hC.size hC.ne).trans hC.box; have e1 := cell_of_row w4 (w.heap.size + 2) 1 _ _ _ hb4; have e2 := frozen_of_row w4 (w.heap.size + 2) 1 _ _ hb4)
      | (go_simp; go_wp2_with (go_at_call 70; (first | rw [HW1.out] | rw [HW2.out]); refine (refNum_any m.refs.length hln _).mono ?_; rintro e w2 ⟨v2, rfl, ho2, hb2⟩; have hC := hA.below hb2; have dC := hC.c1; obtain ⟨ao2, n2, c2, hv2⟩ := own_form ho2; subst hv2; have hs2 := Bs.ofOwns ho2)))
    all_goals
      go_wp2
      go_meet
      have hst := hC.stored ho4 hk4 hm4
      exact ⟨rfl, ⟨_, hst.1⟩, BA.trans ((hb2.mono (by have := BA.size; omega)).trans hst.2)⟩
  case rest =>
    obtain ⟨rfl, ⟨v10, h10⟩, B10⟩ := hcut
    clear hA dA BA q10 hd
    obtain ⟨wd, hwd⟩ : ∃ x, x = wc := ⟨_, rfl⟩
    subst hwd
    go_wp2_with fail
    go_loopw [4] (fun i wr => ∃ (k : Nat) (vv : Value), k ≤ m.refs.length ∧ i = .int .i64 (k : Int) ∧ LD wr (w.heap.size + 2) 2 vv (L10 ++ numB m.refs.length ++ (m.refs.take k).flatMap layIDB) (w.heap.size + 1) ∧ Below (w.heap.size + 1) w0 wr) (fun i _ => m.refs.length - (intOf i).toNat)
    case atStart => exact ⟨0, v10, Nat.zero_le _, rfl, by simpa using h10, B10⟩
    case round =>
      obtain ⟨k, vv, hk, rfl, hto, hbr⟩ := hrel
      have hzr := hbr.size
      have a10 := hk10 wr hbr
      by_cases hlt : k < m.refs.length
      · obtain ⟨blk, off, rfl, hblk, hat⟩ := hr (by intro e; rw [e] at hlt; simp at hlt)
        have hbw : Below w.heap.size w wr := hb0.trans (hbr.mono (by omega))
        have y0 := (hbw.cell (p := ⟨blk, off + k * 2, none⟩) hblk).trans (hat k hlt).1
        have y1 := (hbw.cell (p := ⟨blk, off + k * 2 + 1, none⟩) hblk).trans (hat k hlt).2
        have hux : U64 m.refs[k].2 := (hm.refs m.refs[k] (List.getElem_mem hlt)).2
        have HF : Hid ((m.refs.take (k + 1)).flatMap layIDB = (m.refs.take k).flatMap layIDB ++ layIDB m.refs[k]) := flat_step layIDB m.refs k hlt
        have hfl : ((m.refs.take k).flatMap layIDB).length ≤ 11 * m.refs.length := Nat.le_trans (flat_len layIDB 11 _ layIDB_len) (Nat.mul_le_mul_left _ (by simp; omega))
        have HLL : Hid ((L10 ++ numB m.refs.length ++ (m.refs.take k).flatMap layIDB).length + 20 ≤ 140737488355328) := by show _ ≤ _; simp only [List.length_append]; omega
        clear hat hr hfl
        generalize m.refs[k] = z at *
        go_wp2_with (go_at_call 69; refine (lid_any _ (w.heap.size + 2) 2 vv _ (w.heap.size + 1) z hux hto HLL.out).mono ?_; rintro e w2 ⟨rfl, v2, hto2, hb2⟩)
        go_roundw
        case rel =>
          refine ⟨k + 1, v2, by omega, by go_num, ?_, hbr.trans hb2⟩
          rw [HF.out, ← List.append_assoc]
          exact hto2
        case measure => simp [intOf]; omega
      · have hkl : k = m.refs.length := by omega
        rw [hkl, List.take_length] at hto
        have hlm10 : (L10 ++ numB m.refs.length ++ m.refs.flatMap layIDB).length ≤ 11000133 := by
          have := flat_len layIDB 11 m.refs layIDB_len
          have := hlen8
          simp only [List.length_append]
          omega
        clear hkl hr
        obtain ⟨we, hwe⟩ : ∃ x, x = wr := ⟨_, rfl⟩
        subst hwe
        have B11 := hbr
        have q0 := hk0 we B11
        have q13 := hk13 we B11
        go_wp2_with fail
        clear q0 q13
        refine (lnum_no we (w.heap.size + 2) 2 vv (L10 ++ numB m.refs.length ++ m.refs.flatMap layIDB) (w.heap.size + 1) 64 m.seq [115, 101, 113] (by unfold Fld; omega) rfl (by decide +kernel) hto).mono ?_
        rintro e x12 ⟨rfl, h12, y12⟩
        have B12 := B11.trans y12
        have q0 := hk0 x12 B12
        have q14 := hk14 x12 B12
        go_wp2_with fail
        clear q0 q14
        refine (lone_no x12 (w.heap.size + 2) 2 vv (L10 ++ numB m.refs.length ++ m.refs.flatMap layIDB) (w.heap.size + 1) 128 m.vou [118, 111, 117, 99, 104, 101, 114] (by unfold Fld; omega) rfl (by decide +kernel) h12).mono ?_
        rintro e x13 ⟨rfl, h13, y13⟩
        have B13 := B12.trans y13
        have q0 := hk0 x13 B13
        have q15 := hk15 x13 B13
        go_wp2_with fail
        clear q0 q15
        refine (lnum_no x13 (w.heap.size + 2) 2 vv (L10 ++ numB m.refs.length ++ m.refs.flatMap layIDB) (w.heap.size + 1) 256 m.at_ [97, 116] (by unfold Fld; omega) rfl (by decide +kernel) h13).mono ?_
        rintro e x14 ⟨rfl, h14, y14⟩
        have B14 := B13.trans y14
        have q0 := hk0 x14 B14
        have q16 := hk16 x14 B14
        go_wp2_with fail
        clear q0 q16
        refine (lone_no x14 (w.heap.size + 2) 2 vv (L10 ++ numB m.refs.length ++ m.refs.flatMap layIDB) (w.heap.size + 1) 512 m.dist [100, 105, 115, 116] (by unfold Fld; omega) rfl (by decide +kernel) h14).mono ?_
        rintro e x15 ⟨rfl, h15, y15⟩
        have B15 := B14.trans y15
        have q0 := hk0 x15 B15
        have q17 := hk17 x15 B15
        go_wp2_with fail
        clear q0 q17
        refine (lnum_no x15 (w.heap.size + 2) 2 vv (L10 ++ numB m.refs.length ++ m.refs.flatMap layIDB) (w.heap.size + 1) 8192 m.stamp [115, 116, 97, 109, 112] (by unfold Fld; omega) rfl (by decide +kernel) h15).mono ?_
        rintro e x16 ⟨rfl, h16, y16⟩
        have B16 := B15.trans y16
        have q0 := hk0 x16 B16
        go_wp2_with fail
        clear q0
        refine (rhas_any 2 16384 (by unfold Fld; omega) [108, 105, 115, 116] rfl x16).mono ?_
        rintro e x17 ⟨rfl, y17⟩
        rw [show hasB 2 16384 = false from by decide +kernel]
        have h17 := h16.below y17
        have B17 := B16.trans (y17.mono (by have := B16.size; omega))
        obtain ⟨ao, nn, cc, hv⟩ := ld_form h17
        subst hv
        have d1 := h17.c1
        go_wp2
        go_ret
        refine ⟨_, rfl, ?_, hb0.trans (B17.mono (by omega))⟩
        rw [HP.out]
        rw [layIDsB, ← List.append_assoc, ← HL10.out]
        exact Bs.ofOwns h17.own

end Go.Proofs.Ytcpegfjjdojinaa

