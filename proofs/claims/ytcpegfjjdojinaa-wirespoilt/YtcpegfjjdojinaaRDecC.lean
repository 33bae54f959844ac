/- The plain Decode: the walk of the fields. -/
import Derived.Test.YtcpegfjjdojinaaRDecB
import Derived.Deep.AppendLies
import Derived.Deep.RegionLaw
import Derived.Deep.CutRange
import Derived.Deep.CutBlock
namespace Go.Proofs.Ytcpegfjjdojinaa
open Go.RowKit

theorem optN_le (b : Bool) (L : List UInt8) (p e most : Nat) : (optN b L p e most).1 ≤ most := by
  unfold optN
  split
  · exact rNum_le _ _ _ _
  · exact Nat.zero_le _

/-- What the fields are read as. -/
def FR (L : List UInt8) (k : Int) (m : Msg) (p e : Nat) (m' : Msg) (p' e' : Nat) : Prop :=
  ∃ (op code : Nat) (N1 : Nat × Nat × Nat) (m1 : Msg) (N2 : Nat × Nat × Nat) (m2 : Msg) (N3 : Nat × Nat × Nat) (m3 : Msg) (N4 : Nat × Nat × Nat) (m4 : Msg) (N5 : Nat × Nat × Nat) (m5 : Msg) (N6 : Nat × Nat × Nat) (m6 : Msg) (p6 e6 : Nat) (N7 : (Int × Nat) × Nat × Nat) (m7 : Msg) (p7 e7 : Nat) (N8 : Nat × Nat × Nat) (m8 : Msg) (N9 : Nat × Nat × Nat) (j9 : Nat) (R9 : List (Int × Nat) × Nat × Nat) (m9 : Msg) (N10 : Nat × Nat × Nat) (m10 : Msg) (N11 : Nat × Nat × Nat) (m11 : Msg) (N12 : Nat × Nat × Nat) (m12 : Msg) (N13 : Nat × Nat × Nat) (m13 : Msg) (N14 : Nat × Nat × Nat) (m14 : Msg) (p14 e14 : Nat) (N15 : Nat × Nat × Nat) (m15 : Msg) (N16 : Nat × Nat × Nat) (j16 : Nat) (R16 : List Nat × Nat × Nat) (m16 : Msg),
    op = (if k = 8 then 3 else 6) ∧ code = (if k = 9 then 2 else 10) ∧
    N1 = optN (hasB k 1) L p e 72057594037927935 ∧
    m1 = { m with call := N1.1 } ∧
    N2 = optN (hasB k 2) L N1.2.1 N1.2.2 18446744073709551615 ∧
    m2 = { m1 with floor := N2.1 } ∧
    N3 = optN (hasB k 4) L N2.2.1 N2.2.2 4095 ∧
    m3 = { m2 with item := (N3.1 : Int) } ∧
    N4 = opt1 (hasB k 8) L N3.2.1 N3.2.2 op ∧
    m4 = { m3 with op := (N4.1 : Int) } ∧
    N5 = opt1 (hasB k 16) L N4.2.1 N4.2.2 63 ∧
    m5 = { m4 with fld := (N5.1 : Int) } ∧
    N6 = opt1 (hasB k 1024) L N5.2.1 N5.2.2 code ∧
    ((k ≠ 5 ∧ m6 = { m5 with code := (N6.1 : Int) } ∧ p6 = N6.2.1 ∧ e6 = N6.2.2) ∨ (k = 5 ∧ m6 = m5 ∧ p6 = N5.2.1 ∧ e6 = N5.2.2)) ∧
    N7 = rID L p6 e6 ∧
    ((hasB k 32 = true ∧ m7 = { m6 with tn := N7.1.1, ts := N7.1.2 } ∧ p7 = N7.2.1 ∧ e7 = N7.2.2) ∨ (hasB k 32 = false ∧ m7 = m6 ∧ p7 = p6 ∧ e7 = e6)) ∧
    N8 = optN (hasB k 2048) L p7 e7 18446744073709551615 ∧
    m8 = { m7 with val := N8.1 } ∧
    N9 = optN (hasB k 4096) L N8.2.1 N8.2.2 2 ∧
    R9 = rIn L j9 N9.2.1 N9.2.2 ∧
    (j9 ≤ N9.1 ∧ (j9 = N9.1 ∨ R9.2.2 ≠ 0)) ∧
    m9 = { m8 with refs := R9.1 } ∧
    N10 = optN (hasB k 64) L R9.2.1 R9.2.2 72057594037927935 ∧
    m10 = { m9 with seq := N10.1 } ∧
    N11 = opt1 (hasB k 128) L N10.2.1 N10.2.2 64 ∧
    m11 = { m10 with vou := (N11.1 : Int) } ∧
    N12 = optN (hasB k 256) L N11.2.1 N11.2.2 18446744073709551615 ∧
    m12 = { m11 with at_ := N12.1 } ∧
    N13 = opt1 (hasB k 512) L N12.2.1 N12.2.2 40 ∧
    m13 = { m12 with dist := (N13.1 : Int) } ∧
    N14 = opt1 (hasB k 1024) L N13.2.1 N13.2.2 code ∧
    ((k = 5 ∧ m14 = { m13 with code := (N14.1 : Int) } ∧ p14 = N14.2.1 ∧ e14 = N14.2.2) ∨ (k ≠ 5 ∧ m14 = m13 ∧ p14 = N13.2.1 ∧ e14 = N13.2.2)) ∧
    N15 = optN (hasB k 8192) L p14 e14 18446744073709551615 ∧
    m15 = { m14 with stamp := N15.1 } ∧
    N16 = optN (hasB k 16384) L N15.2.1 N15.2.2 64 ∧
    R16 = rLs L j16 N16.2.1 N16.2.2 ∧
    (j16 ≤ N16.1 ∧ (j16 = N16.1 ∨ R16.2.2 ≠ 0)) ∧
    m16 = { m15 with list := R16.1 } ∧
    m' = m16 ∧ p' = R16.2.1 ∧ e' = R16.2.2

set_option maxRecDepth 40000 in
set_option maxHeartbeats 8000000 in
theorem ffields_any (w : World) (fb cap : Nat) (ao : Option Addr) (L : List UInt8) (mb : Nat) (k : Int) (m : Msg) (p e : Nat) (h0 : F0 w fb cap ao L mb) (hr : RF w fb ao cap L p e) (hm : MAt w mb m none none 0 0) (hk : m.kind = k) (hr0 : m.refs = []) (hl0 : m.list = []) :
    Calls Try.prog 43 #[.pointer (some ⟨fb, 0, none⟩), .pointer (some ⟨mb, 0, none⟩)] w fun r w' => r = .returned (.tuple #[]) ∧ ∃ m' ro lo rc lc p' e', FS w w' fb cap ao L mb k m' ro lo rc lc p' e' ∧ FR L k m p e m' p' e' := by
  have ck : w.cell? ⟨mb, 0, none⟩ = some (.int .i64 k) := by rw [← hk]; exact hm.cells 0 _ rfl
  have hS0 : FS w (w.alloc (.cells #[.int .i64 k, .pointer (some ⟨fb, 0, none⟩)] 99)) fb cap ao L mb k m none none 0 0 p e := by
    have hb : Below w.heap.size w (w.alloc (.cells #[.int .i64 k, .pointer (some ⟨fb, 0, none⟩)] 99)) := (Below.refl _ _).alloc (Nat.le_refl _) _
    refine ⟨hr.below hb, hm.below hb hm.lt, heap_alloc_new w _, Kept.alloc w _ _, ?_, ?_, fun j hj => by simp [Value.ownBlock] at hj⟩
    · rw [hr0]; exact ⟨rfl, Or.inl ⟨rfl, rfl⟩⟩
    · rw [hl0]; exact ⟨rfl, Or.inl ⟨rfl, rfl⟩⟩
  have HQ : Hid (m.refs = [] ∧ m.list = []) := hiddenR ⟨hr0, hl0⟩
  clear hk hr hm hr0 hl0
  go_enter Try.func43, Try.ntmps43
  go_upto_if 16 with fail
  go_cut [6] from 15 to 16 (fun a wc => a = .int .u8 ((if k = 8 then 3 else 6 : Nat) : Int) ∧ wc = w)
  case first =>
    by_cases h8 : k = 8
    · have h9 : (k == 8) = true := by simpa using h8
      have h10 : (if k = 8 then 3 else 6 : Nat) = 3 := if_pos h8
      clear h8
      go_wp2
      go_meet
      exact ⟨by rw [h10]; rfl, rfl⟩
    · have h9 : (k == 8) = false := by simpa using h8
      have h10 : (if k = 8 then 3 else 6 : Nat) = 6 := if_neg h8
      clear h8
      go_wp2
      go_meet
      exact ⟨by rw [h10]; rfl, rfl⟩
  case rest =>
    obtain ⟨rfl, hwc⟩ := hcut
    subst hwc
    obtain ⟨op, HO⟩ : ∃ x : Nat, Hid (x = (if k = 8 then 3 else 6 : Nat)) := ⟨_, rfl⟩
    rw [← HO.out]
    go_upto_if 18 with fail
    obtain ⟨w0, hw0⟩ : ∃ x, x = wc := ⟨_, rfl⟩
    subst hw0
    go_cut [5] from 17 to 18 (fun a wd => a = .int .u8 ((if k = 9 then 2 else 10 : Nat) : Int) ∧ wd = w0)
    case first =>
      by_cases h8 : k = 9
      · have h9 : (k == 9) = true := by simpa using h8
        have h10 : (if k = 9 then 2 else 10 : Nat) = 2 := if_pos h8
        clear h8
        go_wp2
        go_meet
        exact ⟨by rw [h10]; rfl, rfl⟩
      · have h9 : (k == 9) = false := by simpa using h8
        have h10 : (if k = 9 then 2 else 10 : Nat) = 10 := if_neg h8
        clear h8
        go_wp2
        go_meet
        exact ⟨by rw [h10]; rfl, rfl⟩
    case rest =>
      obtain ⟨rfl, hwc⟩ := hcut
      subst hwc
      obtain ⟨code, HC⟩ : ∃ x : Nat, Hid (x = (if k = 9 then 2 else 10 : Nat)) := ⟨_, rfl⟩
      rw [← HC.out]
      go_upto_region 9 with fail
      obtain ⟨w0, hw0⟩ : ∃ x, x = wc := ⟨_, rfl⟩
      subst hw0
      have hS := hS0
      clear hS0 ck
      generalize w0.alloc (.cells #[.int .i64 k, .pointer (some ⟨fb, 0, none⟩)] 99) = W at *
      obtain ⟨N1, HN1⟩ : ∃ N, Hid (N = optN (hasB k 1) L p e 72057594037927935) := ⟨_, rfl⟩
      have hc := fun W h => fonum_any W fb cap ao L p e k 1 72057594037927935 (by unfold Fld; simp) _ rfl h
      rw [← HN1.out] at hc
      have c0 := cell_of_row W w0.heap.size 0 _ _ _ hS.bx
      have c1 := cell_of_row W w0.heap.size 1 _ _ _ hS.bx
      go_upto_region 10 with (go_at_call 72; refine (hc _ hS.rd).mono ?_; rintro r W1 ⟨rfl, hto⟩; have hS1 := hS.read h0 hto; clear hto hS c0 c1 hc; have cz := hS1.ms.cells 3 _ rfl; have fz := frozen_at hS1.ms 3 (by omega))
      obtain ⟨m1, HM1⟩ : ∃ x, Hid (x = ({ m with call := N1.1 } : Msg)) := ⟨_, rfl⟩
      have hS := hS1.put h0 ({ m with call := N1.1 } : Msg) 3 (.int .u64 (N1.1 : Int)) (by omega) rfl rfl rfl
      rw [← HM1.out] at hS
      have HQ : Hid (m1.refs = [] ∧ m1.list = []) := hiddenR (by rw [HM1.out]; exact HQ.out)
      clear hS1 cz fz W
      generalize W1.setCell ⟨mb, 3, none⟩ (.int .u64 (N1.1 : Int)) = W at *
      clear W1
      obtain ⟨N2, HN2⟩ : ∃ N, Hid (N = optN (hasB k 2) L N1.2.1 N1.2.2 18446744073709551615) := ⟨_, rfl⟩
      have hc := fun W h => fonum_any W fb cap ao L N1.2.1 N1.2.2 k 2 18446744073709551615 (by unfold Fld; simp) _ rfl h
      rw [← HN2.out] at hc
      have c0 := cell_of_row W w0.heap.size 0 _ _ _ hS.bx
      have c1 := cell_of_row W w0.heap.size 1 _ _ _ hS.bx
      go_upto_region 11 with (go_at_call 72; refine (hc _ hS.rd).mono ?_; rintro r W1 ⟨rfl, hto⟩; have hS1 := hS.read h0 hto; clear hto hS c0 c1 hc; have cz := hS1.ms.cells 4 _ rfl; have fz := frozen_at hS1.ms 4 (by omega))
      obtain ⟨m2, HM2⟩ : ∃ x, Hid (x = ({ m1 with floor := N2.1 } : Msg)) := ⟨_, rfl⟩
      have hS := hS1.put h0 ({ m1 with floor := N2.1 } : Msg) 4 (.int .u64 (N2.1 : Int)) (by omega) rfl rfl rfl
      rw [← HM2.out] at hS
      have HQ : Hid (m2.refs = [] ∧ m2.list = []) := hiddenR (by rw [HM2.out]; exact HQ.out)
      clear hS1 cz fz W
      generalize W1.setCell ⟨mb, 4, none⟩ (.int .u64 (N2.1 : Int)) = W at *
      clear W1
      obtain ⟨N3, HN3⟩ : ∃ N, Hid (N = optN (hasB k 4) L N2.2.1 N2.2.2 4095) := ⟨_, rfl⟩
      have hc := fun W h => fonum_any W fb cap ao L N2.2.1 N2.2.2 k 4 4095 (by unfold Fld; simp) _ rfl h
      rw [← HN3.out] at hc
      have hle : N3.1 ≤ 4095 := by rw [HN3.out]; exact optN_le _ _ _ _ _
      have c0 := cell_of_row W w0.heap.size 0 _ _ _ hS.bx
      have c1 := cell_of_row W w0.heap.size 1 _ _ _ hS.bx
      go_upto_region 12 with (go_at_call 72; refine (hc _ hS.rd).mono ?_; rintro r W1 ⟨rfl, hto⟩; have hS1 := hS.read h0 hto; clear hto hS c0 c1 hc; have cz := hS1.ms.cells 7 _ rfl; have fz := frozen_at hS1.ms 7 (by omega))
      obtain ⟨m3, HM3⟩ : ∃ x, Hid (x = ({ m2 with item := (N3.1 : Int) } : Msg)) := ⟨_, rfl⟩
      have hS := hS1.put h0 ({ m2 with item := (N3.1 : Int) } : Msg) 7 (.int .i64 (N3.1 : Int)) (by omega) rfl rfl rfl
      rw [← HM3.out] at hS
      have HQ : Hid (m3.refs = [] ∧ m3.list = []) := hiddenR (by rw [HM3.out]; exact HQ.out)
      clear hS1 cz fz W
      generalize W1.setCell ⟨mb, 7, none⟩ (.int .i64 (N3.1 : Int)) = W at *
      clear W1
      obtain ⟨N4, HN4⟩ : ∃ N, Hid (N = opt1 (hasB k 8) L N3.2.1 N3.2.2 op) := ⟨_, rfl⟩
      have hc := fun W h => foone_any W fb cap ao L N3.2.1 N3.2.2 k 8 op (by unfold Fld; simp) _ rfl h
      rw [← HN4.out] at hc
      have c0 := cell_of_row W w0.heap.size 0 _ _ _ hS.bx
      have c1 := cell_of_row W w0.heap.size 1 _ _ _ hS.bx
      go_upto_region 13 with (go_at_call 73; refine (hc _ hS.rd).mono ?_; rintro r W1 ⟨rfl, hto⟩; have hS1 := hS.read h0 hto; clear hto hS c0 c1 hc; have cz := hS1.ms.cells 5 _ rfl; have fz := frozen_at hS1.ms 5 (by omega))
      obtain ⟨m4, HM4⟩ : ∃ x, Hid (x = ({ m3 with op := (N4.1 : Int) } : Msg)) := ⟨_, rfl⟩
      have hS := hS1.put h0 ({ m3 with op := (N4.1 : Int) } : Msg) 5 (.int .i64 (N4.1 : Int)) (by omega) rfl rfl rfl
      rw [← HM4.out] at hS
      have HQ : Hid (m4.refs = [] ∧ m4.list = []) := hiddenR (by rw [HM4.out]; exact HQ.out)
      clear hS1 cz fz W
      generalize W1.setCell ⟨mb, 5, none⟩ (.int .i64 (N4.1 : Int)) = W at *
      clear W1
      obtain ⟨N5, HN5⟩ : ∃ N, Hid (N = opt1 (hasB k 16) L N4.2.1 N4.2.2 63) := ⟨_, rfl⟩
      have hc := fun W h => foone_any W fb cap ao L N4.2.1 N4.2.2 k 16 63 (by unfold Fld; simp) _ rfl h
      rw [← HN5.out] at hc
      have c0 := cell_of_row W w0.heap.size 0 _ _ _ hS.bx
      have c1 := cell_of_row W w0.heap.size 1 _ _ _ hS.bx
      go_upto_region 14 with (go_at_call 73; refine (hc _ hS.rd).mono ?_; rintro r W1 ⟨rfl, hto⟩; have hS1 := hS.read h0 hto; clear hto hS c0 c1 hc; have cz := hS1.ms.cells 6 _ rfl; have fz := frozen_at hS1.ms 6 (by omega))
      obtain ⟨m5, HM5⟩ : ∃ x, Hid (x = ({ m4 with fld := (N5.1 : Int) } : Msg)) := ⟨_, rfl⟩
      have hS := hS1.put h0 ({ m4 with fld := (N5.1 : Int) } : Msg) 6 (.int .i64 (N5.1 : Int)) (by omega) rfl rfl rfl
      rw [← HM5.out] at hS
      have HQ : Hid (m5.refs = [] ∧ m5.list = []) := hiddenR (by rw [HM5.out]; exact HQ.out)
      clear hS1 cz fz W
      generalize W1.setCell ⟨mb, 6, none⟩ (.int .i64 (N5.1 : Int)) = W at *
      clear W1
      go_upto_if 51 with fail
      obtain ⟨N6, HN6⟩ : ∃ N, Hid (N = opt1 (hasB k 1024) L N5.2.1 N5.2.2 code) := ⟨_, rfl⟩
      go_cut [6] from 50 to 57 (fun _ wd => ∃ m' p' e', FS w0 wd fb cap ao L mb k m' none none 0 0 p' e' ∧ ((k ≠ 5 ∧ m' = { m5 with code := (N6.1 : Int) } ∧ p' = N6.2.1 ∧ e' = N6.2.2) ∨ (k = 5 ∧ m' = m5 ∧ p' = N5.2.1 ∧ e' = N5.2.2)))
      case first =>
        have hc := fun W h => foone_any W fb cap ao L N5.2.1 N5.2.2 k 1024 code (by unfold Fld; simp) _ rfl h
        rw [← HN6.out] at hc
        by_cases h5 : k = 5
        · have h9 : (k != 5) = false := by simpa using h5
          have H5 := hiddenR h5
          clear h5
          go_wp2
          go_meet
          exact ⟨_, _, _, hS, Or.inr ⟨H5.out, rfl, rfl, rfl⟩⟩
        · have h9 : (k != 5) = true := by simpa using h5
          have H5 := hiddenR h5
          clear h5
          have c0 := cell_of_row W w0.heap.size 0 _ _ _ hS.bx
          have c1 := cell_of_row W w0.heap.size 1 _ _ _ hS.bx
          go_wp2_with (go_at_call 73; refine (hc _ hS.rd).mono ?_; rintro r W1 ⟨rfl, hto⟩; have hS1 := hS.read h0 hto; clear hto hS c0 c1 hc; have cz := hS1.ms.cells 12 _ rfl; have fz := frozen_at hS1.ms 12 (by omega))
          go_meet
          exact ⟨_, _, _, hS1.put h0 ({ m5 with code := (N6.1 : Int) } : Msg) 12 (.int .i64 (N6.1 : Int)) (by omega) rfl rfl rfl, Or.inl ⟨H5.out, rfl, rfl, rfl⟩⟩
      case rest =>
        obtain ⟨m6, p6, e6, hS2, hD6⟩ := hcut
        clear hS W
        have HD6 : Hid ((k ≠ 5 ∧ m6 = { m5 with code := (N6.1 : Int) } ∧ p6 = N6.2.1 ∧ e6 = N6.2.2) ∨ (k = 5 ∧ m6 = m5 ∧ p6 = N5.2.1 ∧ e6 = N5.2.2)) := hiddenR hD6
        have HQ : Hid (m6.refs = [] ∧ m6.list = []) := hiddenR (by rcases hD6 with ⟨_, e, _⟩ | ⟨_, e, _⟩ <;> rw [e] <;> exact HQ.out)
        clear hD6
        have hS := hS2
        clear hS2
        generalize wc = W at *
        have hc := fun W => rhas_any k 32 (by unfold Fld; simp) _ rfl W
        go_upto_if 59 with (go_at_call 38; refine (hc _).mono ?_; rintro r W1 ⟨rfl, hb⟩; have hS1 := hS.below h0 hb; clear hb hS hc)
        have hS := hS1
        clear hS1 W
        generalize W1 = W at *
        obtain ⟨N7, HN7⟩ : ∃ N, Hid (N = rID L p6 e6) := ⟨_, rfl⟩
        go_cut [6] from 58 to 64 (fun _ wd => ∃ m' p' e', FS w0 wd fb cap ao L mb k m' none none 0 0 p' e' ∧ ((hasB k 32 = true ∧ m' = { m6 with tn := N7.1.1, ts := N7.1.2 } ∧ p' = N7.2.1 ∧ e' = N7.2.2) ∨ (hasB k 32 = false ∧ m' = m6 ∧ p' = p6 ∧ e' = e6)))
        case first =>
          have hc := fun W h => frid_any W fb cap ao L p6 e6 h
          rw [← HN7.out] at hc
          cases h5 : hasB k 32 with
          | true =>
            go_wp2_with (first | (go_at_call 74; refine (hc _ hS.rd).mono ?_; rintro r W1 ⟨rfl, hto⟩; have hS1 := hS.read h0 hto; clear hto hS hc) | (refine store_idR _ _ rfl rfl mb 8 rfl N7.1 rfl hS1.ms.there8 ?_))
            go_meet
            exact ⟨_, _, _, (hS1.put h0 ({ m6 with tn := N7.1.1 } : Msg) 8 (.int .i64 N7.1.1) (by omega) rfl rfl rfl).put h0 ({ m6 with tn := N7.1.1, ts := N7.1.2 } : Msg) 9 (.int .u64 (N7.1.2 : Int)) (by omega) rfl rfl rfl, Or.inl ⟨h5, rfl, rfl, rfl⟩⟩
          | false =>
            go_wp2
            go_meet
            exact ⟨_, _, _, hS, Or.inr ⟨h5, rfl, rfl, rfl⟩⟩
        case rest =>
          obtain ⟨m7, p7, e7, hS2, hD7⟩ := hcut
          clear hS W
          have HD7 : Hid ((hasB k 32 = true ∧ m7 = { m6 with tn := N7.1.1, ts := N7.1.2 } ∧ p7 = N7.2.1 ∧ e7 = N7.2.2) ∨ (hasB k 32 = false ∧ m7 = m6 ∧ p7 = p6 ∧ e7 = e6)) := hiddenR hD7
          have HQ : Hid (m7.refs = [] ∧ m7.list = []) := hiddenR (by rcases hD7 with ⟨_, e, _⟩ | ⟨_, e, _⟩ <;> rw [e] <;> exact HQ.out)
          clear hD7
          have hS := hS2
          clear hS2
          generalize wc = W at *
          go_upto_region 18 with fail
          obtain ⟨N8, HN8⟩ : ∃ N, Hid (N = optN (hasB k 2048) L p7 e7 18446744073709551615) := ⟨_, rfl⟩
          have hc := fun W h => fonum_any W fb cap ao L p7 e7 k 2048 18446744073709551615 (by unfold Fld; simp) _ rfl h
          rw [← HN8.out] at hc
          have c0 := cell_of_row W w0.heap.size 0 _ _ _ hS.bx
          have c1 := cell_of_row W w0.heap.size 1 _ _ _ hS.bx
          go_upto_region 19 with (go_at_call 72; refine (hc _ hS.rd).mono ?_; rintro r W1 ⟨rfl, hto⟩; have hS1 := hS.read h0 hto; clear hto hS c0 c1 hc; have cz := hS1.ms.cells 11 _ rfl; have fz := frozen_at hS1.ms 11 (by omega))
          obtain ⟨m8, HM8⟩ : ∃ x, Hid (x = ({ m7 with val := N8.1 } : Msg)) := ⟨_, rfl⟩
          have hS := hS1.put h0 ({ m7 with val := N8.1 } : Msg) 11 (.int .u64 (N8.1 : Int)) (by omega) rfl rfl rfl
          rw [← HM8.out] at hS
          have HQ : Hid (m8.refs = [] ∧ m8.list = []) := hiddenR (by rw [HM8.out]; exact HQ.out)
          clear hS1 cz fz W
          generalize W1.setCell ⟨mb, 11, none⟩ (.int .u64 (N8.1 : Int)) = W at *
          clear W1
          obtain ⟨N9, HN9⟩ : ∃ N, Hid (N = optN (hasB k 4096) L N8.2.1 N8.2.2 2) := ⟨_, rfl⟩
          have hc := fun W h => fonum_any W fb cap ao L N8.2.1 N8.2.2 k 4096 2 (by unfold Fld; simp) _ rfl h
          rw [← HN9.out] at hc
          have hle : N9.1 ≤ 2 := by rw [HN9.out]; exact optN_le _ _ _ _ _
          have c0 := cell_of_row W w0.heap.size 0 _ _ _ hS.bx
          have c1 := cell_of_row W w0.heap.size 1 _ _ _ hS.bx
          go_upto_block 0 with (go_at_call 72; refine (hc _ hS.rd).mono ?_; rintro r W1 ⟨rfl, hto⟩; have hS1 := hS.read h0 hto; clear hto hS c0 c1 hc)
          have hS := hS1
          clear hS1 W
          generalize W1 = W at *
          go_cut [9] from 73 to 94 (fun _ wd => ∃ j ro' rc', j ≤ N9.1 ∧ FS w0 wd fb cap ao L mb k { m8 with refs := (rIn L j N9.2.1 N9.2.2).1 } ro' none rc' 0 (rIn L j N9.2.1 N9.2.2).2.1 (rIn L j N9.2.1 N9.2.2).2.2 ∧ (j = N9.1 ∨ (rIn L j N9.2.1 N9.2.2).2.2 ≠ 0))
          case first =>
            obtain ⟨i, hi, hz0, hz1, hz2⟩ := info_parts Try.infoID
            go_wp2
            go_loopw [9] (fun i wr => ∃ (j : Nat) (ro' : Option Addr) (rc' : Nat), j ≤ N9.1 ∧ i = .int .u64 ((N9.1 - j : Nat) : Int) ∧ FS w0 wr fb cap ao L mb k { m8 with refs := (rIn L j N9.2.1 N9.2.2).1 } ro' none rc' 0 (rIn L j N9.2.1 N9.2.2).2.1 (rIn L j N9.2.1 N9.2.2).2.2) (fun i _ => (intOf i).toNat)
            case atStart =>
              refine ⟨0, none, 0, Nat.zero_le _, rfl, ?_⟩
              have e0 := Msg.norefs m8 HQ.out.1
              show FS w0 W fb cap ao L mb k { m8 with refs := [] } none none 0 0 (rIn L 0 N9.2.1 N9.2.2).2.1 (rIn L 0 N9.2.1 N9.2.2).2.2
              rw [e0]
              exact hS
            case round =>
              obtain ⟨j, ro1, rc1, hj, rfl, hS1⟩ := hrel
              clear hS
              have b2 := hS1.rd.c2
              by_cases hlt : j < N9.1
              · have hlt2 : (0 : Int) < ((N9.1 - j : Nat) : Int) := by omega
                by_cases he : (rIn L j N9.2.1 N9.2.2).2.2 = 0
                · have he2 : (((rIn L j N9.2.1 N9.2.2).2.2 : Int) == 0) = true := by rw [he]; rfl
                  have hd : Below wr.heap.size wr wr.drew := (Below.refl _ _).drew
                  have hSd := hS1.below h0 hd
                  have hc := fun W h => frid_any W fb cap ao L (rIn L j N9.2.1 N9.2.2).2.1 (rIn L j N9.2.1 N9.2.2).2.2 h
                  have hln : (rIn L j N9.2.1 N9.2.2).1.length ≤ 2 := by rw [rIn_len]; omega
                  have HIN : Hid (rIn L (j + 1) N9.2.1 N9.2.2 = ((rIn L j N9.2.1 N9.2.2).1 ++ [(rID L (rIn L j N9.2.1 N9.2.2).2.1 (rIn L j N9.2.1 N9.2.2).2.2).1], (rID L (rIn L j N9.2.1 N9.2.2).2.1 (rIn L j N9.2.1 N9.2.2).2.2).2)) := rfl
                  generalize rID L (rIn L j N9.2.1 N9.2.2).2.1 (rIn L j N9.2.1 N9.2.2).2.2 = X at *
                  generalize (rIn L j N9.2.1 N9.2.2).1 = xs at *
                  generalize (rIn L j N9.2.1 N9.2.2).2.1 = pj at *
                  generalize (rIn L j N9.2.1 N9.2.2).2.2 = ej at *
                  have e1 := hSd.ms.cells 10 _ rfl
                  have HM : Hid (∀ w2 : World, FS w0 w2 fb cap ao L mb k { m8 with refs := xs } ro1 none rc1 0 X.2.1 X.2.2 → FS w0 (w2.alloc (.cells #[.int .i64 X.1.1, .int .u64 (X.1.2 : Int)] 24)) fb cap ao L mb k { m8 with refs := xs } ro1 none rc1 0 X.2.1 X.2.2) := hiddenR (fun w2 h2 => h2.below h0 ((Below.refl _ _).alloc (Nat.le_refl _) _))
                  go_wp2
                  clear b2 he he2
                  go_region_law (first
                    | (refine step_append_lies _ rfl (.tmp 88) (.tmp 91) 25 rfl (w0.heap.size + 1) 24 i _ 2 16 Try.underlying25 hi hz0 hz1 hz2 rfl (by omega) (.slice ro1 xs.length rc1) xs.length (xs.flatMap idCells) rfl h3.rr ⟨w2.heap.size, 0, none⟩ 1 1 (idCells X.1) rfl rfl (cell_two_new _ _ _ _) (idCells_one1 _) (by omega) (by unfold maxLen; omega) (by omega) (by have := h3.lt; omega) _ rfl ?_; intro g c4 w4 ho4 hk4 hat4 hlt4; have m4 := h3.ms.keep (Kept.grown hk4) (fun e => by have := (own_geR h3.rr _ e).1; have := h0.ml; omega); have e4 := m4.cells 10 _ rfl; have f4 := frozen_at m4 10 (by omega))
                    | (go_simp; go_wp2_with (go_at_call 74; refine (hc _ hSd.rd).mono ?_; rintro r w2 ⟨rfl, hto⟩; have h2 := hSd.read h0 hto; have h3 := HM.out w2 h2; have e2 := h2.ms.cells 10 _ rfl; have e3 := h3.ms.cells 10 _ rfl)))
                  all_goals
                    go_wp2
                    refine ⟨⟨j + 1, some ⟨g, 0, none⟩, c4, by omega, by go_num, ?_⟩, by simp [intOf]; omega⟩
                    rw [HIN.out]
                    exact h3.pushR h0 X.1 ho4 (Kept.grown hk4) (hat4.elim Or.inl (fun e => Or.inr (Nat.le_of_eq e.symm)))
                · have he2 : (((rIn L j N9.2.1 N9.2.2).2.2 : Int) == 0) = false := by rw [beq_eq_false_iff_ne]; omega
                  go_wp2
                  go_meet
                  exact ⟨j, _, _, hj, hS1, Or.inr he⟩
              · have hlt2 : ¬ (0 : Int) < ((N9.1 - j : Nat) : Int) := by omega
                go_wp2
                go_meet
                exact ⟨j, _, _, hj, hS1, Or.inl (by omega)⟩
          case rest =>
            obtain ⟨j9, ro9, rc9, hj9, hS2, hD9⟩ := hcut
            clear hS W
            obtain ⟨R9, HR9⟩ : ∃ R, Hid (R = rIn L j9 N9.2.1 N9.2.2) := ⟨_, rfl⟩
            rw [← HR9.out] at hS2 hD9
            have HE9 : Hid (j9 ≤ N9.1 ∧ (j9 = N9.1 ∨ R9.2.2 ≠ 0)) := hiddenR ⟨hj9, hD9⟩
            clear hD9 hj9
            obtain ⟨m9, HM9⟩ : ∃ x, Hid (x = ({ m8 with refs := R9.1 } : Msg)) := ⟨_, rfl⟩
            rw [← HM9.out] at hS2
            have HQ : Hid (True ∧ m9.list = []) := hiddenR ⟨trivial, by rw [HM9.out]; exact HQ.out.2⟩
            have hS := hS2
            clear hS2
            generalize wc = W at *
            go_upto_region 23 with fail
            obtain ⟨N10, HN10⟩ : ∃ N, Hid (N = optN (hasB k 64) L R9.2.1 R9.2.2 72057594037927935) := ⟨_, rfl⟩
            have hc := fun W h => fonum_any W fb cap ao L R9.2.1 R9.2.2 k 64 72057594037927935 (by unfold Fld; simp) _ rfl h
            rw [← HN10.out] at hc
            have c0 := cell_of_row W w0.heap.size 0 _ _ _ hS.bx
            have c1 := cell_of_row W w0.heap.size 1 _ _ _ hS.bx
            go_upto_region 24 with (go_at_call 72; refine (hc _ hS.rd).mono ?_; rintro r W1 ⟨rfl, hto⟩; have hS1 := hS.read h0 hto; clear hto hS c0 c1 hc; have cz := hS1.ms.cells 13 _ rfl; have fz := frozen_at hS1.ms 13 (by omega))
            obtain ⟨m10, HM10⟩ : ∃ x, Hid (x = ({ m9 with seq := N10.1 } : Msg)) := ⟨_, rfl⟩
            have hS := hS1.put h0 ({ m9 with seq := N10.1 } : Msg) 13 (.int .u64 (N10.1 : Int)) (by omega) rfl rfl rfl
            rw [← HM10.out] at hS
            have HQ : Hid (True ∧ m10.list = []) := hiddenR (by rw [HM10.out]; exact HQ.out)
            clear hS1 cz fz W
            generalize W1.setCell ⟨mb, 13, none⟩ (.int .u64 (N10.1 : Int)) = W at *
            clear W1
            obtain ⟨N11, HN11⟩ : ∃ N, Hid (N = opt1 (hasB k 128) L N10.2.1 N10.2.2 64) := ⟨_, rfl⟩
            have hc := fun W h => foone_any W fb cap ao L N10.2.1 N10.2.2 k 128 64 (by unfold Fld; simp) _ rfl h
            rw [← HN11.out] at hc
            have c0 := cell_of_row W w0.heap.size 0 _ _ _ hS.bx
            have c1 := cell_of_row W w0.heap.size 1 _ _ _ hS.bx
            go_upto_region 25 with (go_at_call 73; refine (hc _ hS.rd).mono ?_; rintro r W1 ⟨rfl, hto⟩; have hS1 := hS.read h0 hto; clear hto hS c0 c1 hc; have cz := hS1.ms.cells 14 _ rfl; have fz := frozen_at hS1.ms 14 (by omega))
            obtain ⟨m11, HM11⟩ : ∃ x, Hid (x = ({ m10 with vou := (N11.1 : Int) } : Msg)) := ⟨_, rfl⟩
            have hS := hS1.put h0 ({ m10 with vou := (N11.1 : Int) } : Msg) 14 (.int .i64 (N11.1 : Int)) (by omega) rfl rfl rfl
            rw [← HM11.out] at hS
            have HQ : Hid (True ∧ m11.list = []) := hiddenR (by rw [HM11.out]; exact HQ.out)
            clear hS1 cz fz W
            generalize W1.setCell ⟨mb, 14, none⟩ (.int .i64 (N11.1 : Int)) = W at *
            clear W1
            obtain ⟨N12, HN12⟩ : ∃ N, Hid (N = optN (hasB k 256) L N11.2.1 N11.2.2 18446744073709551615) := ⟨_, rfl⟩
            have hc := fun W h => fonum_any W fb cap ao L N11.2.1 N11.2.2 k 256 18446744073709551615 (by unfold Fld; simp) _ rfl h
            rw [← HN12.out] at hc
            have c0 := cell_of_row W w0.heap.size 0 _ _ _ hS.bx
            have c1 := cell_of_row W w0.heap.size 1 _ _ _ hS.bx
            go_upto_region 26 with (go_at_call 72; refine (hc _ hS.rd).mono ?_; rintro r W1 ⟨rfl, hto⟩; have hS1 := hS.read h0 hto; clear hto hS c0 c1 hc; have cz := hS1.ms.cells 15 _ rfl; have fz := frozen_at hS1.ms 15 (by omega))
            obtain ⟨m12, HM12⟩ : ∃ x, Hid (x = ({ m11 with at_ := N12.1 } : Msg)) := ⟨_, rfl⟩
            have hS := hS1.put h0 ({ m11 with at_ := N12.1 } : Msg) 15 (.int .u64 (N12.1 : Int)) (by omega) rfl rfl rfl
            rw [← HM12.out] at hS
            have HQ : Hid (True ∧ m12.list = []) := hiddenR (by rw [HM12.out]; exact HQ.out)
            clear hS1 cz fz W
            generalize W1.setCell ⟨mb, 15, none⟩ (.int .u64 (N12.1 : Int)) = W at *
            clear W1
            obtain ⟨N13, HN13⟩ : ∃ N, Hid (N = opt1 (hasB k 512) L N12.2.1 N12.2.2 40) := ⟨_, rfl⟩
            have hc := fun W h => foone_any W fb cap ao L N12.2.1 N12.2.2 k 512 40 (by unfold Fld; simp) _ rfl h
            rw [← HN13.out] at hc
            have c0 := cell_of_row W w0.heap.size 0 _ _ _ hS.bx
            have c1 := cell_of_row W w0.heap.size 1 _ _ _ hS.bx
            go_upto_region 27 with (go_at_call 73; refine (hc _ hS.rd).mono ?_; rintro r W1 ⟨rfl, hto⟩; have hS1 := hS.read h0 hto; clear hto hS c0 c1 hc; have cz := hS1.ms.cells 16 _ rfl; have fz := frozen_at hS1.ms 16 (by omega))
            obtain ⟨m13, HM13⟩ : ∃ x, Hid (x = ({ m12 with dist := (N13.1 : Int) } : Msg)) := ⟨_, rfl⟩
            have hS := hS1.put h0 ({ m12 with dist := (N13.1 : Int) } : Msg) 16 (.int .i64 (N13.1 : Int)) (by omega) rfl rfl rfl
            rw [← HM13.out] at hS
            have HQ : Hid (True ∧ m13.list = []) := hiddenR (by rw [HM13.out]; exact HQ.out)
            clear hS1 cz fz W
            generalize W1.setCell ⟨mb, 16, none⟩ (.int .i64 (N13.1 : Int)) = W at *
            clear W1
            go_upto_if 117 with fail
            obtain ⟨N14, HN14⟩ : ∃ N, Hid (N = opt1 (hasB k 1024) L N13.2.1 N13.2.2 code) := ⟨_, rfl⟩
            go_cut [6] from 116 to 123 (fun _ wd => ∃ m' p' e', FS w0 wd fb cap ao L mb k m' ro9 none rc9 0 p' e' ∧ ((k = 5 ∧ m' = { m13 with code := (N14.1 : Int) } ∧ p' = N14.2.1 ∧ e' = N14.2.2) ∨ (k ≠ 5 ∧ m' = m13 ∧ p' = N13.2.1 ∧ e' = N13.2.2)))
            case first =>
              have hc := fun W h => foone_any W fb cap ao L N13.2.1 N13.2.2 k 1024 code (by unfold Fld; simp) _ rfl h
              rw [← HN14.out] at hc
              by_cases h5 : k = 5
              · have h9 : (k == 5) = true := by simpa using h5
                have H5 := hiddenR h5
                clear h5
                have c0 := cell_of_row W w0.heap.size 0 _ _ _ hS.bx
                have c1 := cell_of_row W w0.heap.size 1 _ _ _ hS.bx
                go_wp2_with (go_at_call 73; refine (hc _ hS.rd).mono ?_; rintro r W1 ⟨rfl, hto⟩; have hS1 := hS.read h0 hto; clear hto hS c0 c1 hc; have cz := hS1.ms.cells 12 _ rfl; have fz := frozen_at hS1.ms 12 (by omega))
                go_meet
                exact ⟨_, _, _, hS1.put h0 ({ m13 with code := (N14.1 : Int) } : Msg) 12 (.int .i64 (N14.1 : Int)) (by omega) rfl rfl rfl, Or.inl ⟨H5.out, rfl, rfl, rfl⟩⟩
              · have h9 : (k == 5) = false := by simpa using h5
                have H5 := hiddenR h5
                clear h5
                go_wp2
                go_meet
                exact ⟨_, _, _, hS, Or.inr ⟨H5.out, rfl, rfl, rfl⟩⟩
            case rest =>
              obtain ⟨m14, p14, e14, hS2, hD14⟩ := hcut
              clear hS W
              have HD14 : Hid ((k = 5 ∧ m14 = { m13 with code := (N14.1 : Int) } ∧ p14 = N14.2.1 ∧ e14 = N14.2.2) ∨ (k ≠ 5 ∧ m14 = m13 ∧ p14 = N13.2.1 ∧ e14 = N13.2.2)) := hiddenR hD14
              have HQ : Hid (True ∧ m14.list = []) := hiddenR (by rcases hD14 with ⟨_, e, _⟩ | ⟨_, e, _⟩ <;> rw [e] <;> exact HQ.out)
              clear hD14
              have hS := hS2
              clear hS2
              generalize wc = W at *
              go_upto_region 29 with fail
              obtain ⟨N15, HN15⟩ : ∃ N, Hid (N = optN (hasB k 8192) L p14 e14 18446744073709551615) := ⟨_, rfl⟩
              have hc := fun W h => fonum_any W fb cap ao L p14 e14 k 8192 18446744073709551615 (by unfold Fld; simp) _ rfl h
              rw [← HN15.out] at hc
              have c0 := cell_of_row W w0.heap.size 0 _ _ _ hS.bx
              have c1 := cell_of_row W w0.heap.size 1 _ _ _ hS.bx
              go_upto_region 30 with (go_at_call 72; refine (hc _ hS.rd).mono ?_; rintro r W1 ⟨rfl, hto⟩; have hS1 := hS.read h0 hto; clear hto hS c0 c1 hc; have cz := hS1.ms.cells 17 _ rfl; have fz := frozen_at hS1.ms 17 (by omega))
              obtain ⟨m15, HM15⟩ : ∃ x, Hid (x = ({ m14 with stamp := N15.1 } : Msg)) := ⟨_, rfl⟩
              have hS := hS1.put h0 ({ m14 with stamp := N15.1 } : Msg) 17 (.int .u64 (N15.1 : Int)) (by omega) rfl rfl rfl
              rw [← HM15.out] at hS
              have HQ : Hid (True ∧ m15.list = []) := hiddenR (by rw [HM15.out]; exact HQ.out)
              clear hS1 cz fz W
              generalize W1.setCell ⟨mb, 17, none⟩ (.int .u64 (N15.1 : Int)) = W at *
              clear W1
              obtain ⟨N16, HN16⟩ : ∃ N, Hid (N = optN (hasB k 16384) L N15.2.1 N15.2.2 64) := ⟨_, rfl⟩
              have hc := fun W h => fonum_any W fb cap ao L N15.2.1 N15.2.2 k 16384 64 (by unfold Fld; simp) _ rfl h
              rw [← HN16.out] at hc
              have hle : N16.1 ≤ 64 := by rw [HN16.out]; exact optN_le _ _ _ _ _
              have c0 := cell_of_row W w0.heap.size 0 _ _ _ hS.bx
              have c1 := cell_of_row W w0.heap.size 1 _ _ _ hS.bx
              go_upto_block 2 with (go_at_call 72; refine (hc _ hS.rd).mono ?_; rintro r W1 ⟨rfl, hto⟩; have hS1 := hS.read h0 hto; clear hto hS c0 c1 hc)
              have hS := hS1
              clear hS1 W
              generalize W1 = W at *
              obtain ⟨i, hi, hz0, hz1, hz2⟩ := info_parts Try.infoU64
              go_wp2
              go_loopw [10] (fun i wr => ∃ (j : Nat) (ro' : Option Addr) (rc' : Nat), j ≤ N16.1 ∧ i = .int .u64 ((N16.1 - j : Nat) : Int) ∧ FS w0 wr fb cap ao L mb k { m15 with list := (rLs L j N16.2.1 N16.2.2).1 } ro9 ro' rc9 rc' (rLs L j N16.2.1 N16.2.2).2.1 (rLs L j N16.2.1 N16.2.2).2.2) (fun i _ => (intOf i).toNat)
              case atStart =>
                refine ⟨0, none, 0, Nat.zero_le _, rfl, ?_⟩
                have e0 := Msg.nolist m15 HQ.out.2
                show FS w0 W fb cap ao L mb k { m15 with list := [] } ro9 none rc9 0 (rLs L 0 N16.2.1 N16.2.2).2.1 (rLs L 0 N16.2.1 N16.2.2).2.2
                rw [e0]
                exact hS
              case round =>
                obtain ⟨j, ro1, rc1, hj, rfl, hS1⟩ := hrel
                clear hS
                have b2 := hS1.rd.c2
                by_cases hlt : j < N16.1
                · have hlt2 : (0 : Int) < ((N16.1 - j : Nat) : Int) := by omega
                  by_cases he : (rLs L j N16.2.1 N16.2.2).2.2 = 0
                  · have he2 : (((rLs L j N16.2.1 N16.2.2).2.2 : Int) == 0) = true := by rw [he]; rfl
                    have hd : Below wr.heap.size wr wr.drew := (Below.refl _ _).drew
                    have hSd := hS1.below h0 hd
                    have hc := fun W h => fnum_any W fb cap ao L (rLs L j N16.2.1 N16.2.2).2.1 (rLs L j N16.2.1 N16.2.2).2.2 72057594037927935 h
                    have hln : (rLs L j N16.2.1 N16.2.2).1.length ≤ 64 := by rw [rLs_len]; omega
                    have HIN : Hid (rLs L (j + 1) N16.2.1 N16.2.2 = ((rLs L j N16.2.1 N16.2.2).1 ++ [(rNum L (rLs L j N16.2.1 N16.2.2).2.1 (rLs L j N16.2.1 N16.2.2).2.2 72057594037927935).1], (rNum L (rLs L j N16.2.1 N16.2.2).2.1 (rLs L j N16.2.1 N16.2.2).2.2 72057594037927935).2)) := rfl
                    generalize rNum L (rLs L j N16.2.1 N16.2.2).2.1 (rLs L j N16.2.1 N16.2.2).2.2 72057594037927935 = X at *
                    generalize (rLs L j N16.2.1 N16.2.2).1 = xs at *
                    generalize (rLs L j N16.2.1 N16.2.2).2.1 = pj at *
                    generalize (rLs L j N16.2.1 N16.2.2).2.2 = ej at *
                    have e1 := hSd.ms.cells 18 _ rfl
                    have HM : Hid (∀ w2 : World, FS w0 w2 fb cap ao L mb k { m15 with list := xs } ro9 ro1 rc9 rc1 X.2.1 X.2.2 → FS w0 (w2.alloc (.cells #[.int .u64 (X.1 : Int)] 22)) fb cap ao L mb k { m15 with list := xs } ro9 ro1 rc9 rc1 X.2.1 X.2.2) := hiddenR (fun w2 h2 => h2.below h0 ((Below.refl _ _).alloc (Nat.le_refl _) _))
                    go_wp2
                    clear b2 he he2
                    go_region_law (first
                      | (refine step_append_lies _ rfl (.tmp 147) (.tmp 150) 26 rfl (w0.heap.size + 1) 22 i _ 1 8 Try.underlying26 hi hz0 hz1 hz2 rfl (by omega) (.slice ro1 xs.length rc1) xs.length (xs.map nv64) rfl h3.rl ⟨w2.heap.size, 0, none⟩ 1 1 [nv64 X.1] rfl rfl (cell_one_new _ _ _) (by intro u hu; simp at hu; subst hu; rfl) (by omega) (by unfold maxLen; omega) (by omega) (by have := h3.lt; omega) _ rfl ?_; intro g c4 w4 ho4 hk4 hat4 hlt4; have m4 := h3.ms.keep (Kept.grown hk4) (fun e => by have := (own_geR h3.rl _ e).1; have := h0.ml; omega); have e4 := m4.cells 18 _ rfl; have f4 := frozen_at m4 18 (by omega))
                      | (go_simp; go_wp2_with (go_at_call 75; refine (hc _ hSd.rd).mono ?_; rintro r w2 ⟨rfl, hto⟩; have h2 := hSd.read h0 hto; have h3 := HM.out w2 h2; have e2 := h2.ms.cells 18 _ rfl; have e3 := h3.ms.cells 18 _ rfl)))
                    all_goals
                      go_wp2
                      refine ⟨⟨j + 1, some ⟨g, 0, none⟩, c4, by omega, by go_num, ?_⟩, by simp [intOf]; omega⟩
                      rw [HIN.out]
                      exact h3.pushL h0 X.1 ho4 (Kept.grown hk4) (hat4.elim Or.inl (fun e => Or.inr (Nat.le_of_eq e.symm)))
                  · have he2 : (((rLs L j N16.2.1 N16.2.2).2.2 : Int) == 0) = false := by rw [beq_eq_false_iff_ne]; omega
                    go_wp2
                    go_end0
                    exact ⟨rfl, _, _, _, _, _, _, _, hS1, op, code, N1, m1, N2, m2, N3, m3, N4, m4, N5, m5, N6, m6, p6, e6, N7, m7, p7, e7, N8, m8, N9, j9, R9, m9, N10, m10, N11, m11, N12, m12, N13, m13, N14, m14, p14, e14, N15, m15, N16, j, _, _, HO.out, HC.out, HN1.out, HM1.out, HN2.out, HM2.out, HN3.out, HM3.out, HN4.out, HM4.out, HN5.out, HM5.out, HN6.out, HD6.out, HN7.out, HD7.out, HN8.out, HM8.out, HN9.out, HR9.out, HE9.out, HM9.out, HN10.out, HM10.out, HN11.out, HM11.out, HN12.out, HM12.out, HN13.out, HM13.out, HN14.out, HD14.out, HN15.out, HM15.out, HN16.out, rfl, ⟨hj, Or.inr he⟩, rfl, rfl, rfl, rfl⟩
                · have hlt2 : ¬ (0 : Int) < ((N16.1 - j : Nat) : Int) := by omega
                  go_wp2
                  go_end0
                  exact ⟨rfl, _, _, _, _, _, _, _, hS1, op, code, N1, m1, N2, m2, N3, m3, N4, m4, N5, m5, N6, m6, p6, e6, N7, m7, p7, e7, N8, m8, N9, j9, R9, m9, N10, m10, N11, m11, N12, m12, N13, m13, N14, m14, p14, e14, N15, m15, N16, j, _, _, HO.out, HC.out, HN1.out, HM1.out, HN2.out, HM2.out, HN3.out, HM3.out, HN4.out, HM4.out, HN5.out, HM5.out, HN6.out, HD6.out, HN7.out, HD7.out, HN8.out, HM8.out, HN9.out, HR9.out, HE9.out, HM9.out, HN10.out, HM10.out, HN11.out, HM11.out, HN12.out, HM12.out, HN13.out, HM13.out, HN14.out, HD14.out, HN15.out, HM15.out, HN16.out, rfl, ⟨hj, Or.inl (by omega)⟩, rfl, rfl, rfl, rfl⟩

end Go.Proofs.Ytcpegfjjdojinaa
