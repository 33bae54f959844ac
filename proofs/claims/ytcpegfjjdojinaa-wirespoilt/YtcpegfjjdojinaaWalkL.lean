/- The plain saying of the Reader: numbers. -/
import Derived.Test.YtcpegfjjdojinaaWalkK
namespace Go.Proofs.Ytcpegfjjdojinaa
open Go.RowKit

theorem add64 (acc k : Nat) (d : UInt8) (hacc : acc < 2 ^ (7 * k)) (hk : k ≤ 9) (h9 : k = 9 → d.toNat ≤ 1) :
    IntKind.u64.wrap ((acc : Int) + IntKind.u64.wrap ((d.toNat : Int) % 128 * 2 ^ (7 * k))) = ((acc + 2 ^ (7 * k) * (d.toNat % 128) : Nat) : Int) := by
  have hd := d.toNat_lt
  have hlt : 2 ^ (7 * k) * (d.toNat % 128) + 2 ^ (7 * k) ≤ 18446744073709551616 := by
    by_cases h : k = 9
    · subst h
      have := h9 rfl
      have hm : 2 ^ (7 * 9) * (d.toNat % 128) ≤ 2 ^ (7 * 9) * 1 := Nat.mul_le_mul_left _ (by omega)
      omega
    · have hm : 2 ^ (7 * k) * (d.toNat % 128) ≤ 2 ^ (7 * k) * 127 := Nat.mul_le_mul_left _ (by omega)
      have he : 2 ^ (7 * k) ≤ 2 ^ 56 := Nat.pow_le_pow_right (by omega) (by omega)
      omega
  have e : IntKind.u64.wrap ((d.toNat : Int) % 128 * 2 ^ (7 * k)) = ((2 ^ (7 * k) * (d.toNat % 128) : Nat) : Int) := by
    rw [show (d.toNat : Int) % 128 * 2 ^ (7 * k) = ((2 ^ (7 * k) * (d.toNat % 128) : Nat) : Int) by push_cast; rw [Int.mul_comm], IntKind.wrap_u64]
    omega
  rw [e, IntKind.wrap_u64]
  omega

set_option maxRecDepth 20000 in
set_option maxHeartbeats 2000000 in
theorem fnum_any (w : World) (fb cap : Nat) (ao : Option Addr) (L : List UInt8) (p e : Nat) (most : Nat) (h : RF w fb ao cap L p e) :
    Calls Try.prog 75 #[.pointer (some ⟨fb, 0, none⟩), .int .u64 (most : Int)] w fun r w' => r = .returned (.int .u64 ((rNum L p e most).1 : Int)) ∧ FTo w w' fb ao cap L (rNum L p e most).2.1 (rNum L p e most).2.2 := by
  have h0 := h.c0
  have h1 := h.c1
  have h2 := h.c2
  have hlen := h.len
  have hp := h.le
  by_cases he : e = 0
  · subst he
    go_enter Try.func75, Try.ntmps75
    go_wp2
    go_loop [6, 7] (fun n i => ∃ k acc : Nat, i = .int .i64 k ∧ n = .int .u64 acc ∧ p + k ≤ L.length ∧ k ≤ 9 ∧ acc < 2 ^ (7 * k) ∧ nm (L.drop (p + k)) k acc = nm (L.drop p) 0 0) (fun _ i => L.length - (intOf i).toNat)
    case atStart => exact ⟨0, 0, rfl, rfl, by omega, by omega, by simp, rfl⟩
    case round =>
      obtain ⟨k, acc, rfl, rfl, hk, hk9, hacc, hnm⟩ := hrel
      have HA : Hid (acc < 2 ^ (7 * k)) := hacc
      by_cases hlt : p + k < L.length
      · obtain ⟨b, off, rfl, hne, hc⟩ := h.at hlt
        have hb := L[p + k].toNat_lt
        rw [List.drop_eq_getElem_cons hlt] at hnm
        have HN : Hid _ := hnm
        clear hnm hacc
        generalize L[p + k] = d at *
        by_cases h1' : k = 9
        · have t1 : ((k : Int) == 9) = true := by rw [beq_iff_eq]; omega
          have HK : Hid (k = 9) := h1'
          by_cases hd2 : 1 < d.toNat
          · clear h1'
            go_wp2_with (go_at_call 71; refine (fwrong_any _ fb cap _ L p 0 h p 21 21 rfl hp).mono ?_; rintro r w4 ⟨rfl, hto⟩)
            go_ret
            have e := HN.out
            rw [nm_bad HK.out hd2] at e
            have er := rNum_bad (most := most) (by rw [← e]; simp)
            rw [← e] at er
            rw [er]
            exact ⟨rfl, hto⟩
          · have hor := add64 acc k d HA.out hk9 (fun _ => by omega)
            by_cases h3 : d.toNat = 0
            · have t3 : ((d.toNat : Int) == 0) = true := by rw [beq_iff_eq]; omega
              have HZ : Hid (d.toNat = 0) := h3
              have hkp : 0 < k := by omega
              clear h1' h3
              go_wp2_with (go_at_call 71; refine (fwrong_any _ fb cap _ L p 0 h p 21 21 rfl hp).mono ?_; rintro r w4 ⟨rfl, hto⟩)
              go_ret
              have e := HN.out
              rw [nm_zero HZ.out hkp] at e
              have er := rNum_bad (most := most) (by rw [← e]; simp)
              rw [← e] at er
              rw [er]
              exact ⟨rfl, hto⟩
            · have t3 : ((d.toNat : Int) == 0) = false := by rw [beq_eq_false_iff_ne]; omega
              have HZ : Hid (d.toNat ≠ 0) := h3
              clear h1' h3
              have hvl : acc + 2 ^ (7 * k) * (d.toNat % 128) < 18446744073709551616 := by
                have e := HN.out
                rw [nm_last (fun _ => by omega) (by omega) (fun h => absurd h HZ.out)] at e
                have := (nm_spec (L.drop p) 0 0 (by omega) (by simp)).2.1
                rw [← e] at this
                exact this
              have e : Hid _ := HN.out
              rw [nm_last (fun _ => by omega) (by omega) (fun h => absurd h HZ.out)] at e
              clear HN
              generalize hV : acc + 2 ^ (7 * k) * (d.toNat % 128) = V at *
              clear hV
              by_cases hm : most < V
              · go_wp2_with (go_at_call 71; refine (fwrong_any _ fb cap _ L p 0 h p 22 22 rfl hp).mono ?_; rintro r w4 ⟨rfl, hto⟩)
                go_ret
                have e' := e.out
                have er := rNum_long (most := most) (by rw [← e']) (by rw [← e']; exact hm)
                rw [er]
                exact ⟨rfl, hto⟩
              · have f1 := h.free 1
                go_wp2
                go_ret
                have e' := e.out
                have er := rNum_ok (most := most) (by rw [← e']) (by rw [← e']; exact hm)
                rw [← e'] at er
                rw [er]
                have hs := h.setPlace (p + (k + 1)) ((p : Int) + (k : Int) + 1) (by omega) (by omega)
                exact ⟨rfl, hs.1, hs.2⟩
        · have t1 : ((k : Int) == 9) = false := by rw [beq_eq_false_iff_ne]; omega
          have hor := add64 acc k d HA.out hk9 (fun h => absurd h h1')
          have HK : Hid (k ≠ 9) := h1'
          clear h1'
          by_cases hd2 : 128 ≤ d.toNat
          · go_wp2
            go_round
            case rel =>
              have := HK.out
              refine ⟨k + 1, _, by go_num, rfl, by omega, by omega, acc_next acc k d HA.out, ?_⟩
              have e := HN.out
              rw [nm_more HK.out hd2] at e
              exact e
            case measure => simp [intOf]; omega
          · by_cases h3 : d.toNat = 0
            · have t3 : ((d.toNat : Int) == 0) = true := by rw [beq_iff_eq]; omega
              have HZ : Hid (d.toNat = 0) := h3
              clear h3
              by_cases h4 : 0 < k
              · go_wp2_with (go_at_call 71; refine (fwrong_any _ fb cap _ L p 0 h p 21 21 rfl hp).mono ?_; rintro r w4 ⟨rfl, hto⟩)
                go_ret
                have e := HN.out
                rw [nm_zero HZ.out h4] at e
                have er := rNum_bad (most := most) (by rw [← e]; simp)
                rw [← e] at er
                rw [er]
                exact ⟨rfl, hto⟩
              · have hvl : acc + 2 ^ (7 * k) * (d.toNat % 128) < 18446744073709551616 := by
                  have e := HN.out
                  rw [nm_last (fun h => absurd h HK.out) (by omega) (fun _ => by omega)] at e
                  have := (nm_spec (L.drop p) 0 0 (by omega) (by simp)).2.1
                  rw [← e] at this
                  exact this
                have e : Hid _ := HN.out
                rw [nm_last (fun h => absurd h HK.out) (by omega) (fun _ => by omega)] at e
                clear HN
                generalize hV : acc + 2 ^ (7 * k) * (d.toNat % 128) = V at *
                clear hV
                by_cases hm : most < V
                · go_wp2_with (go_at_call 71; refine (fwrong_any _ fb cap _ L p 0 h p 22 22 rfl hp).mono ?_; rintro r w4 ⟨rfl, hto⟩)
                  go_ret
                  have e' := e.out
                  have er := rNum_long (most := most) (by rw [← e']) (by rw [← e']; exact hm)
                  rw [er]
                  exact ⟨rfl, hto⟩
                · have f1 := h.free 1
                  go_wp2
                  go_ret
                  have e' := e.out
                  have er := rNum_ok (most := most) (by rw [← e']) (by rw [← e']; exact hm)
                  rw [← e'] at er
                  rw [er]
                  have hs := h.setPlace (p + (k + 1)) ((p : Int) + (k : Int) + 1) (by omega) (by omega)
                  exact ⟨rfl, hs.1, hs.2⟩
            · have t3 : ((d.toNat : Int) == 0) = false := by rw [beq_eq_false_iff_ne]; omega
              have HZ : Hid (d.toNat ≠ 0) := h3
              clear h3
              have hvl : acc + 2 ^ (7 * k) * (d.toNat % 128) < 18446744073709551616 := by
                have e := HN.out
                rw [nm_last (fun h => absurd h HK.out) (by omega) (fun h => absurd h HZ.out)] at e
                have := (nm_spec (L.drop p) 0 0 (by omega) (by simp)).2.1
                rw [← e] at this
                exact this
              have e : Hid _ := HN.out
              rw [nm_last (fun h => absurd h HK.out) (by omega) (fun h => absurd h HZ.out)] at e
              clear HN
              generalize hV : acc + 2 ^ (7 * k) * (d.toNat % 128) = V at *
              clear hV
              by_cases hm : most < V
              · go_wp2_with (go_at_call 71; refine (fwrong_any _ fb cap _ L p 0 h p 22 22 rfl hp).mono ?_; rintro r w4 ⟨rfl, hto⟩)
                go_ret
                have e' := e.out
                have er := rNum_long (most := most) (by rw [← e']) (by rw [← e']; exact hm)
                rw [er]
                exact ⟨rfl, hto⟩
              · have f1 := h.free 1
                go_wp2
                go_ret
                have e' := e.out
                have er := rNum_ok (most := most) (by rw [← e']) (by rw [← e']; exact hm)
                rw [← e'] at er
                rw [er]
                have hs := h.setPlace (p + (k + 1)) ((p : Int) + (k : Int) + 1) (by omega) (by omega)
                exact ⟨rfl, hs.1, hs.2⟩
      · have hkl : L.drop (p + k) = [] := List.drop_eq_nil_of_le (by omega)
        rw [hkl] at hnm
        have HN : Hid _ := hnm
        clear hnm hacc hkl
        go_wp2_with (go_at_call 71; refine (fwrong_any _ fb cap _ L p 0 h p 20 20 rfl hp).mono ?_; rintro r w4 ⟨rfl, hto⟩)
        go_ret
        have e := HN.out
        rw [nm] at e
        have er := rNum_bad (most := most) (by rw [← e]; simp)
        rw [← e] at er
        rw [er]
        exact ⟨rfl, hto⟩
  · have t : ((e : Int) != 0) = true := by rw [bne_iff_ne]; omega
    rw [rNum_wrong he]
    clear he
    go_enter Try.func75, Try.ntmps75
    go_wp2
    go_ret
    exact ⟨rfl, FTo.refl h⟩

end Go.Proofs.Ytcpegfjjdojinaa
