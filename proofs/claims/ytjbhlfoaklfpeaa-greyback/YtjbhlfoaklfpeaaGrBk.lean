/- GreyBack: what is pushed comes off again. -/
import Derived.Test.YtjbhlfoaklfpeaaGrK
import Derived.Test.YtjbhlfoaklfpeaaPick
import Derived.Test.YtjbhlfoaklfpeaaVsl
namespace Go.Proofs.Ytjbhlfoaklfpeaa
open Go.RowKit

theorem take_more {α : Type} (ls : List α) (k : Nat) (h : k < ls.length) : ls.take k ++ [ls[k]] = ls.take (k + 1) := (List.take_succ_eq_append_getElem h).symm

set_option maxRecDepth 20000 in
set_option maxHeartbeats 2000000 in
theorem greyBack_any (m : Int) (ls : List ByteArray) (v : Value) (w : World) (hv : Vs w v (ls.map Value.string)) (hreach : ls.length * 16 ≤ 140737488351232) :
    Calls Try.prog 5 #[.int .i64 m, v] w fun e w' => e = .returned (.bool true) ∧ Below w.heap.size w w' := by
  have hP := fun W => pick_any m 64 (by omega) (by omega) W
  have hlt := pickN_lt m 64 (by omega)
  have hM1 : (1 : Int) + (pickN m 64 : Int) = ((1 + pickN m 64 : Nat) : Int) := by omega
  obtain ⟨M, hM⟩ : ∃ M, M = 1 + pickN m 64 := ⟨_, rfl⟩
  rw [← hM] at hM1
  have h1 : 1 ≤ M := by omega
  have h2 : M ≤ 64 := by omega
  clear hM
  generalize pickN m 64 = p at *
  obtain ⟨ao, cap, hve, hcap, _⟩ := id hv
  rw [List.length_map] at hve hcap
  subst hve
  have HV : Hid _ := hidden hv
  clear hv
  have hB : ∀ W : World, Below w.heap.size w W → Vs W (.slice ao ls.length cap) (ls.map Value.string) := fun W hW => HV.out.below hW
  have HVB : Hid _ := hidden hB
  clear hB HV
  have hN := newS_ok w.heap.size M h1 h2 w
  generalize hBB : w.heap.size = B at *
  have HBB : Hid _ := hidden hBB
  clear hBB
  go_enter Try.func5, Try.ntmps5
  go_wp2_with fail
  refine (hP _).mono ?_
  rintro e _ ⟨rfl, rfl⟩
  go_wp2_with fail
  refine hN.mono ?_
  rintro e w1 ⟨rfl, x1, b1⟩
  have y1 : LS w B w1 B (.slice none 0 0) M [] false := ⟨x1, b1, by have := b1.size; have := HBB.out; omega, Nat.le_refl _⟩
  clear x1 b1 hP hN hM1 hlt
  go_wp2_with fail
  refine (gknown_any _).mono ?_
  rintro e w2 ⟨rfl, b2⟩
  have y2 := y1.read b2
  clear y1 b2 HBB
  have HY : Hid _ := hidden y2
  clear y2
  obtain ⟨n, hn⟩ : ∃ n, n = ls.length := ⟨_, rfl⟩
  rw [← hn] at hcap hreach ⊢
  have HN : Hid (n = ls.length) := hn
  clear hn
  go_wp2
  go_loopw [7] (fun i wr => ∃ k : Nat, k ≤ n ∧ i = .int .i64 (k : Int) ∧ ∃ v', LS w B wr B v' M (ls.take (min k M)) (decide (M < k))) (fun i _ => n - (intOf i).toNat)
  case atStart => exact ⟨0, Nat.zero_le _, rfl, _, HY.out⟩
  case round =>
    obtain ⟨k, hk, rfl, v', y⟩ := hrel
    clear HY
    have hnl := HN.out
    by_cases hlt : (k : Int) < (n : Int)
    · have hkl : k < ls.length := by omega
      have hkn : (0 : Int) ≤ (k : Int) := by omega
      obtain ⟨b, off, hao, hbl, hc⟩ := (HVB.out wr y.bel).cell k (by simpa using hkl)
      subst hao
      simp only [List.getElem_map] at hc
      by_cases hkM : (k : Int) < (M : Int)
      · have e1 : min k M = k := by omega
        have e2 : min (k + 1) M = k + 1 := by omega
        have e3 : decide (M < k) = false := by simp; omega
        have e4 : decide (M < k + 1) = false := by simp; omega
        rw [e1, e3] at y
        have hPu := pushS_room y.x (by rw [List.length_take]; omega) ls[k] y.le
        rw [take_more ls k hkl] at hPu
        have HE : Hid (min (k + 1) M = k + 1 ∧ decide (M < k + 1) = false) := ⟨e2, e4⟩
        have hkM' : ¬ ((M : Int) ≤ (k : Int)) := by omega
        have HY : Hid _ := hidden y
        clear e1 e2 e3 e4 y hnl
        generalize ls[k] = s at *
        go_wp2_with fail
        refine hPu.mono ?_
        rintro e w3 ⟨rfl, v3, g3⟩
        have y3 : LS w B w3 B v3 M (ls.take (k + 1)) false := HY.out.go g3
        have hOv := overS_any y3.x
        have HY3 : Hid _ := hidden y3
        clear hPu g3 y3 HY hc
        go_wp2_with fail
        refine hOv.mono ?_
        rintro e _ ⟨rfl, rfl⟩
        clear hOv
        go_wp2
        go_roundw
        case rel =>
          refine ⟨k + 1, by omega, by go_num, v3, ?_⟩
          rw [HE.out.1, HE.out.2]
          exact HY3.out
        case measure => simp [intOf]; omega
      · have e1 : min k M = M := by omega
        have e2 : min (k + 1) M = M := by omega
        have e4 : decide (M < k + 1) = true := by simp; omega
        rw [e1] at y
        have hPu := pushS_full y.x (by rw [List.length_take]; omega) ls[k]
        have HE : Hid (min (k + 1) M = M ∧ decide (M < k + 1) = true) := ⟨e2, e4⟩
        have hkM' : (M : Int) ≤ (k : Int) := by omega
        have HY : Hid _ := hidden y
        clear e1 e2 e4 y hnl
        generalize decide (M < k) = od at *
        generalize ls[k] = s at *
        go_wp2_with fail
        refine hPu.mono ?_
        rintro e w3 ⟨rfl, g3⟩
        have y3 : LS w B w3 B v' M (ls.take M) true := HY.out.go g3
        have hOv := overS_any y3.x
        have HY3 : Hid _ := hidden y3
        clear hPu g3 y3 HY hc
        go_wp2_with fail
        refine hOv.mono ?_
        rintro e _ ⟨rfl, rfl⟩
        clear hOv
        go_wp2
        go_roundw
        case rel =>
          refine ⟨k + 1, by omega, by go_num, v', ?_⟩
          rw [HE.out.1, HE.out.2]
          exact HY3.out
        case measure => simp [intOf]; omega
    · have hkn : k = n := by omega
      subst hkn
      clear hk
      obtain ⟨q0, hq0⟩ : ∃ q, q = min k M := ⟨_, rfl⟩
      rw [← hq0] at y
      have HQ : Hid (q0 = min k M) := hq0
      have HY : Hid _ := hidden y
      clear hq0 y hnl
      go_upto_region 10 with fail
      go_cut [8] from 55 to 59 (fun t wc => t = .int .i64 ((q0 : Int) - 1) ∧ wc = wr)
      case first =>
        by_cases hc : (k : Int) < (M : Int)
        · have e : q0 = k := by have := HQ.out; omega
          subst e
          clear HQ
          go_wp2
          go_meet
          exact ⟨by go_num, rfl⟩
        · by_cases hc2 : (M : Int) < (k : Int)
          · have e : q0 = M := by have := HQ.out; omega
            subst e
            clear HQ
            go_wp2
            go_meet
            exact ⟨by go_num, rfl⟩
          · have e : q0 = k := by have := HQ.out; omega
            subst e
            clear HQ
            go_wp2
            go_meet
            exact ⟨by go_num, rfl⟩
      case rest =>
        obtain ⟨rfl, rfl⟩ := hcut
        go_wp2
        go_loopw [8, 9, 10] (fun i _ _ wr => ∃ q : Nat, q ≤ q0 ∧ i = .int .i64 ((q : Int) - 1) ∧ ∃ v', LS w B wr B v' M (ls.take q) (decide (M < k))) (fun i _ _ _ => (intOf i + 1).toNat)
        case atStart => exact ⟨q0, Nat.le_refl _, rfl, _, HY.out⟩
        case round =>
          obtain ⟨q, hq, rfl, v5, y5⟩ := hrel
          clear HY
          have hql : q ≤ ls.length := by have := HQ.out; have := HN.out; omega
          have hqn : q ≤ k := by have := HQ.out; omega
          cases q with
          | zero =>
            rw [List.take_zero] at y5
            have hPo := popS_none y5.x
            have hOv := overS_any y5.x
            have HB : Hid _ := hidden y5.bel
            clear y5 hq hql hqn HQ HN HVB hcap hreach
            have hz : ¬ ((0 : Int) ≤ ((0 : Nat) : Int) - 1) := by omega
            go_wp2_with fail
            refine hPo.mono ?_
            rintro e _ ⟨rfl, rfl⟩
            clear hPo
            by_cases hMk : (M : Int) < (k : Int)
            · have e : decide (M < k) = true := by simp; omega
              rw [e] at hOv
              go_wp2_with fail
              refine hOv.mono ?_
              rintro e _ ⟨rfl, rfl⟩
              go_wp2
              go_ret
              exact ⟨rfl, HB.out⟩
            · have e : decide (M < k) = false := by simp; omega
              rw [e] at hOv
              go_wp2_with fail
              refine hOv.mono ?_
              rintro e _ ⟨rfl, rfl⟩
              go_wp2
              go_ret
              exact ⟨rfl, HB.out⟩
          | succ q =>
            rw [← take_more ls q (by omega)] at y5
            have hPo := popS_some y5.x
            obtain ⟨b, off, hao, hbl, hc⟩ := (HVB.out wr y5.bel).cell q (by simp; omega)
            subst hao
            simp only [List.getElem_map] at hc
            have hbB : b < B ∨ ¬ b < B := by omega
            have HC : Hid (∀ W : World, Below B w W → W.cell? ⟨b, off + q, none⟩ = some (Value.string ls[q])) := by
              intro W hW
              obtain ⟨b', off', hao', _, hc'⟩ := (HVB.out W hW).cell q (by simp; omega)
              simp only [Option.some.injEq, Addr.mk.injEq, and_true] at hao'
              obtain ⟨rfl, rfl⟩ := hao'
              simpa using hc'
            have HQ5 : Hid (q + 1 ≤ q0) := hq
            have HY5 : Hid _ := hidden y5
            have hqk : (q : Int) < (k : Int) := by omega
            have hq1 : ((q + 1 : Nat) : Int) - 1 = (q : Int) := by omega
            rw [hq1]
            clear y5 hbl hbB hc hq1
            generalize ls[q] = s at *
            clear hql hqn hq
            go_wp2_with fail
            refine hPo.mono ?_
            rintro e w6 ⟨rfl, v6, g6⟩
            have y6 : LS w B w6 B v6 M (ls.take q) (decide (M < k)) := HY5.out.go g6
            have hc6 := HC.out _ y6.bel
            have HY6 : Hid _ := hidden y6
            clear y6 g6 hPo HY5 HC
            go_wp2
            go_roundw
            case rel => exact ⟨q, by have := HQ5.out; omega, by go_num, v6, HY6.out⟩
            case measure => simp [intOf]

end Go.Proofs.Ytjbhlfoaklfpeaa
