/- The plain roots: Count. -/
import Derived.Test.YtfoodmlgknckgaaRoPb
namespace Go.Proofs.Ytfoodmlgknckgaa
open Go.RowKit

section
variable {w : World} {rb tb cap K : Nat} {gs : List Nat} {S : List Rw}
set_option maxRecDepth 20000 in
set_option maxHeartbeats 1000000 in
theorem rcount_any (x : RX w rb tb cap gs K S) (a : Int) (n : Nat) :
    Calls Try.prog 18 #[.pointer (some ⟨rb, 0, none⟩), .agg #[.int .i64 a, .int .u64 (n : Int)]] w fun e w' => e = .returned (.int .i64 (cntR S (a, n) : Int)) ∧ Below w.heap.size w w' := by
  have hf := x.few
  unfold maxLen at hf
  have hB0 := bel_alloc w (.cells #[.int .i64 a, .int .u64 (n : Int)] 30)
  have q0 : Row (w.alloc (.cells #[.int .i64 a, .int .u64 (n : Int)] 30)) w.heap.size 30 [.int .i64 a, .int .u64 (n : Int)] := heap_alloc_new w _
  have x0 := x.below hB0
  have hcl := cnt_len x (a, n)
  have hct := cnt_take S (a, n)
  have hall : cntR (S.take S.length) (a, n) = cntR S (a, n) := by rw [List.take_of_length_le (Nat.le_refl _)]
  obtain ⟨N, hN⟩ : ∃ N, N = S.length := ⟨_, rfl⟩
  have c0 := x.box
  have l0 := cell_lt c0
  rw [← hN] at c0 hf hall
  have hge := guardID
  have hee := eqID
  have HN : Hid (N = S.length) := hN
  have HX : Hid _ := hidden x0
  have HQ : Hid _ := hidden q0
  have HB0 : Hid _ := hidden hB0
  have HL : Hid _ := hidden hcl
  have HC : Hid _ := hidden hct
  have HA : Hid _ := hidden hall
  clear x hN x0 q0 hB0 hcl hct hall
  go_enter Try.func18, Try.ntmps18
  go_wp2
  go_loopw [5, 6] (fun v i wr => ∃ k : Nat, k ≤ N ∧ i = .int .i64 (k : Int) ∧ v = .int .i64 (cntR (S.take k) (a, n) : Int) ∧ Below (w.alloc (.cells #[.int .i64 a, .int .u64 (n : Int)] 30)).heap.size (w.alloc (.cells #[.int .i64 a, .int .u64 (n : Int)] 30)) wr) (fun _ i _ => N - (intOf i).toNat)
  case atStart => exact ⟨0, Nat.zero_le _, rfl, rfl, Below.refl _ _⟩
  case round =>
    clear c0 l0
    obtain ⟨w1, hw1⟩ : ∃ x, x = wr := ⟨_, rfl⟩
    subst hw1
    obtain ⟨k, hk, rfl, rfl, hb⟩ := hrel
    have x1 := HX.out.below hb
    have c0 := x1.box
    rw [← HN.out] at c0
    have l0 := cell_lt c0
    by_cases hlt : (k : Int) < (N : Int)
    · have hkS : k < S.length := by have := HN.out; omega
      obtain ⟨g, hg, c1, hr, hl⟩ := x1.at k hkS
      have l1 := cell_lt c1
      have hC := HC.out k hkS
      have hL0 := HL.out k
      have hL1 := HL.out (k + 1)
      rw [hC] at hL1
      have HK : Hid (k + 1 ≤ N) := by
        have e : k + 1 ≤ N := by omega
        exact e
      generalize S[k] = r at *
      have HE : Hid _ := hidden hC
      have HR : Hid _ := hidden hr
      have HB : Hid _ := hidden hb
      have HLn : Hid _ := hidden hl
      generalize cntR (S.take k) (a, n) = M at *
      have H0 : Hid _ := hidden c0
      have H1 : Hid _ := hidden c1
      clear x1 hg hC hL1 hr hb hl hkS c1
      go_wp2
      clear c0
      go_loopw [5, 7] (fun v i wr' => ∃ j : Nat, j ≤ K ∧ i = .int .i64 (j : Int) ∧ v = .int .i64 ((M + (r.take j).countP (fun y => sameI y (a, n)) : Nat) : Int) ∧ Below w1.heap.size w1 wr') (fun _ i _ => K - (intOf i).toNat)
      case atStart => exact ⟨0, Nat.zero_le _, rfl, rfl, Below.refl _ _⟩
      case round =>
        obtain ⟨j, hj, rfl, rfl, hb2⟩ := hrel
        have hz2 := hb2.size
        have d8 := (hb2.cell (p := ⟨rb, 0, none⟩) (by show rb < w1.heap.size; exact l0)).trans H0.out
        have d9 := (hb2.cell (p := ⟨tb, k, none⟩) (by show tb < w1.heap.size; exact l1)).trans H1.out
        by_cases hjt : (j : Int) < (K : Int)
        · have hjr : j < r.length := by have := HLn.out; omega
          obtain ⟨e0, e1⟩ := idsV_at r j hjr
          have hr2 := HR.out.below hb2
          have d0 := hr2.at _ _ e0
          have d1 := hr2.at _ _ e1
          have hq2 := (HQ.out.below HB.out).below hb2
          have b0 := hq2.cell 0 (by simp)
          have b1 := hq2.cell 1 (by simp)
          simp only [List.getElem_cons_succ, List.getElem_cons_zero] at b0 b1
          have hct := cntp_take r (a, n) j hjr
          have hcl : (r.take j).countP (fun y => sameI y (a, n)) ≤ K := by
            have h1 := List.countP_le_length (p := fun y => sameI y (a, n)) (l := r.take j)
            have h2 : (r.take j).length ≤ j := List.length_take_le _ _
            omega
          have HJ : Hid (j + 1 ≤ K) := by
            have e : j + 1 ≤ K := by omega
            exact e
          generalize r[j] = y at *
          generalize (r.take j).countP (fun y => sameI y (a, n)) = C at *
          have HB2 : Hid _ := hidden hb2
          clear hr2 hq2 e0 e1 hjr hb2
          cases hs : sameI y (a, n) with
          | true =>
            rw [hs, if_pos rfl] at hct
            have HCt : Hid _ := hidden hct
            have hq : (y.1 == a && ((y.2 : Int) == (n : Int))) = true := hs
            clear hct hs
            go_wp2
            go_quiet (fail)
            go_wp2
            go_roundw
            case rel => exact ⟨j + 1, HJ.out, by go_num, by rw [HCt.out]; go_num, HB2.out.trans ((below_drewN0 _ _).mono hz2)⟩
            case measure => have := HJ.out; simp [intOf]; omega
          | false =>
            rw [hs, if_neg (by simp)] at hct
            have HCt : Hid _ := hidden hct
            have hq : (y.1 == a && ((y.2 : Int) == (n : Int))) = false := hs
            clear hct hs
            go_wp2
            go_quiet (fail)
            go_wp2
            go_roundw
            case rel => exact ⟨j + 1, HJ.out, by go_num, by rw [HCt.out, Nat.add_zero], HB2.out.trans ((below_drewN0 _ _).mono hz2)⟩
            case measure => have := HJ.out; simp [intOf]; omega
        · have hM : (r.take j).countP (fun y => sameI y (a, n)) = r.countP (fun y => sameI y (a, n)) := by
            rw [List.take_of_length_le (by have := HLn.out; omega)]
          rw [hM, ← HE.out]
          have HB2 : Hid _ := hidden hb2
          clear hM hb2
          go_wp2
          go_roundw
          case rel => exact ⟨k + 1, HK.out, by go_num, rfl, HB.out.trans (HB2.out.mono HB.out.size)⟩
          case measure => have := HK.out; simp [intOf]; omega
    · have hkN : k = N := by omega
      rw [hkN, HA.out]
      have HB : Hid _ := hidden hb
      clear hkN hb x1
      go_wp2
      go_ret
      exact ⟨rfl, HB0.out.trans (HB.out.mono HB0.out.size)⟩
end

end Go.Proofs.Ytfoodmlgknckgaa
