/- The plain roots: Has, ID, Of, All, Count. -/
import Derived.Test.YtfoodmlgknckgaaRoP
namespace Go.Proofs.Ytfoodmlgknckgaa
open Go.RowKit

section
variable {w : World} {rb tb cap K : Nat} {gs : List Nat} {S : List Rw}
set_option maxRecDepth 20000 in
set_option maxHeartbeats 400000 in
theorem rhas_any (x : RX w rb tb cap gs K S) (m s : Int) :
    Calls Try.prog 15 #[.pointer (some ⟨rb, 0, none⟩), .int .i64 m, .int .i64 s] w fun e w' => e = .returned (.bool (hasB S m s)) ∧ w = w' := by
  have c0 := x.box
  have hf := x.few
  unfold maxLen at hf
  by_cases h0 : 0 ≤ m
  · by_cases h1 : m < (S.length : Int)
    · obtain ⟨i, rfl⟩ : ∃ i : Nat, m = (i : Int) := ⟨m.toNat, by omega⟩
      have hi : i < S.length := by omega
      obtain ⟨g, hg, c1, hr0, hl⟩ := x.at i hi
      have e : hasB S (i : Int) s = (decide (0 ≤ s) && decide (s < (K : Int))) := by
        unfold hasB
        rw [rowR_nat S i hi, hl]
      rw [e]
      clear e x hl hg hr0 hi h0
      generalize S.length = n at *
      by_cases hs : 0 ≤ s
      · go_enter Try.func15, Try.ntmps15
        go_wp2
        go_ret
        exact ⟨congrArg (fun b => Ending.returned (.bool b)) (by simp [hs]), rfl⟩
      · go_enter Try.func15, Try.ntmps15
        go_wp2
        go_ret
        exact ⟨congrArg (fun b => Ending.returned (.bool b)) (by simp; omega), rfl⟩
    · have e : hasB S m s = false := by
        unfold hasB
        rw [rowR_no S m (Or.inr (by omega))]
        simp
      rw [e]
      clear e x
      generalize S.length = n at *
      go_enter Try.func15, Try.ntmps15
      go_wp2
      go_ret
      exact ⟨rfl, rfl⟩
  · have e : hasB S m s = false := by
      unfold hasB
      rw [rowR_no S m (Or.inl (by omega))]
      simp
    rw [e]
    clear e x
    generalize S.length = n at *
    go_enter Try.func15, Try.ntmps15
    go_wp2
    go_ret
    exact ⟨rfl, rfl⟩

set_option maxRecDepth 20000 in
set_option maxHeartbeats 400000 in
theorem rid_any (a : Int) (n : Nat) (w : World) :
    Calls Try.prog 16 #[.agg #[.int .i64 a, .int .u64 (n : Int)]] w fun e w' => e = .returned (.bool (rightI (a, n))) ∧ Below w.heap.size w w' := by
  by_cases hz : a = 0
  · subst hz
    have e : rightI (0, n) = ((n : Int) == 0) := by
      by_cases hn : n = 0
      · subst hn
        rfl
      · rw [rightI_no (fun e => hn e.2) (fun e => by omega)]
        symm
        rw [beq_eq_false_iff_ne]
        omega
    rw [e]
    go_enter Try.func16, Try.ntmps16
    go_wp2
    go_ret
    exact ⟨rfl, (Below.refl _ _).alloc (Nat.le_refl _) _⟩
  · have hz0 : (a == 0) = false := by rw [beq_eq_false_iff_ne]; exact hz
    have hzz : ¬ (a = 0 ∧ n = 0) := fun e => hz e.1
    clear hz
    by_cases h1 : 1 ≤ a
    · by_cases h4 : a ≤ 64
      · by_cases h2 : 1 ≤ n
        · have h2i : (1 : Int) ≤ (n : Int) := by omega
          by_cases h3 : n ≤ 72057594037927935
          · have h3i : (n : Int) ≤ 72057594037927935 := by omega
            rw [rightI_yes (Or.inr ⟨h1, h4, h2, h3⟩)]
            clear h2 h3 hzz
            go_enter Try.func16, Try.ntmps16
            go_wp2
            go_ret
            exact ⟨rfl, (Below.refl _ _).alloc (Nat.le_refl _) _⟩
          · have h3i : decide ((n : Int) ≤ 72057594037927935) = false := decide_eq_false (by omega)
            rw [rightI_no hzz (fun e => h3 e.2.2.2)]
            clear h2 h3 hzz
            go_enter Try.func16, Try.ntmps16
            go_wp2
            go_ret
            exact ⟨rfl, (Below.refl _ _).alloc (Nat.le_refl _) _⟩
        · have h2i : decide ((1 : Int) ≤ (n : Int)) = false := decide_eq_false (by omega)
          rw [rightI_no hzz (fun e => h2 e.2.2.1)]
          clear h2 hzz
          go_enter Try.func16, Try.ntmps16
          go_wp2
          go_ret
          exact ⟨rfl, (Below.refl _ _).alloc (Nat.le_refl _) _⟩
      · have h4i : decide (a ≤ 64) = false := decide_eq_false h4
        rw [rightI_no hzz (fun e => h4 e.2.1)]
        clear h4 hzz
        go_enter Try.func16, Try.ntmps16
        go_wp2
        go_ret
        exact ⟨rfl, (Below.refl _ _).alloc (Nat.le_refl _) _⟩
    · have h1i : decide (1 ≤ a) = false := decide_eq_false h1
      rw [rightI_no hzz (fun e => h1 e.1)]
      clear h1 hzz
      go_enter Try.func16, Try.ntmps16
      go_wp2
      go_ret
      exact ⟨rfl, (Below.refl _ _).alloc (Nat.le_refl _) _⟩

set_option maxRecDepth 20000 in
set_option maxHeartbeats 400000 in
theorem rof_no (x : RX w rb tb cap gs K S) (m : Int) (h : m < 0 ∨ (S.length : Int) ≤ m) :
    Calls Try.prog 20 #[.pointer (some ⟨rb, 0, none⟩), .int .i64 m] w fun e w' => e = .returned (.slice none 0 0) ∧ w = w' := by
  have c0 := x.box
  have hf := x.few
  unfold maxLen at hf
  clear x
  generalize S.length = n at *
  by_cases h1 : m < 0
  · clear h
    go_enter Try.func20, Try.ntmps20
    go_wp2
    go_ret
    exact ⟨rfl, rfl⟩
  · have h2 : (n : Int) ≤ m := by omega
    clear h
    go_enter Try.func20, Try.ntmps20
    go_wp2
    go_ret
    exact ⟨rfl, rfl⟩
set_option maxRecDepth 20000 in
set_option maxHeartbeats 1000000 in
theorem rof_ok (x : RX w rb tb cap gs K S) (m : Nat) (h : m < S.length) :
    Calls Try.prog 20 #[.pointer (some ⟨rb, 0, none⟩), .int .i64 (m : Int)] w fun e w' => ∃ v, e = .returned v ∧ OwI w' w.heap.size v (keepR S[m]) ∧ Below w.heap.size w w' := by
  obtain ⟨g, hg, c1, hr, hl⟩ := x.at m h
  have c0 := x.box
  have l0 := cell_lt c0
  have l1 := cell_lt c1
  have hf := x.few
  unfold maxLen at hf
  have hgl := hr.lt
  have hge := guardID
  have hee := eqID
  have hmi : (m : Int) < (S.length : Int) := by omega
  generalize S[m] = r at *
  have HX : Hid _ := hidden x
  clear x hg h
  generalize hn : S.length = n at *
  clear hn
  generalize hG : w.heap.size = B at *
  go_enter Try.func20, Try.ntmps20
  go_wp2
  go_loopw [5, 6] (fun v i wr => ∃ k : Nat, k ≤ K ∧ i = .int .i64 (k : Int) ∧ OwI wr B v (keepR (r.take k)) ∧ Below B w wr) (fun _ i _ => K - (intOf i).toNat)
  case atStart => exact ⟨0, Nat.zero_le _, rfl, OwI.nil _ _, Below.refl _ _⟩
  case round =>
    obtain ⟨k, hk, rfl, ho, hb⟩ := hrel
    have hz : B ≤ wr.heap.size := by have := hb.size; omega
    have hlen := keep_len (r.take k)
    simp only [List.length_take] at hlen
    have d8 := (hb.cell (p := ⟨rb, 0, none⟩) (by show rb < B; exact l0)).trans c0
    have d9 := (hb.cell (p := ⟨tb, m, none⟩) (by show tb < B; exact l1)).trans c1
    by_cases hlt : (k : Int) < (K : Int)
    · obtain ⟨e0, e1⟩ := idsV_at r k (by omega)
      have hrr : Row wr g 30 (idsV r) := hr.kept (Kept.mono (S := fun _ => False) ⟨hb.os, hb.tape, hb.output, by omega, fun q hq _ => hb.block q (by omega)⟩ (fun _ _ e => e)) id
      have d0 := hrr.at _ _ e0
      have d1 := hrr.at _ _ e1
      have ky := keep_yes (r := r) (k := k) (by omega)
      have kn := keep_no (r := r) (k := k) (by omega)
      have HK : Hid (k + 1 ≤ K) := by
        have e : k + 1 ≤ K := by omega
        exact e
      generalize hX : r[k] = y at *
      cases hn : noneI y with
      | true =>
        have HE : Hid _ := hidden (kn hn)
        have hq : (y.1 == 0 && ((y.2 : Int) == 0)) = true := hn
        have HO : Hid _ := hidden ho
        have HB : Hid _ := hidden hb
        clear ky kn hn hrr e0 e1 hX ho hb hr hlen c0 c1
        go_wp2
        go_roundw
        case rel => exact ⟨k + 1, HK.out, by go_num, by rw [HE.out]; exact HO.out, HB.out⟩
        case measure => have := HK.out; simp [intOf]; omega
      | false =>
        have HE : Hid _ := hidden (ky hn)
        have hq : (y.1 == 0 && ((y.2 : Int) == 0)) = false := hn
        have HO : Hid _ := hidden ho
        have HB : Hid _ := hidden hb
        have HL : Hid _ := hidden hlen
        clear ky kn hn hrr e0 e1 hX ho hb hr hlen c0 c1
        go_wp2_with (at_builtin; refine wpList_owI rfl (.tmp 42) (.tmp 53) rfl B _ (keepR (r.take k)) rfl (HO.out.below (bel_alloc _ _)) _ [(y.1, y.2)] rfl (sr_id _ y.1 y.2 _) (by have := HL.out; simp; omega) (by simp; omega) ?_; intro v5 w5 ho5 hk5 hm5)
        have HR : Hid _ := hidden (And.intro ho5 hk5)
        clear ho5 hk5 hm5
        go_roundw
        case rel =>
          obtain ⟨ho5, hk5⟩ := HR.out
          refine ⟨k + 1, HK.out, by go_num, by rw [HE.out]; exact ho5, ?_⟩
          have h2 := bel_alloc wr (.cells #[.int .i64 y.1, .int .u64 (y.2 : Int)] 30)
          exact (HB.out.trans (h2.mono hz)).trans (hk5.below (Nat.le_trans hz h2.size) (fun q hq e => by have := (HO.out.ge q e).1; omega))
        case measure => have := HK.out; simp [intOf]; omega
    · have hkK : k = K := by omega
      rw [List.take_of_length_le (by omega)] at ho
      have HO : Hid _ := hidden ho
      have HB : Hid _ := hidden hb
      clear hkK ho hb hlen c0 c1 hr
      go_wp2
      go_ret
      exact ⟨_, rfl, HO.out, HB.out⟩
theorem rof_any (x : RX w rb tb cap gs K S) (m : Int) :
    Calls Try.prog 20 #[.pointer (some ⟨rb, 0, none⟩), .int .i64 m] w fun e w' => ∃ v, e = .returned v ∧ OwI w' w.heap.size v (ofR S m) ∧ Below w.heap.size w w' := by
  unfold ofR
  by_cases hm : m < 0 ∨ (S.length : Int) ≤ m
  · rw [rowR_no S m hm]
    refine (rof_no x m hm).mono ?_
    rintro e w' ⟨rfl, rfl⟩
    exact ⟨_, rfl, OwI.nil _ _, Below.refl _ _⟩
  · obtain ⟨i, rfl⟩ : ∃ i : Nat, m = (i : Int) := ⟨m.toNat, by omega⟩
    have hi : i < S.length := by omega
    rw [rowR_nat S i hi]
    exact rof_ok x i hi

set_option maxRecDepth 20000 in
set_option maxHeartbeats 1000000 in
theorem rall_any (x : RX w rb tb cap gs K S) :
    Calls Try.prog 21 #[.pointer (some ⟨rb, 0, none⟩)] w fun e w' => ∃ v, e = .returned v ∧ OwI w' w.heap.size v (allR S) ∧ Below w.heap.size w w' := by
  have c0 := x.box
  have l0 := cell_lt c0
  have hf := x.few
  unfold maxLen at hf
  have hal := all_len x
  have hOf := fun W (hW : Below w.heap.size w W) m (hm : m < S.length) => rof_ok (x.below hW) m hm
  have hal1 : ∀ k (h : k < S.length), allR (S.take (k + 1)) = allR (S.take k) ++ keepR S[k] := fun k h => by
    unfold allR
    rw [List.take_succ_eq_append_getElem h, List.flatMap_append]
    simp
  have hall : allR (S.take S.length) = allR S := by rw [List.take_of_length_le (Nat.le_refl _)]
  clear x
  generalize hG : w.heap.size = B at *
  obtain ⟨N, hN⟩ : ∃ N, N = S.length := ⟨_, rfl⟩
  rw [← hN] at c0 hf hall
  have HN : Hid (N = S.length) := hN
  clear hN
  go_enter Try.func21, Try.ntmps21
  go_wp2
  go_loopw [3, 4] (fun v i wr => ∃ k : Nat, k ≤ N ∧ i = .int .i64 (k : Int) ∧ OwI wr B v (allR (S.take k)) ∧ Below B w wr) (fun _ i _ => N - (intOf i).toNat)
  case atStart => exact ⟨0, Nat.zero_le _, rfl, OwI.nil _ _, Below.refl _ _⟩
  case round =>
    obtain ⟨k, hk, rfl, ho, hb⟩ := hrel
    have hz : B ≤ wr.heap.size := by have := hb.size; omega
    have hlen := hal k
    have d8 := (hb.cell (p := ⟨rb, 0, none⟩) (by show rb < B; exact l0)).trans c0
    by_cases hlt : (k : Int) < (N : Int)
    · have hkS : k < S.length := by have := HN.out; omega
      have hO := hOf wr hb k hkS
      have h1 := hal1 k hkS
      have h2 := hal (k + 1)
      rw [h1, List.length_append] at h2
      generalize S[k] = r at *
      have HK : Hid (k + 1 ≤ N) := by
        have e : k + 1 ≤ N := by omega
        exact e
      have HE : Hid _ := hidden h1
      have HL : Hid _ := hidden h2
      have HO : Hid _ := hidden ho
      have HB : Hid _ := hidden hb
      clear hal hal1 hall h1 h2 hOf ho hb hlen hkS c0
      go_wp2_with (first
        | (go_at_call 20; refine hO.mono ?_; rintro e w1 ⟨v1, rfl, o1, b1⟩)
        | (at_builtin; refine wpList_owI rfl (.tmp 14) (.tmp 17) rfl B _ (allR (S.take k)) rfl (HO.out.below b1) _ (keepR r) rfl o1.sr (by have := HL.out; omega) (Nat.le_trans hz b1.size) ?_; intro v5 w5 ho5 hk5 hm5; have HR : Hid _ := hidden (And.intro b1 (And.intro ho5 hk5)); clear b1 o1 ho5 hk5 hm5))
      go_roundw
      case rel =>
        obtain ⟨b1, ho5, hk5⟩ := HR.out
        refine ⟨k + 1, HK.out, by go_num, by rw [HE.out]; exact ho5, ?_⟩
        exact (HB.out.trans (b1.mono hz)).trans (hk5.below (Nat.le_trans hz b1.size) (fun q hq e => by have := (HO.out.ge q e).1; omega))
      case measure => have := HK.out; simp [intOf]; omega
    · have hkK : k = N := by omega
      rw [hkK, hall] at ho
      clear hal hal1 hOf hkK hlen hall c0
      go_wp2
      go_ret
      exact ⟨_, rfl, ho, hb⟩
end

end Go.Proofs.Ytfoodmlgknckgaa
