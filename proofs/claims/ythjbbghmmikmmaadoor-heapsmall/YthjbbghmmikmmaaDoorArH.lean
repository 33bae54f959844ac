/- Free, Room, Used. -/
import Derived.Test.YthjbbghmmikmmaaDoorArG
namespace Go.Proofs.YthjbbghmmikmmaaDoor
open Go.RowKit

theorem atB_bounds {bs : List Bk} {i : Int} (h : atB bs i ≠ 0) : 0 ≤ i ∧ i.toNat / 16 < bs.length := by
  unfold atB at h
  split at h
  · exact absurd rfl h
  · omega
theorem atB_cls {bs : List Bk} {c : Nat} (h : atB bs (c : Int) ≠ 0) : atB bs (c : Int) = (bs.getD (c / 16) bk0).c ∧ (bs.getD (c / 16) bk0).c ≠ 0 := by
  unfold atB at h ⊢
  split
  · next h1 => rw [if_pos h1] at h; exact absurd rfl h
  · next h1 =>
    rw [if_neg h1] at h
    simp only [Int.toNat_natCast] at h ⊢
    unfold atN at h ⊢
    split
    · next h2 => rw [if_pos h2] at h; exact absurd rfl h
    · next h2 => exact ⟨rfl, fun e => h2 (Or.inl e)⟩

set_option maxRecDepth 20000 in
set_option maxHeartbeats 1000000 in
theorem free_any (b : Nat) (bs : List Bk) (i : Int) (hO : AO bs) (w : World) (h : AR w b bs) :
    Calls Tryd.prog 45 #[.pointer (some ⟨b, 0, none⟩), .int .i64 i] w fun e w' => e = .returned (.int .i64 (freeR bs i : Nat)) ∧ AR w' b (freeL bs i) ∧ Kept w w' (fun k => k = b) := by
  have hA := fun w (h : AR w b bs) => at_any b bs i hO w h
  unfold freeR freeL
  by_cases hz : atB bs i = 0
  · rw [if_pos hz, if_pos hz]
    rw [hz] at hA
    clear hz
    go_enter Tryd.func45, Tryd.ntmps45
    go_wp2_with (go_at_call 58; refine (hA _ h).mono ?_; rintro e w1 ⟨rfl, hb1⟩)
    go_ret
    exact ⟨rfl, h.below hb1, kept_of_below hb1 _⟩
  rw [if_neg hz, if_neg hz]
  obtain ⟨h0, hn⟩ := atB_bounds hz
  obtain ⟨c, rfl⟩ : ∃ c : Nat, i = (c : Int) := ⟨i.toNat, by omega⟩
  simp only [Int.toNat_natCast] at hn ⊢
  obtain ⟨hE, hc0⟩ := atB_cls hz
  rw [hE] at hA
  clear hE hz h0
  have hl := h.len
  have hq : (c : Int) / 16 = ((c / 16 : Nat) : Int) := by omega
  have hm : (c : Int) % 16 = ((c % 16 : Nat) : Int) := by omega
  have hr : c % 16 < 16 := by omega
  rw [getD_at hn] at hA hc0 ⊢
  have c0 := fun w (h : AR w b bs) => h.cls (c / 16) hn
  have c1 := fun w (h : AR w b bs) => h.tkn (c / 16) hn
  have hOk := hO bs[c / 16] (List.getElem_mem hn)
  have HS : Hid (∀ w w', AR w b bs → Two w w' b (1 + c / 16 * 2) (.int .i64 ((dropN bs[c / 16] (c % 16)).c : Int)) (.int .u32 ((dropN bs[c / 16] (c % 16)).t : Int)) → AR w' b (bs.set (c / 16) (dropN bs[c / 16] (c % 16)))) := fun w w' h ht => AR.two h hn ht
  generalize bs[c / 16] = x at *
  generalize c / 16 = n at *
  generalize c % 16 = r at *
  have hni : (n : Int) < 256 := by omega
  have hci : ((x.c : Int) == 0) = false := by rw [beq_eq_false_iff_ne]; omega
  have hIs : IsC x.c := by
    rcases hOk with ⟨h1, _⟩ | ⟨h1, _⟩
    · exact absurd h1 hc0
    · exact h1
  have hD := fun w (h : AR w b bs) => drop_any b (1 + n * 2) r x w hIs (c0 w h) (c1 w h) (h.free _) (h.free _) hOk.lt hr
  clear c0 c1
  go_enter Tryd.func45, Tryd.ntmps45
  go_wp2_with (first
    | (go_at_call 58; refine (hA _ h).mono ?_; rintro e w1 ⟨rfl, hb1⟩; have h1 := h.below hb1)
    | (go_at_call 59; refine (hD _ h1).mono ?_; rintro e w2 ⟨rfl, ht2⟩))
  go_ret
  exact ⟨rfl, HS.out _ _ h1 ht2, (kept_of_below hb1 _).trans ht2.1 (fun _ _ e => e)⟩


set_option maxRecDepth 20000 in
set_option maxHeartbeats 1000000 in
theorem used_any (b : Nat) (bs : List Bk) (hO : AO bs) (w : World) (h : AR w b bs) :
    Calls Tryd.prog 29 #[.pointer (some ⟨b, 0, none⟩)] w fun e w' => e = .returned (.int .i64 (usedB bs : Nat)) ∧ Below w.heap.size w w' := by
  have hl := h.len
  have HSum : Hid (∀ m, m ≤ bs.length → ((bs.take m).map usedN).sum ≤ 65536) := fun m hm => Nat.le_trans (sum_le _ 256 _ (fun x hx => usedN_le (hO x (List.mem_of_mem_take hx)))) (by rw [List.length_take]; omega)
  go_enter Tryd.func29, Tryd.ntmps29
  go_wp2_with (go_at_call 50; refine (all_any b bs _ h).mono ?_; rintro e w1 ⟨rfl, n1, hw1⟩; have hb1 : Below w.heap.size w w1 := by { rw [hw1]; exact below_drewN0 _ _ }; clear hw1)
  go_loopw [3, 9] (fun r i wr => ∃ m : Nat, m ≤ bs.length ∧ i = .int .i64 (m : Int) ∧ r = .int .i64 ((((bs.take m).map usedN).sum : Nat) : Int) ∧ Below w.heap.size w wr) (fun _ i _ => bs.length - (intOf i).toNat)
  case atStart => exact ⟨0, Nat.zero_le _, rfl, rfl, hb1⟩
  case round =>
    obtain ⟨m, hm, rfl, rfl, hb2⟩ := hrel
    clear hb1
    by_cases hml : (m : Int) < (bs.length : Int)
    · have har := h.below hb2
      have hm' : m < bs.length := by omega
      have c0 := har.cls m hm'
      have c1 := har.tkn m hm'
      have hbl := har.lt
      have hS := HSum.out m hm
      have HN : Hid (((bs.take (m + 1)).map usedN).sum = ((bs.take m).map usedN).sum + usedN bs[m]) := sum_take_succ _ bs m hm'
      have hOk := hO bs[m] (List.getElem_mem hm')
      generalize bs[m] = x at *
      generalize ((bs.take m).map usedN).sum = S at *
      have hU := usedN_le hOk
      have hmul : (x.c : Int) * (pc x.t : Int) = (usedN x : Int) := by unfold usedN; simp
      have ht := hOk.lt
      generalize usedN x = U at *
      go_wp2
      go_quiet ((go_at_call 51; exact Calls.quiet_of (ones_any x.t ht _)))
      go_wp2
      go_roundw
      case rel =>
        refine ⟨m + 1, by omega, by go_num, ?_, (hb2.alloc hb2.size _).trans ((below_drewN0 _ _).mono (by have := hb2.size; simp; omega))⟩
        rw [HN.out]
        go_num
      case measure => simp [intOf]; omega
    · have HE : Hid (((bs.take m).map usedN).sum = usedB bs) := by
        have e : ((bs.take m).map usedN).sum = usedB bs := by rw [List.take_of_length_le (by omega)]; rfl
        exact e
      generalize ((bs.take m).map usedN).sum = S at *
      go_wp2
      go_ret
      exact ⟨congrArg (fun x : Nat => Ending.returned (.int .i64 (x : Int))) HE.out, hb2⟩

end Go.Proofs.YthjbbghmmikmmaaDoor
