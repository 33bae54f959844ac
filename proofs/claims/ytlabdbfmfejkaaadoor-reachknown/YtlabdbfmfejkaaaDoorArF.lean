/- pick. -/
import Derived.Test.YtlabdbfmfejkaaaDoorArN
namespace Go.Proofs.YtlabdbfmfejkaaaDoor
open Go.RowKit

set_option maxRecDepth 20000 in
theorem pick_index (k j f : Nat) (hj : j < 2) (hf : j = 0 → f = k) (hF : j = 1 → f = 0) (W : World) : (Instr.index 192 (.agg #[.int .i64 (k : Int), .int .i64 0]) (.int .i64 (j : Int))).run Tryd.prog W = .ok (.int .i64 (f : Int)) W := by
  by_cases e : j = 0
  · rw [hf e, e]; rfl
  · have e1 : j = 1 := by omega
    rw [hF e1, e1]; rfl
theorem isB_cls {f k : Nat} {x : Bk} (h : x.c ≠ f) : isB f k x = false := by
  unfold isB
  have : (x.c == f) = false := by rw [beq_eq_false_iff_ne]; exact h
  rw [this]; rfl
theorem isB_yes {f k : Nat} {x : Bk} (h : x.c = f) : isB f k x = decide (0 < roomN x k) := by
  unfold isB
  have : (x.c == f) = true := by rw [beq_iff_eq]; exact h
  rw [this]; rfl

set_option maxRecDepth 20000 in
set_option maxHeartbeats 1000000 in
theorem pick_any' (b k : Nat) (bs : List Bk) (hk : IsC k) (hO : AO bs) (w : World) (h : AR w b bs) :
    Calls Tryd.prog 91 #[.pointer (some ⟨b, 0, none⟩), .int .i64 (k : Int)] w fun e w' => e = .returned (.tuple #[.int .i64 (pickV k bs).1, .bool (pickV k bs).2]) ∧ Below w.heap.size w w' := by
  have hl : (bs.length : Int) ≤ 256 := by have := h.len; omega
  go_enter Tryd.func91, Tryd.ntmps91
  go_wp2
  go_loopw [12] (fun i wr => ∃ j : Nat, j ≤ 2 ∧ i = .int .i64 (j : Int) ∧ (1 ≤ j → firstB k k bs = none) ∧ (2 ≤ j → firstB 0 k bs = none) ∧ Below w.heap.size w wr) (fun i _ => 2 - (intOf i).toNat)
  case atStart => exact ⟨0, by omega, rfl, fun h => by omega, fun h => by omega, Below.refl _ _⟩
  case round =>
    obtain ⟨j, hj, rfl, hj1, hj2, hb⟩ := hrel
    have H1 : Hid (1 ≤ j → firstB k k bs = none) := hj1
    have H2 : Hid (2 ≤ j → firstB 0 k bs = none) := hj2
    clear hj1 hj2
    by_cases hlt : (j : Int) < 2
    · have har := h.below hb
      obtain ⟨f, hf, hF⟩ : ∃ f : Nat, (j = 0 → f = k) ∧ (j = 1 → f = 0) := ⟨if j = 0 then k else 0, by intro e; simp [e], by intro e; simp [e]⟩
      have hix := pick_index k j f (by omega) hf hF
      have HF : Hid ((j = 0 → f = k) ∧ (j = 1 → f = 0)) := ⟨hf, hF⟩
      clear hf hF
      go_wp2_with (go_at_call 115; refine (all_any b bs _ har).mono ?_; rintro e w1 ⟨rfl, n1, hw1⟩; have hb1 : Below w.heap.size w w1 := by { rw [hw1]; exact hb.trans ((below_drewN0 _ _).mono hb.size) }; clear hw1)
      go_loopw [18] (fun i wr => ∃ m : Nat, m ≤ bs.length ∧ i = .int .i64 (m : Int) ∧ (∀ x ∈ bs.take m, isB f k x = false) ∧ Below w.heap.size w wr) (fun i _ => bs.length - (intOf i).toNat)
      case atStart => exact ⟨0, Nat.zero_le _, rfl, by simp, hb1⟩
      case round =>
        obtain ⟨m, hm, rfl, hall, hb2⟩ := hrel
        have HA : Hid (∀ x ∈ bs.take m, isB f k x = false) := hall
        clear hall har hb hb1
        by_cases hml : (m : Int) < (bs.length : Int)
        · have har := h.below hb2
          have hm' : m < bs.length := by omega
          have c0 := har.cls m hm'
          have c1 := har.tkn m hm'
          have hbl := har.lt
          have HY : Hid (isB f k bs[m] = true → firstB f k bs = some m) := fun h => firstB_some hm' h HA.out
          have HN : Hid (isB f k bs[m] = false → ∀ x ∈ bs.take (m + 1), isB f k x = false) := fun h => take_more hm' HA.out h
          have hOk := hO bs[m] (List.getElem_mem hm')
          generalize bs[m] = x at *
          clear HA
          by_cases hc : x.c = f
          · have hce : ((x.c : Int) == (f : Int)) = true := by rw [beq_iff_eq]; omega
            have hR : roomN x k ≤ 16 := by
              unfold roomN
              split
              · exact Nat.le_trans (Nat.sub_le _ _) (Nat.div_le_self _ _)
              · omega
            have HYN : Hid (isB f k x = decide (0 < roomN x k)) := isB_yes hc
            clear hc
            by_cases hr0 : 0 < roomN x k
            · have hri : (0 : Int) < (roomN x k : Int) := by omega
              have hP : Hid (pickV k bs = (m, true)) := by
                have hy := HY.out (by rw [HYN.out]; exact decide_eq_true hr0)
                have hf := HF.out
                have e : pickV k bs = (m, true) := by
                  unfold pickV pickB
                  by_cases e : j = 0
                  · rw [hf.1 e] at hy
                    rw [hy]
                  · rw [hf.2 (by omega)] at hy
                    rw [H1.out (by omega), hy]
                exact e
              go_wp2_with (go_at_call 116; refine (broom_any x k hk hOk.lt (hOk.pc k) _).mono ?_; rintro e w3 ⟨rfl, hb3⟩)
              go_ret2
              rw [hP.out]
              exact ⟨rfl, (hb2.alloc hb2.size _).trans (hb3.mono (by have := hb2.size; simp; omega))⟩
            · have hri : ¬ (0 : Int) < (roomN x k : Int) := by omega
              go_wp2_with (go_at_call 116; refine (broom_any x k hk hOk.lt (hOk.pc k) _).mono ?_; rintro e w3 ⟨rfl, hb3⟩)
              go_roundw
              case rel => exact ⟨m + 1, by omega, by go_num, HN.out (by rw [HYN.out]; exact decide_eq_false hr0), (hb2.alloc hb2.size _).trans (hb3.mono (by have := hb2.size; simp; omega))⟩
              case measure => simp [intOf]; omega
          · have hce : ((x.c : Int) == (f : Int)) = false := by rw [beq_eq_false_iff_ne]; omega
            go_wp2
            go_roundw
            case rel => exact ⟨m + 1, by omega, by go_num, HN.out (isB_cls hc), hb2.alloc hb2.size _⟩
            case measure => simp [intOf]; omega
        · have HN : Hid (firstB f k bs = none) := by
            have e : firstB f k bs = none := firstB_none (by
              have := HA.out
              rwa [List.take_of_length_le (by omega)] at this)
            exact e
          clear HA
          go_wp2
          go_roundw
          case rel =>
            have hf := HF.out
            refine ⟨j + 1, by omega, by go_num, fun _ => ?_, fun h2 => ?_, hb2⟩
            · by_cases e : j = 0
              · have := HN.out
                rwa [hf.1 e] at this
              · exact H1.out (by omega)
            · have := HN.out
              rwa [hf.2 (by omega)] at this
          case measure => simp [intOf]; omega
    · have hP : Hid (pickV k bs = (0, false)) := by
        have e : pickV k bs = (0, false) := by
          unfold pickV pickB
          rw [H1.out (by omega), H2.out (by omega)]
        exact e
      go_wp2
      go_ret2
      rw [hP.out]
      exact ⟨rfl, hb⟩
end Go.Proofs.YtlabdbfmfejkaaaDoor
