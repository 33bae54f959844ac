/- The plain arena's Used and Room. -/
import Derived.Test.YtolgncehfblpbaaDoorArT
namespace Go.Proofs.YtolgncehfblpbaaDoor
open Go.RowKit

/-- How many of the first n bits are set. -/
def cnt (t n : Nat) : Nat := (List.range n).countP (fun i => t.testBit i)
theorem cnt_le (t n : Nat) : cnt t n ≤ n := Nat.le_trans List.countP_le_length (by simp)
theorem cnt_yes {t n : Nat} (h : t.testBit n = true) : cnt t (n + 1) = cnt t n + 1 := by
  unfold cnt
  rw [List.range_succ, List.countP_append]
  simp [h]
theorem cnt_no {t n : Nat} (h : t.testBit n = false) : cnt t (n + 1) = cnt t n := by
  unfold cnt
  rw [List.range_succ, List.countP_append]
  simp [h]
theorem cnt_pc {t n : Nat} (hn : n ≤ 16) (h : t < 2 ^ n) : cnt t n = pc t := by
  have e : pc t = Lib.popAux 16 t := (popAux_eq 16 t).symm
  rw [e, popAux_small n 16 t h hn, popAux_eq]
  rfl

set_option maxRecDepth 20000 in
set_option maxHeartbeats 1000000 in
theorem rused_any (rb rc rt : Nat) (bs : List Bk) (hO : AO bs) (w : World) (h : RA w rb rc rt bs) :
    Calls Tryd.prog 24 #[.pointer (some ⟨rb, 0, none⟩)] w fun e w' => e = .returned (.int .i64 (usedB bs : Nat)) ∧ w = w' := by
  have hl := h.len
  have c0 := h.c0
  have c1 := h.c1
  have HSum : Hid (∀ m, m ≤ bs.length → ((bs.take m).map usedN).sum ≤ 65536) := fun m hm => Nat.le_trans (sum_le _ 256 _ (fun x hx => usedN_le (hO x (List.mem_of_mem_take hx)))) (by rw [List.length_take]; omega)
  go_enter Tryd.func24, Tryd.ntmps24
  go_wp2
  go_loopw [3, 4] (fun r i wr => ∃ m : Nat, m ≤ bs.length ∧ i = .int .i64 (m : Int) ∧ r = .int .i64 ((((bs.take m).map usedN).sum : Nat) : Int) ∧ w = wr) (fun _ i _ => bs.length - (intOf i).toNat)
  case atStart => exact ⟨0, Nat.zero_le _, rfl, rfl, rfl⟩
  case round =>
    obtain ⟨m, hm, rfl, rfl, rfl⟩ := hrel
    by_cases hml : (m : Int) < (bs.length : Int)
    · have hm' : m < bs.length := by omega
      have d0 := h.cl m hm'
      have d1 := fun j hj => h.bit m j hm' hj
      have hS := HSum.out m hm
      have HN : Hid (((bs.take (m + 1)).map usedN).sum = ((bs.take m).map usedN).sum + usedN bs[m]) := sum_take_succ _ bs m hm'
      have hOk := hO bs[m] (List.getElem_mem hm')
      generalize bs[m] = x at *
      generalize ((bs.take m).map usedN).sum = S at *
      have hc16 := c_le16 hOk
      have HD : Hid (∀ j, j < 16 → w.cell? ⟨rt, m * 16 + j, none⟩ = some (.bool (x.t.testBit j))) := d1
      clear d1
      go_wp2
      go_loopw [3, 5] (fun r i wr => ∃ j : Nat, j ≤ 16 ∧ i = .int .i64 (j : Int) ∧ r = .int .i64 ((S + x.c * cnt x.t j : Nat) : Int) ∧ w = wr) (fun _ i _ => 16 - (intOf i).toNat)
      case atStart => exact ⟨0, Nat.zero_le _, rfl, by simp [cnt], rfl⟩
      case round =>
        obtain ⟨j, hj, rfl, rfl, rfl⟩ := hrel
        have hmulb : x.c * cnt x.t j ≤ 256 := Nat.mul_le_mul hc16 (Nat.le_trans (cnt_le _ _) hj)
        by_cases hj16 : (j : Int) < 16
        · have d2 := HD.out j (by omega)
          cases hb : x.t.testBit j with
          | true =>
            rw [hb] at d2
            have HE : Hid (S + x.c * cnt x.t (j + 1) = S + x.c * cnt x.t j + x.c) := by
              have e : S + x.c * cnt x.t (j + 1) = S + x.c * cnt x.t j + x.c := by rw [cnt_yes hb, Nat.mul_add, Nat.mul_one, Nat.add_assoc]
              exact e
            clear hb
            have hV : S + x.c * cnt x.t j ≤ 100000 := by omega
            generalize S + x.c * cnt x.t j = V at *
            go_wp2
            go_roundw
            case rel =>
              refine ⟨j + 1, by omega, by go_num, ?_, by trivial⟩
              rw [HE.out]
              go_num
            case measure => simp [intOf]; omega
          | false =>
            rw [hb] at d2
            have HE : Hid (S + x.c * cnt x.t (j + 1) = S + x.c * cnt x.t j) := by
              have e : S + x.c * cnt x.t (j + 1) = S + x.c * cnt x.t j := by rw [cnt_no hb]
              exact e
            clear hb
            generalize S + x.c * cnt x.t j = V at *
            go_wp2
            go_roundw
            case rel =>
              refine ⟨j + 1, by omega, by go_num, ?_, by trivial⟩
              rw [HE.out]
            case measure => simp [intOf]; omega
        · have HE : Hid (S + x.c * cnt x.t j = ((bs.take (m + 1)).map usedN).sum) := by
            have e : S + x.c * cnt x.t j = ((bs.take (m + 1)).map usedN).sum := by
              have ej : j = 16 := by omega
              rw [HN.out, ej]
              rfl
            exact e
          generalize S + x.c * cnt x.t j = V at *
          go_wp2
          go_roundw
          case rel =>
            refine ⟨m + 1, by omega, by go_num, ?_, by trivial⟩
            rw [HE.out]
          case measure => simp [intOf]; omega
    · have HE : Hid (((bs.take m).map usedN).sum = usedB bs) := by
        have e : ((bs.take m).map usedN).sum = usedB bs := by rw [List.take_of_length_le (by omega)]; rfl
        exact e
      generalize ((bs.take m).map usedN).sum = S at *
      go_wp2
      go_ret
      exact ⟨congrArg (fun x : Nat => Ending.returned (.int .i64 (x : Int))) HE.out, rfl⟩

/-- How many of the first j places of class k can be taken. -/
def rcnt (x : Bk) (k j : Nat) : Nat := if x.c = 0 then j else if x.c = k then j - cnt x.t j else 0
theorem rcnt_le (x : Bk) (k j : Nat) : rcnt x k j ≤ j := by
  unfold rcnt
  split
  · omega
  · split <;> omega
theorem rcnt_room {x : Bk} {k : Nat} (hO : x.Ok) : rcnt x k (16 / k) = roomN x k := by
  unfold rcnt roomN
  by_cases h0 : x.c = 0
  · rw [if_pos h0, if_pos (Or.inl h0)]
    have ht : x.t = 0 := by
      rcases hO with ⟨_, h⟩ | ⟨h, _⟩
      · exact h
      · have := h.pos; omega
    rw [ht, pc_zero, Nat.sub_zero]
  · rw [if_neg h0]
    by_cases h1 : x.c = k
    · rw [if_pos h1, if_pos (Or.inr h1)]
      rcases hO with ⟨h, _⟩ | ⟨_, _, h⟩
      · exact absurd h h0
      · rw [h1] at h
        rw [cnt_pc (Nat.div_le_self _ _) h]
    · rw [if_neg h1, if_neg (fun e => e.elim h0 h1)]

set_option maxRecDepth 20000 in
set_option maxHeartbeats 1000000 in
theorem rroom_any (rb rc rt : Nat) (bs : List Bk) (s : Int) (hO : AO bs) (w : World) (h : RA w rb rc rt bs) :
    Calls Tryd.prog 25 #[.pointer (some ⟨rb, 0, none⟩), .int .i64 s] w fun e w' => e = .returned (.int .i64 (roomB bs s : Nat)) ∧ w = w' := by
  unfold roomB
  have hl := h.len
  have c0 := h.c0
  have c1 := h.c1
  have hC := fun w => rclass_any s w
  by_cases hz : classN s = 0
  · rw [if_pos hz]
    rw [hz] at hC
    clear hz
    go_enter Tryd.func25, Tryd.ntmps25
    go_wp2_with (go_at_call 18; refine (hC _).mono ?_; rintro e _ ⟨rfl, rfl⟩)
    go_loopw [6, 7] (fun r i wr => r = .int .i64 0 ∧ i = .int .i64 0 ∧ w = wr) (fun _ _ _ => 0)
    case atStart => exact ⟨rfl, rfl, rfl⟩
    case round =>
      obtain ⟨rfl, rfl, rfl⟩ := hrel
      by_cases hp : (0 : Int) < (bs.length : Int)
      · go_wp2
        go_ret
        exact ⟨rfl, rfl⟩
      · go_wp2
        go_ret
        exact ⟨rfl, rfl⟩
  rw [if_neg hz]
  have hk := classN_ne hz
  generalize classN s = k at *
  have hk0 : ¬ k = 0 := hz
  have hkp : (0 : Int) < (k : Int) := by omega
  obtain ⟨q, hq⟩ : ∃ q, q = 16 / k := ⟨_, rfl⟩
  have hq16 : q ≤ 16 := by rw [hq]; exact Nat.div_le_self _ _
  have hqi : (16 : Int) / (k : Int) = (q : Int) := by rw [hq]; simp
  have hqt : Int.tdiv 16 (k : Int) = (q : Int) := by rw [hq]; rfl
  have HRN : Hid (∀ x ∈ bs, rcnt x k q = roomN x k) := fun x hx => by rw [hq]; exact rcnt_room (hO x hx)
  have HSum : Hid (∀ m, m ≤ bs.length → ((bs.take m).map (fun x => roomN x k)).sum ≤ 4096) := fun m hm => Nat.le_trans (sum_le _ 16 _ (fun x _ => roomN_le x k)) (by rw [List.length_take]; omega)
  clear hq hz
  go_enter Tryd.func25, Tryd.ntmps25
  go_wp2_with (go_at_call 18; refine (hC _).mono ?_; rintro e _ ⟨rfl, rfl⟩)
  go_loopw [6, 7] (fun r i wr => ∃ m : Nat, m ≤ bs.length ∧ i = .int .i64 (m : Int) ∧ r = .int .i64 ((((bs.take m).map (fun x => roomN x k)).sum : Nat) : Int) ∧ w = wr) (fun _ i _ => bs.length - (intOf i).toNat)
  case atStart => exact ⟨0, Nat.zero_le _, rfl, rfl, rfl⟩
  case round =>
    obtain ⟨m, hm, rfl, rfl, rfl⟩ := hrel
    by_cases hml : (m : Int) < (bs.length : Int)
    · have hm' : m < bs.length := by omega
      have d0 := h.cl m hm'
      have hS := HSum.out m hm
      have HN : Hid (((bs.take (m + 1)).map (fun x => roomN x k)).sum = ((bs.take m).map (fun x => roomN x k)).sum + roomN bs[m] k) := sum_take_succ _ bs m hm'
      have HR : Hid (rcnt bs[m] k q = roomN bs[m] k) := HRN.out bs[m] (List.getElem_mem hm')
      have HD : Hid (∀ j, j < 16 → w.cell? ⟨rt, m * 16 + j, none⟩ = some (.bool (bs[m].t.testBit j))) := fun j hj => h.bit m j hm' hj
      generalize bs[m] = x at *
      generalize ((bs.take m).map (fun x => roomN x k)).sum = S at *
      go_wp2
      go_loopw [6, 8] (fun r i wr => ∃ j : Nat, j ≤ q ∧ i = .int .i64 (j : Int) ∧ r = .int .i64 ((S + rcnt x k j : Nat) : Int) ∧ w = wr) (fun _ i _ => q - (intOf i).toNat)
      case atStart => exact ⟨0, Nat.zero_le _, rfl, by have := rcnt_le x k 0; rw [show rcnt x k 0 = 0 by omega]; rfl, rfl⟩
      case round =>
        obtain ⟨j, hj, rfl, rfl, rfl⟩ := hrel
        have hcl := rcnt_le x k j
        by_cases hjq : (j : Int) < (q : Int)
        · have d2 := HD.out j (by omega)
          have hji : (j : Int) < 16 := by omega
          by_cases h0 : x.c = 0
          · have e0 : ((x.c : Int) == 0) = true := by rw [beq_iff_eq]; omega
            have HE : Hid (S + rcnt x k (j + 1) = S + rcnt x k j + 1) := by
              have e : S + rcnt x k (j + 1) = S + rcnt x k j + 1 := by unfold rcnt; rw [if_pos h0, if_pos h0]; omega
              exact e
            have hV : S + rcnt x k j ≤ 10000 := by omega
            generalize S + rcnt x k j = V at *
            clear h0
            go_wp2
            go_roundw
            case rel =>
              refine ⟨j + 1, by omega, by go_num, ?_, by trivial⟩
              rw [HE.out]
              go_num
            case measure => simp [intOf]; omega
          · have e0 : ((x.c : Int) == 0) = false := by rw [beq_eq_false_iff_ne]; omega
            by_cases h1 : x.c = k
            · have e1 : ((x.c : Int) == (k : Int)) = true := by rw [beq_iff_eq]; omega
              cases hb : x.t.testBit j with
              | true =>
                rw [hb] at d2
                have HE : Hid (S + rcnt x k (j + 1) = S + rcnt x k j) := by
                  have e : S + rcnt x k (j + 1) = S + rcnt x k j := by unfold rcnt; rw [if_neg h0, if_neg h0, if_pos h1, if_pos h1, cnt_yes hb]; omega
                  exact e
                generalize S + rcnt x k j = V at *
                clear h0 h1 hb
                go_wp2
                go_roundw
                case rel =>
                  refine ⟨j + 1, by omega, by go_num, ?_, by trivial⟩
                  rw [HE.out]
                case measure => simp [intOf]; omega
              | false =>
                rw [hb] at d2
                have HE : Hid (S + rcnt x k (j + 1) = S + rcnt x k j + 1) := by
                  have e : S + rcnt x k (j + 1) = S + rcnt x k j + 1 := by
                    have := cnt_le x.t j
                    unfold rcnt; rw [if_neg h0, if_neg h0, if_pos h1, if_pos h1, cnt_no hb]; omega
                  exact e
                have hV : S + rcnt x k j ≤ 10000 := by omega
                generalize S + rcnt x k j = V at *
                clear h0 h1 hb
                go_wp2
                go_roundw
                case rel =>
                  refine ⟨j + 1, by omega, by go_num, ?_, by trivial⟩
                  rw [HE.out]
                  go_num
                case measure => simp [intOf]; omega
            · have e1 : ((x.c : Int) == (k : Int)) = false := by rw [beq_eq_false_iff_ne]; omega
              have HE : Hid (S + rcnt x k (j + 1) = S + rcnt x k j) := by
                have e : S + rcnt x k (j + 1) = S + rcnt x k j := by unfold rcnt; rw [if_neg h0, if_neg h0, if_neg h1, if_neg h1]
                exact e
              generalize S + rcnt x k j = V at *
              clear h0 h1
              go_wp2
              go_roundw
              case rel =>
                refine ⟨j + 1, by omega, by go_num, ?_, by trivial⟩
                rw [HE.out]
              case measure => simp [intOf]; omega
        · have HE : Hid (S + rcnt x k j = ((bs.take (m + 1)).map (fun x => roomN x k)).sum) := by
            have e : S + rcnt x k j = ((bs.take (m + 1)).map (fun x => roomN x k)).sum := by
              have ej : j = q := by omega
              rw [HN.out, ej, HR.out]
            exact e
          generalize S + rcnt x k j = V at *
          go_wp2
          go_roundw
          case rel =>
            refine ⟨m + 1, by omega, by go_num, ?_, by trivial⟩
            rw [HE.out]
          case measure => simp [intOf]; omega
    · have HE : Hid (((bs.take m).map (fun x => roomN x k)).sum = (bs.map (fun x => roomN x k)).sum) := by
        have e : ((bs.take m).map (fun x => roomN x k)).sum = (bs.map (fun x => roomN x k)).sum := by rw [List.take_of_length_le (by omega)]
        exact e
      generalize ((bs.take m).map (fun x => roomN x k)).sum = S at *
      go_wp2
      go_ret
      exact ⟨congrArg (fun x : Nat => Ending.returned (.int .i64 (x : Int))) HE.out, rfl⟩

end Go.Proofs.YtolgncehfblpbaaDoor
