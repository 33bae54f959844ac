/- The plain arena's Used and Room. -/
import Derived.Test.YthjbbghmmikmmaaDoorArT
namespace Go.Proofs.YthjbbghmmikmmaaDoor
open Go.RowKit

/-- How many of the first n bits are set. -/
def cnt (t n : Nat) : Nat := (List.range n).countP (fun i => t.testBit i)
theorem cnt_le (t n : Nat) : cnt t n ≤ n := Nat.le_trans List.countP_le_length (by simp)
theorem cnt_yes {t n : Nat} (h : t.testBit n = true) : cnt t (n + 1) = cnt t n + 1 := by
  unfold cnt
  rw [List.range_succ, List.countP_append]
  simp [h]
theorem cnt_no {t n : Nat} (h : t.testBit n = false) : cnt t (n + 1) = cnt t n := by
  unfold cnt
  rw [List.range_succ, List.countP_append]
  simp [h]
theorem cnt_pc {t n : Nat} (hn : n ≤ 16) (h : t < 2 ^ n) : cnt t n = pc t := by
  have e : pc t = Lib.popAux 16 t := (popAux_eq 16 t).symm
  rw [e, popAux_small n 16 t h hn, popAux_eq]
  rfl

set_option maxRecDepth 20000 in
set_option maxHeartbeats 1000000 in
theorem rused_any (rb rc rt : Nat) (bs : List Bk) (hO : AO bs) (w : World) (h : RA w rb rc rt bs) :
    Calls Tryd.prog 42 #[.pointer (some ⟨rb, 0, none⟩)] w fun e w' => e = .returned (.int .i64 (usedB bs : Nat)) ∧ w = w' := by
  have hl := h.len
  have c0 := h.c0
  have c1 := h.c1
  have HSum : Hid (∀ m, m ≤ bs.length → ((bs.take m).map usedN).sum ≤ 65536) := fun m hm => Nat.le_trans (sum_le _ 256 _ (fun x hx => usedN_le (hO x (List.mem_of_mem_take hx)))) (by rw [List.length_take]; omega)
  go_enter Tryd.func42, Tryd.ntmps42
  go_wp2
  go_loopw [3, 4] (fun r i wr => ∃ m : Nat, m ≤ bs.length ∧ i = .int .i64 (m : Int) ∧ r = .int .i64 ((((bs.take m).map usedN).sum : Nat) : Int) ∧ w = wr) (fun _ i _ => bs.length - (intOf i).toNat)
  case atStart => exact ⟨0, Nat.zero_le _, rfl, rfl, rfl⟩
  case round =>
    obtain ⟨m, hm, rfl, rfl, rfl⟩ := hrel
    by_cases hml : (m : Int) < (bs.length : Int)
    · have hm' : m < bs.length := by omega
      have d0 := h.cl m hm'
      have d1 := fun j hj => h.bit m j hm' hj
      have hS := HSum.out m hm
      have HN : Hid (((bs.take (m + 1)).map usedN).sum = ((bs.take m).map usedN).sum + usedN bs[m]) := sum_take_succ _ bs m hm'
      have hOk := hO bs[m] (List.getElem_mem hm')
      generalize bs[m] = x at *
      generalize ((bs.take m).map usedN).sum = S at *
      have hc16 := c_le16 hOk
      have HD : Hid (∀ j, j < 16 → w.cell? ⟨rt, m * 16 + j, none⟩ = some (.bool (x.t.testBit j))) := d1
      clear d1
      go_wp2
      go_loopw [3, 5] (fun r i wr => ∃ j : Nat, j ≤ 16 ∧ i = .int .i64 (j : Int) ∧ r = .int .i64 ((S + x.c * cnt x.t j : Nat) : Int) ∧ w = wr) (fun _ i _ => 16 - (intOf i).toNat)
      case atStart => exact ⟨0, Nat.zero_le _, rfl, by simp [cnt], rfl⟩
      case round =>
        obtain ⟨j, hj, rfl, rfl, rfl⟩ := hrel
        have hmulb : x.c * cnt x.t j ≤ 256 := Nat.mul_le_mul hc16 (Nat.le_trans (cnt_le _ _) hj)
        by_cases hj16 : (j : Int) < 16
        · have d2 := HD.out j (by omega)
          cases hb : x.t.testBit j with
          | true =>
            rw [hb] at d2
            have HE : Hid (S + x.c * cnt x.t (j + 1) = S + x.c * cnt x.t j + x.c) := by
              have e : S + x.c * cnt x.t (j + 1) = S + x.c * cnt x.t j + x.c := by rw [cnt_yes hb, Nat.mul_add, Nat.mul_one, Nat.add_assoc]
              exact e
            clear hb
            have hV : S + x.c * cnt x.t j ≤ 100000 := by omega
            generalize S + x.c * cnt x.t j = V at *
            go_wp2
            go_roundw
            case rel =>
              refine ⟨j + 1, by omega, by go_num, ?_, by trivial⟩
              rw [HE.out]
              go_num
            case measure => simp [intOf]; omega
          | false =>
            rw [hb] at d2
            have HE : Hid (S + x.c * cnt x.t (j + 1) = S + x.c * cnt x.t j) := by
              have e : S + x.c * cnt x.t (j + 1) = S + x.c * cnt x.t j := by rw [cnt_no hb]
              exact e
            clear hb
            generalize S + x.c * cnt x.t j = V at *
            go_wp2
            go_roundw
            case rel =>
              refine ⟨j + 1, by omega, by go_num, ?_, by trivial⟩
              rw [HE.out]
            case measure => simp [intOf]; omega
        · have HE : Hid (S + x.c * cnt x.t j = ((bs.take (m + 1)).map usedN).sum) := by
            have e : S + x.c * cnt x.t j = ((bs.take (m + 1)).map usedN).sum := by
              have ej : j = 16 := by omega
              rw [HN.out, ej]
              rfl
            exact e
          generalize S + x.c * cnt x.t j = V at *
          go_wp2
          go_roundw
          case rel =>
            refine ⟨m + 1, by omega, by go_num, ?_, by trivial⟩
            rw [HE.out]
          case measure => simp [intOf]; omega
    · have HE : Hid (((bs.take m).map usedN).sum = usedB bs) := by
        have e : ((bs.take m).map usedN).sum = usedB bs := by rw [List.take_of_length_le (by omega)]; rfl
        exact e
      generalize ((bs.take m).map usedN).sum = S at *
      go_wp2
      go_ret
      exact ⟨congrArg (fun x : Nat => Ending.returned (.int .i64 (x : Int))) HE.out, rfl⟩

/-- How many of the first j places of class k can be taken. -/
def rcnt (x : Bk) (k j : Nat) : Nat := if x.c = 0 then j else if x.c = k then j - cnt x.t j else 0
theorem rcnt_le (x : Bk) (k j : Nat) : rcnt x k j ≤ j := by
  unfold rcnt
  split
  · omega
  · split <;> omega
theorem rcnt_room {x : Bk} {k : Nat} (hO : x.Ok) : rcnt x k (16 / k) = roomN x k := by
  unfold rcnt roomN
  by_cases h0 : x.c = 0
  · rw [if_pos h0, if_pos (Or.inl h0)]
    have ht : x.t = 0 := by
      rcases hO with ⟨_, h⟩ | ⟨h, _⟩
      · exact h
      · have := h.pos; omega
    rw [ht, pc_zero, Nat.sub_zero]
  · rw [if_neg h0]
    by_cases h1 : x.c = k
    · rw [if_pos h1, if_pos (Or.inr h1)]
      rcases hO with ⟨h, _⟩ | ⟨_, _, h⟩
      · exact absurd h h0
      · rw [h1] at h
        rw [cnt_pc (Nat.div_le_self _ _) h]
    · rw [if_neg h1, if_neg (fun e => e.elim h0 h1)]


end Go.Proofs.YthjbbghmmikmmaaDoor
