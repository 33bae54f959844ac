/- The plain arena's Free. -/
import Derived.Test.YtlabdbfmfejkaaaDoorArV
import Derived.Deep.MidRow
import Derived.Laws.StructEq
namespace Go.Proofs.YtlabdbfmfejkaaaDoor
open Go.RowKit

set_option maxRecDepth 100000 in
theorem eq16 (b0 b1 b2 b3 b4 b5 b6 b7 b8 b9 b10 b11 b12 b13 b14 b15 : Bool) (w : World) : (Op.equalIn 10000 170 (.agg #[.bool b0, .bool b1, .bool b2, .bool b3, .bool b4, .bool b5, .bool b6, .bool b7, .bool b8, .bool b9, .bool b10, .bool b11, .bool b12, .bool b13, .bool b14, .bool b15]) (.agg #[.bool false, .bool false, .bool false, .bool false, .bool false, .bool false, .bool false, .bool false, .bool false, .bool false, .bool false, .bool false, .bool false, .bool false, .bool false, .bool false])).run Tryd.prog w = .ok (!(b0 || (b1 || (b2 || (b3 || (b4 || (b5 || (b6 || (b7 || (b8 || (b9 || (b10 || (b11 || (b12 || (b13 || (b14 || (b15))))))))))))))))) w := by
  cases b0 with
  | true => kernel_rfl
  | false =>
   cases b1 with
   | true => kernel_rfl
   | false =>
    cases b2 with
    | true => kernel_rfl
    | false =>
     cases b3 with
     | true => kernel_rfl
     | false =>
      cases b4 with
      | true => kernel_rfl
      | false =>
       cases b5 with
       | true => kernel_rfl
       | false =>
        cases b6 with
        | true => kernel_rfl
        | false =>
         cases b7 with
         | true => kernel_rfl
         | false =>
          cases b8 with
          | true => kernel_rfl
          | false =>
           cases b9 with
           | true => kernel_rfl
           | false =>
            cases b10 with
            | true => kernel_rfl
            | false =>
             cases b11 with
             | true => kernel_rfl
             | false =>
              cases b12 with
              | true => kernel_rfl
              | false =>
               cases b13 with
               | true => kernel_rfl
               | false =>
                cases b14 with
                | true => kernel_rfl
                | false =>
                 cases b15 with
                 | true => kernel_rfl
                 | false =>
                  kernel_rfl

/-- Sixteen bits as values. -/
def bitsV (t : Nat) : List Value := (List.range 16).map (fun j => .bool (t.testBit j))
theorem bits_zero {t : Nat} (ht : t < 65536) : (!(t.testBit 0 || (t.testBit 1 || (t.testBit 2 || (t.testBit 3 || (t.testBit 4 || (t.testBit 5 || (t.testBit 6 || (t.testBit 7 || (t.testBit 8 || (t.testBit 9 || (t.testBit 10 || (t.testBit 11 || (t.testBit 12 || (t.testBit 13 || (t.testBit 14 || (t.testBit 15))))))))))))))))) = decide (t = 0) := by
  by_cases h : t = 0
  · subst h
    rfl
  · rw [decide_eq_false h]
    obtain ⟨i, hi⟩ := Nat.exists_testBit_of_ne_zero h
    have hi16 : i < 16 := by
      apply Nat.lt_of_not_le
      intro hle
      have : t < 2 ^ i := Nat.lt_of_lt_of_le ht (Nat.le_trans (by decide : 65536 ≤ 2 ^ 16) (Nat.pow_le_pow_right (by decide) hle))
      rw [Nat.testBit_lt_two_pow this] at hi
      cases hi
    have : i = 0 ∨ i = 1 ∨ i = 2 ∨ i = 3 ∨ i = 4 ∨ i = 5 ∨ i = 6 ∨ i = 7 ∨ i = 8 ∨ i = 9 ∨ i = 10 ∨ i = 11 ∨ i = 12 ∨ i = 13 ∨ i = 14 ∨ i = 15 := by omega
    rcases this with rfl | rfl | rfl | rfl | rfl | rfl | rfl | rfl | rfl | rfl | rfl | rfl | rfl | rfl | rfl | rfl <;> simp [hi]
theorem eq_bits (t : Nat) (ht : t < 65536) (w : World) : (Op.equalIn 10000 170 (.agg (bitsV t).toArray) (.agg #[.bool false, .bool false, .bool false, .bool false, .bool false, .bool false, .bool false, .bool false, .bool false, .bool false, .bool false, .bool false, .bool false, .bool false, .bool false, .bool false])).run Tryd.prog w = .ok (decide (t = 0)) w := by
  rw [← bits_zero ht]
  exact eq16 (t.testBit 0) (t.testBit 1) (t.testBit 2) (t.testBit 3) (t.testBit 4) (t.testBit 5) (t.testBit 6) (t.testBit 7) (t.testBit 8) (t.testBit 9) (t.testBit 10) (t.testBit 11) (t.testBit 12) (t.testBit 13) (t.testBit 14) (t.testBit 15) w
theorem guard16 : Tryd.prog.eqGuardType Tryd.prog.depth 170 = false := by kernel_rfl
theorem size16 : (Tryd.prog.info? 170).map (·.size) = some 16 := by kernel_rfl
theorem RA.range {w : World} {rb rc rt : Nat} {bs : List Bk} (h : RA w rb rc rt bs) (n : Nat) (hn : n < bs.length) : w.rangeAt rt (n * 16) (bitsV bs[n].t) := by
  intro j v hv
  have hj : j < 16 := by simpa [bitsV] using (List.getElem?_eq_some_iff.1 hv).1
  rw [h.bit n j hn hj, ← hv]
  unfold bitsV
  rw [List.getElem?_map, List.getElem?_range hj]
  rfl
theorem bits_size (t : Nat) : (Tryd.prog.info? 170).map (·.size) = some (bitsV t).length := by rw [size16]; simp [bitsV]

end Go.Proofs.YtlabdbfmfejkaaaDoor
