/- A list of numbers as a function. -/
import Derived.Test.YtlabdbfmfejkaaaDoorMpE
import Derived.Test.YtlabdbfmfejkaaaDoorOwIL
namespace Go.Proofs.YtlabdbfmfejkaaaDoor
open Go.RowKit

/-- The cells of a list of n + 1 numbers. -/
def rkV (n : Nat) (f : Nat → Int) : List Value := (List.range (n + 1)).map (fun j => Value.int .i64 (f j))
theorem rk_len (n : Nat) (f : Nat → Int) : (rkV n f).length = n + 1 := by simp [rkV]
theorem rk_cell {w : World} {kb n : Nat} {f : Nat → Int} (r : Row w kb 3 (rkV n f)) (j : Nat) (hj : j ≤ n) : w.cell? ⟨kb, j, none⟩ = some (.int .i64 (f j)) := by
  refine r.at j _ ?_
  unfold rkV
  rw [List.getElem?_map, List.getElem?_range (by omega)]
  rfl
theorem rk_set {w : World} {kb n : Nat} {f : Nat → Int} (r : Row w kb 3 (rkV n f)) (j : Nat) (v : Int) : Row (w.setCell ⟨kb, j, none⟩ (.int .i64 v)) kb 3 (rkV n (fun k => if k = j then v else f k)) := by
  have h := r.set j (.int .i64 v)
  have e : (rkV n f).set j (.int .i64 v) = rkV n (fun k => if k = j then v else f k) := by
    unfold rkV
    apply List.ext_getElem?
    intro i
    rw [List.getElem?_set, List.getElem?_map, List.getElem?_map]
    simp only [List.length_map, List.length_range]
    by_cases e : j = i
    · subst e
      rw [if_pos rfl]
      by_cases hj : j < n + 1
      · rw [if_pos hj, List.getElem?_range hj]
        simp
      · rw [if_neg hj, List.getElem?_eq_none (by simp; omega)]
        rfl
    · rw [if_neg e]
      by_cases hi : i < n + 1
      · rw [List.getElem?_range hi]
        simp only [Option.map_some]
        rw [if_neg (fun h => e h.symm)]
      · rw [List.getElem?_eq_none (by simp; omega)]
        rfl
  rw [e] at h
  exact h
theorem rk_same {w : World} {kb n : Nat} {f f' : Nat → Int} (r : Row w kb 3 (rkV n f)) (h : ∀ j, j ≤ n → f j = f' j) : Row w kb 3 (rkV n f') := by
  have e : rkV n f = rkV n f' := by
    unfold rkV
    apply List.map_congr_left
    intro j hj
    rw [h j (by have := List.mem_range.1 hj; omega)]
  rw [← e]
  exact r
theorem Tryd.infoInt' : (Tryd.prog.info? 3).map (fun i => (i.zero, i.size, i.bytes)) = some (some (.int .i64 0), 1, 8) := by kernel_rfl
theorem made_rk (M : Nat) : madeCells (Value.int .i64 0).cells ((M + 1) * 1) = (rkV M (fun _ => 0)).toArray := by
  rw [Nat.mul_one, show (Value.int .i64 0).cells = #[Value.int .i64 0] from rfl]
  apply Array.ext'
  rw [toList_madeCells_one]
  simp [rkV]
  rw [List.map_const', List.length_range]
theorem make_ints (n : Nat) (hn : n ≤ 60) : ∀ W : World, (Instr.makeSlice 24 (.int .i64 ((n : Int) + 1)) (.int .i64 ((n : Int) + 1))).run Tryd.prog W = .ok (.slice (some ⟨W.heap.size, 0, none⟩) (n + 1) (n + 1)) (W.alloc (.cells (rkV n (fun _ => 0)).toArray 3)) := fun W => by
  obtain ⟨i, hi, hz0, hz1, hz2⟩ := info_parts Tryd.infoInt'
  have := run_make (P := Tryd.prog) W 24 3 i _ Tryd.underlying24 hi hz0 .i64 .i64 ((n : Int) + 1) ((n : Int) + 1) (by omega) (Int.le_refl _) (by rw [hz2]; omega) (by omega)
  rw [hz1, show ((n : Int) + 1).toNat = n + 1 by omega, made_rk] at this
  exact this
end Go.Proofs.YtlabdbfmfejkaaaDoor
