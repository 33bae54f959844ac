/- Blocks, and the law's own example. -/
import Derived.Test.YtlabdbfmfejkaaaDoorArGP
import Derived.Test.YtlabdbfmfejkaaaDoorArO
namespace Go.Proofs.YtlabdbfmfejkaaaDoor
open Go.RowKit

/-- A row of values in a block of its own. -/
def Row (w : World) (g : Nat) (T : TypeId) (l : List Value) : Prop := w.heap[g]? = some (.cells l.toArray T (0, 0))
theorem Row.kept {w w' : World} {S : Nat → Prop} {g : Nat} {T : TypeId} {l : List Value} (h : Row w g T l) (hk : Kept w w' S) (hs : ¬ S g) : Row w' g T l :=
  (hk.block g (Array.getElem?_eq_some_iff.1 h).1 hs).trans h
theorem Row.below {w w' : World} {g : Nat} {T : TypeId} {l : List Value} (h : Row w g T l) (hb : Below w.heap.size w w') : Row w' g T l := h.kept (kept_of_below hb (fun _ => False)) id
theorem Row.lt {w : World} {g : Nat} {T : TypeId} {l : List Value} (h : Row w g T l) : g < w.heap.size := (Array.getElem?_eq_some_iff.1 h).1
theorem Row.cell {w : World} {g : Nat} {T : TypeId} {l : List Value} (h : Row w g T l) (k : Nat) (hk : k < l.length) : w.cell? ⟨g, k, none⟩ = some l[k] := by
  rw [cell_of_row w g k _ _ _ h]
  simp [hk]
theorem Row.frozen {w : World} {g : Nat} {T : TypeId} {l : List Value} (h : Row w g T l) (k : Nat) : w.frozen? ⟨g, k, none⟩ = false := frozen_of_row w g k _ _ h
theorem Row.set {w : World} {g : Nat} {T : TypeId} {l : List Value} (h : Row w g T l) (k : Nat) (v : Value) : Row (w.setCell ⟨g, k, none⟩ v) g T (l.set k v) := by
  unfold Row at *
  rw [heap_setCell_same w g k _ _ v h]
  simp

theorem Tryd.infoInt : (Tryd.prog.info? 3).map (fun i => (i.zero, i.size, i.bytes)) = some (some (.int .i64 0), 1, 8) := by kernel_rfl

/-- A class as a value. -/
def cV (x : Bk) : Value := .int .i64 (x.c : Int)
/-- The classes of the first m blocks; behind them zeros. -/
def clsL (bs : List Bk) (m : Nat) : List Value := (bs.take m).map cV ++ List.replicate (bs.length - m) (.int .i64 0)
theorem clsL_len (bs : List Bk) (m : Nat) (hm : m ≤ bs.length) : (clsL bs m).length = bs.length := by
  simp [clsL]; omega
theorem clsL_at (bs : List Bk) (m : Nat) (hm : m < bs.length) : (clsL bs m)[m]? = some (.int .i64 0) := by
  unfold clsL
  rw [List.getElem?_append_right (by simp; omega)]
  have e : m - ((bs.take m).map cV).length = 0 := by simp; omega
  rw [e, List.getElem?_replicate, if_pos (by omega)]
theorem clsL_set (bs : List Bk) (m : Nat) (hm : m < bs.length) : (clsL bs m).set m (.int .i64 (bs[m].c : Int)) = clsL bs (m + 1) := by
  unfold clsL
  rw [List.take_succ_eq_append_getElem hm, List.map_append]
  obtain ⟨q, hq⟩ : ∃ q, bs.length - m = q + 1 := ⟨bs.length - m - 1, by omega⟩
  rw [hq, List.replicate_succ, List.set_append_right _ _ (by simp; omega)]
  have e : m - ((bs.take m).map cV).length = 0 := by simp; omega
  rw [e, List.set_cons_zero, show bs.length - (m + 1) = q by omega]
  simp [cV]
theorem clsL_all (bs : List Bk) (m : Nat) (hm : bs.length ≤ m) : clsL bs m = bs.map cV := by
  unfold clsL
  rw [List.take_of_length_le hm, show bs.length - m = 0 by omega]
  simp


end Go.Proofs.YtlabdbfmfejkaaaDoor
