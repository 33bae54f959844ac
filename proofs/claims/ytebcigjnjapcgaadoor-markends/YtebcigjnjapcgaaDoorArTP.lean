import Derived.Test.YtebcigjnjapcgaaDoorArP
import Derived.Test.YtebcigjnjapcgaaDoorArQ
import Derived.Laws.MakeOwn
/- The plain arena in memory; New, At. -/
/- The plain arena's Used and Room. -/
namespace Go.Proofs.YtebcigjnjapcgaaDoor
open Go.RowKit

/-- The plain arena of the blocks bs: at rb, its classes at rc, its places at rt. -/
structure RA (w : World) (rb rc rt : Nat) (bs : List Bk) : Prop where
  len : bs.length ≤ 256
  box : w.heap[rb]? = some (.cells #[.slice (some ⟨rc, 0, none⟩) bs.length bs.length, .slice (some ⟨rt, 0, none⟩) bs.length bs.length] 126 (0, 0))
  cls : Row w rc 3 (bs.map cV)
  tkn : ∃ cs, w.heap[rt]? = some (.cells cs 128 (0, 0)) ∧ cs.size = bs.length * 16 ∧ ∀ i (hi : i < bs.length) j, j < 16 → cs[i * 16 + j]? = some (.bool (bs[i].t.testBit j))
  ne : rb ≠ rc ∧ rb ≠ rt ∧ rc ≠ rt
section
variable {w w' : World} {rb rc rt : Nat} {bs : List Bk} {S : Nat → Prop}
theorem RA.lt (h : RA w rb rc rt bs) : rb < w.heap.size ∧ rc < w.heap.size ∧ rt < w.heap.size := by
  obtain ⟨cs, h1, _⟩ := h.tkn
  exact ⟨(Array.getElem?_eq_some_iff.1 h.box).1, h.cls.lt, (Array.getElem?_eq_some_iff.1 h1).1⟩
theorem RA.kept (h : RA w rb rc rt bs) (hk : Kept w w' S) (h1 : ¬ S rb) (h2 : ¬ S rc) (h3 : ¬ S rt) : RA w' rb rc rt bs := by
  obtain ⟨cs, h4, h5⟩ := h.tkn
  obtain ⟨l1, l2, l3⟩ := h.lt
  exact ⟨h.len, (hk.block rb l1 h1).trans h.box, h.cls.kept hk h2, ⟨cs, (hk.block rt l3 h3).trans h4, h5⟩, h.ne⟩
theorem RA.below (h : RA w rb rc rt bs) (hb : Below w.heap.size w w') : RA w' rb rc rt bs := h.kept (kept_of_below hb (fun _ => False)) id id id
theorem RA.c0 (h : RA w rb rc rt bs) : w.cell? ⟨rb, 0, none⟩ = some (.slice (some ⟨rc, 0, none⟩) bs.length bs.length) := cell_of_row w rb 0 _ _ _ h.box
theorem RA.c1 (h : RA w rb rc rt bs) : w.cell? ⟨rb, 1, none⟩ = some (.slice (some ⟨rt, 0, none⟩) bs.length bs.length) := cell_of_row w rb 1 _ _ _ h.box
theorem RA.cl (h : RA w rb rc rt bs) (i : Nat) (hi : i < bs.length) : w.cell? ⟨rc, i, none⟩ = some (.int .i64 (bs[i].c : Int)) := by
  rw [h.cls.cell i (by simpa using hi), List.getElem_map]
  rfl
theorem RA.bit (h : RA w rb rc rt bs) (i j : Nat) (hi : i < bs.length) (hj : j < 16) : w.cell? ⟨rt, i * 16 + j, none⟩ = some (.bool (bs[i].t.testBit j)) := by
  obtain ⟨cs, h1, _, h2⟩ := h.tkn
  rw [cell_of_row w rt _ _ _ _ h1, h2 i hi j hj]
theorem RA.fc (h : RA w rb rc rt bs) (j : Nat) : w.frozen? ⟨rc, j, none⟩ = false := h.cls.frozen j
theorem RA.ft (h : RA w rb rc rt bs) (j : Nat) : w.frozen? ⟨rt, j, none⟩ = false := by
  obtain ⟨cs, h1, _⟩ := h.tkn
  exact frozen_of_row w rt j _ _ h1
end

theorem Tryd.infoBools : (Tryd.prog.info? 128).map (fun i => (i.zero, i.size, i.bytes)) = some (some (.agg (List.replicate 16 (.bool false)).toArray), 16, 16) := by kernel_rfl

theorem made_bools (n : Nat) : ∀ i, i < n * 16 → (madeCells (Value.agg (List.replicate 16 (Value.bool false)).toArray).cells (n * 16))[i]? = some (.bool false) := by
  intro i hi
  show ((Array.range (n * 16)).map ((List.replicate 16 (Value.bool false)).toArray[· % 16]!))[i]? = _
  rw [Array.getElem?_map, Array.getElem?_range, if_pos hi]
  simp only [Option.map_some, Option.some.injEq]
  have : i % 16 < 16 := Nat.mod_lt _ (by decide)
  rw [getElem!_pos (List.replicate 16 (Value.bool false)).toArray (i % 16) (by simpa using this), List.getElem_toArray, List.getElem_replicate]
theorem made_ints (n : Nat) : madeCells (Value.int .i64 0).cells (n * 1) = (List.replicate n (Value.int .i64 0)).toArray := by
  rw [Nat.mul_one, show (Value.int .i64 0).cells = #[Value.int .i64 0] from rfl]
  apply Array.ext'
  rw [toList_madeCells_one]
theorem RA.make {w : World} {rb rc rt n : Nat} {Z2 : Array Value} (h2 : n ≤ 256) (h0 : w.heap[rb]? = some (.cells #[.slice (some ⟨rc, 0, none⟩) n n, .slice (some ⟨rt, 0, none⟩) n n] 126 (0, 0))) (h1 : w.heap[rc]? = some (.cells (List.replicate n (Value.int .i64 0)).toArray 3 (0, 0)))
    (h3 : w.heap[rt]? = some (.cells Z2 128 (0, 0))) (hs : Z2.size = n * 16) (hz : ∀ i, i < n * 16 → Z2[i]? = some (.bool false)) (hne : rb ≠ rc ∧ rb ≠ rt ∧ rc ≠ rt) : RA w rb rc rt (List.replicate n bk0) := by
  refine ⟨by simpa using h2, by simpa using h0, ?_, ⟨Z2, h3, by simpa using hs, fun i hi j hj => ?_⟩, hne⟩
  · unfold Row
    rw [List.map_replicate]
    exact h1
  · rw [List.length_replicate] at hi
    rw [hz _ (by omega), List.getElem_replicate]
    simp [bk0]
theorem a3_0 (w : World) (a b c : Obj) : (((w.alloc a).alloc b).alloc c).drew.heap[w.heap.size]? = some a := by
  show (((w.alloc a).alloc b).alloc c).heap[w.heap.size]? = some a
  rw [Below.heap_alloc _ _ _ (by simp; omega), Below.heap_alloc _ _ _ (by simp)]
  exact heap_alloc_new _ _
theorem a3_1 (w : World) (a b c : Obj) : (((w.alloc a).alloc b).alloc c).drew.heap[w.heap.size + 1]? = some b := by
  show (((w.alloc a).alloc b).alloc c).heap[w.heap.size + 1]? = some b
  rw [Below.heap_alloc _ _ _ (by simp)]
  have e : (w.alloc a).heap.size = w.heap.size + 1 := by simp
  rw [← e]
  exact heap_alloc_new _ _
theorem a3_2 (w : World) (a b c : Obj) : (((w.alloc a).alloc b).alloc c).drew.heap[w.heap.size + 1 + 1]? = some c := by
  show (((w.alloc a).alloc b).alloc c).heap[w.heap.size + 1 + 1]? = some c
  have e : ((w.alloc a).alloc b).heap.size = w.heap.size + 1 + 1 := by simp
  rw [← e]
  exact heap_alloc_new _ _
theorem a3_b (w : World) (a b c : Obj) : Below w.heap.size w (((w.alloc a).alloc b).alloc c).drew :=
  ((((Below.refl _ _).alloc (Nat.le_refl _) a).alloc (by simp) b).alloc (by simp; omega) c).drew

set_option maxRecDepth 20000 in
set_option maxHeartbeats 1000000 in
theorem rnew_any (n : Nat) (h1 : 1 ≤ n) (h2 : n ≤ 256) (w : World) :
    Calls Tryd.prog 47 #[.int .i64 ((16 * n : Nat) : Int)] w fun e w' => ∃ rb rc rt, e = .returned (.pointer (some ⟨rb, 0, none⟩)) ∧ RA w' rb rc rt (List.replicate n bk0) ∧ Below w.heap.size w w' ∧ w.heap.size ≤ rb ∧ w.heap.size ≤ rc ∧ w.heap.size ≤ rt := by
  have e1 : ((16 * n : Nat) : Int) = 16 * (n : Int) := by omega
  have hq : (16 * (n : Int)) / 16 = (n : Int) := by omega
  rw [e1]
  obtain ⟨i, hi, hz0, hz1, hz2⟩ := info_parts Tryd.infoInt
  obtain ⟨i2, hi2, hy0, hy1, hy2⟩ := info_parts Tryd.infoBools
  have hm1 : ∀ W : World, (Instr.makeSlice 27 (.int .i64 (n : Int)) (.int .i64 (n : Int))).run Tryd.prog W = .ok (.slice (some ⟨W.heap.size, 0, none⟩) n n) (W.alloc (.cells (madeCells (Value.int .i64 0).cells (n * 1)) 3)) := fun W => by
    have := run_make (P := Tryd.prog) W 27 3 i _ Tryd.underlying27 hi hz0 .i64 .i64 (n : Int) (n : Int) (by omega) (Int.le_refl _) (by rw [hz2]; omega) (by omega)
    rw [hz1] at this
    exact this
  have hm2 : ∀ W : World, (Instr.makeSlice 124 (.int .i64 (n : Int)) (.int .i64 (n : Int))).run Tryd.prog W = .ok (.slice (some ⟨W.heap.size, 0, none⟩) n n) (W.alloc (.cells (madeCells (Value.agg (List.replicate 16 (.bool false)).toArray).cells (n * 16)) 128)) := fun W => by
    have := run_make (P := Tryd.prog) W 124 128 i2 _ Tryd.underlying124 hi2 hy0 .i64 .i64 (n : Int) (n : Int) (by omega) (Int.le_refl _) (by rw [hy2]; omega) (by omega)
    rw [hy1] at this
    exact this
  rw [made_ints] at hm1
  have HS2 : Hid ((madeCells (Value.agg (List.replicate 16 (Value.bool false)).toArray).cells (n * 16)).size = n * 16) := size_madeCells _ _
  have HZ2 : Hid (∀ i, i < n * 16 → (madeCells (Value.agg (List.replicate 16 (Value.bool false)).toArray).cells (n * 16))[i]? = some (.bool false)) := made_bools n
  obtain ⟨Z1, HZ1⟩ : ∃ Z1, Hid ((List.replicate n (Value.int .i64 0)).toArray = Z1) := ⟨_, rfl⟩
  rw [HZ1.out] at hm1
  generalize madeCells (Value.agg (List.replicate 16 (.bool false)).toArray).cells (n * 16) = Z2 at *
  clear hi hz0 hz1 hz2 hi2 hy0 hy1 hy2
  go_enter Tryd.func47, Tryd.ntmps47
  go_wp2
  go_region
  · go_wp2
    go_ret
    refine ⟨_, _, _, rfl, RA.make h2 (a3_2 _ _ _ _) ?_ (a3_1 _ _ _ _) HS2.out HZ2.out ⟨by omega, by omega, by omega⟩, a3_b _ _ _ _, by omega, by omega, by omega⟩
    rw [HZ1.out]
    exact a3_0 _ _ _ _
  · go_wp2
    go_ret
    refine ⟨_, _, _, rfl, RA.make h2 (a3_2 _ _ _ _) ?_ (a3_0 _ _ _ _) HS2.out HZ2.out ⟨by omega, by omega, by omega⟩, a3_b _ _ _ _, by omega, by omega, by omega⟩
    rw [HZ1.out]
    exact a3_1 _ _ _ _

end Go.Proofs.YtebcigjnjapcgaaDoor

namespace Go.Proofs.YtebcigjnjapcgaaDoor
open Go.RowKit

/-- How many of the first n bits are set. -/
def cnt (t n : Nat) : Nat := (List.range n).countP (fun i => t.testBit i)
theorem cnt_le (t n : Nat) : cnt t n ≤ n := Nat.le_trans List.countP_le_length (by simp)
theorem cnt_yes {t n : Nat} (h : t.testBit n = true) : cnt t (n + 1) = cnt t n + 1 := by
  unfold cnt
  rw [List.range_succ, List.countP_append]
  simp [h]
theorem cnt_no {t n : Nat} (h : t.testBit n = false) : cnt t (n + 1) = cnt t n := by
  unfold cnt
  rw [List.range_succ, List.countP_append]
  simp [h]
theorem cnt_pc {t n : Nat} (hn : n ≤ 16) (h : t < 2 ^ n) : cnt t n = pc t := by
  have e : pc t = Lib.popAux 16 t := (popAux_eq 16 t).symm
  rw [e, popAux_small n 16 t h hn, popAux_eq]
  rfl

/-- How many of the first j places of class k can be taken. -/
def rcnt (x : Bk) (k j : Nat) : Nat := if x.c = 0 then j else if x.c = k then j - cnt x.t j else 0
theorem rcnt_le (x : Bk) (k j : Nat) : rcnt x k j ≤ j := by
  unfold rcnt
  split
  · omega
  · split <;> omega
theorem rcnt_room {x : Bk} {k : Nat} (hO : x.Ok) : rcnt x k (16 / k) = roomN x k := by
  unfold rcnt roomN
  by_cases h0 : x.c = 0
  · rw [if_pos h0, if_pos (Or.inl h0)]
    have ht : x.t = 0 := by
      rcases hO with ⟨_, h⟩ | ⟨h, _⟩
      · exact h
      · have := h.pos; omega
    rw [ht, pc_zero, Nat.sub_zero]
  · rw [if_neg h0]
    by_cases h1 : x.c = k
    · rw [if_pos h1, if_pos (Or.inr h1)]
      rcases hO with ⟨h, _⟩ | ⟨_, _, h⟩
      · exact absurd h h0
      · rw [h1] at h
        rw [cnt_pc (Nat.div_le_self _ _) h]
    · rw [if_neg h1, if_neg (fun e => e.elim h0 h1)]


end Go.Proofs.YtebcigjnjapcgaaDoor

