/- Roots reckoned, and in memory. -/
import Derived.Test.YtfoodmlgknckgaaRows
import Derived.Test.YtfoodmlgknckgaaTbL
import Derived.Laws.StructEq
namespace Go.Proofs.Ytfoodmlgknckgaa
open Go.RowKit

/-- What a mutator's slots hold. -/
abbrev Rw := List (Int × Nat)
def rightI (x : Int × Nat) : Bool := (x.1 == 0 && x.2 == 0) || (decide (1 ≤ x.1) && decide (x.1 ≤ 64) && decide (1 ≤ x.2) && decide (x.2 ≤ 72057594037927935))
/-- It is none. -/
def noneI (x : Int × Nat) : Bool := x.1 == 0 && ((x.2 : Int) == 0)
/-- The two are the same. -/
def sameI (x y : Int × Nat) : Bool := x.1 == y.1 && ((x.2 : Int) == (y.2 : Int))
theorem sameI_iff (x y : Int × Nat) : sameI x y = true ↔ x = y := by
  obtain ⟨a, b⟩ := x
  obtain ⟨c, d⟩ := y
  simp only [sameI, Bool.and_eq_true, beq_iff_eq, Prod.mk.injEq]
  omega
theorem noneI_iff (x : Int × Nat) : noneI x = true ↔ x = (0, 0) := by
  obtain ⟨a, b⟩ := x
  simp only [noneI, Bool.and_eq_true, beq_iff_eq, Prod.mk.injEq]
  omega
theorem noneI_same (x : Int × Nat) : noneI x = sameI x (0, 0) := rfl

/-- A mutator's row. -/
def rowR (S : List Rw) (m : Int) : Rw := if 0 ≤ m then S.getD m.toNat [] else []
/-- There is such a slot. -/
def hasB (S : List Rw) (m s : Int) : Bool := decide (0 ≤ s) && decide (s < ((rowR S m).length : Int))
def getR (S : List Rw) (m s : Int) : (Int × Nat) × Bool := if hasB S m s then ((rowR S m).getD s.toNat (0, 0), true) else ((0, 0), false)
def setB (S : List Rw) (m s : Int) (x : Int × Nat) : Bool := hasB S m s && rightI x
def setS (S : List Rw) (m s : Int) (x : Int × Nat) : List Rw := if setB S m s x then S.set m.toNat ((rowR S m).set s.toNat x) else S
def keepR (r : Rw) : Rw := r.filter (fun x => !noneI x)
def ofR (S : List Rw) (m : Int) : Rw := keepR (rowR S m)
def allR (S : List Rw) : Rw := S.flatMap keepR
def cntR (S : List Rw) (x : Int × Nat) : Nat := (S.map (fun r => r.countP (fun y => sameI y x))).sum

theorem rowR_nat (S : List Rw) (m : Nat) (h : m < S.length) : rowR S (m : Int) = S[m] := by
  unfold rowR
  rw [if_pos (by omega), Int.toNat_natCast, List.getD_eq_getElem?_getD, List.getElem?_eq_getElem h]
  rfl
theorem rowR_no (S : List Rw) (m : Int) (h : m < 0 ∨ (S.length : Int) ≤ m) : rowR S m = [] := by
  unfold rowR
  split
  · rw [List.getD_eq_getElem?_getD, List.getElem?_eq_none (by omega)]
    rfl
  · rfl
/-- Of a slot that is there. -/
theorem hasB_nat {S : List Rw} {m s : Int} (h : hasB S m s = true) : ∃ i j : Nat, m = (i : Int) ∧ s = (j : Int) ∧ ∃ hi : i < S.length, j < S[i].length := by
  unfold hasB at h
  simp only [Bool.and_eq_true, decide_eq_true_eq] at h
  by_cases hm : m < 0 ∨ (S.length : Int) ≤ m
  · rw [rowR_no S m hm] at h
    simp at h
    omega
  · have hi : m.toNat < S.length := by omega
    have e : m = (m.toNat : Int) := by omega
    rw [e, rowR_nat S _ hi] at h
    exact ⟨m.toNat, s.toNat, e, by omega, hi, by omega⟩
theorem hasB_at {S : List Rw} {i j : Nat} (hi : i < S.length) (hj : j < S[i].length) : hasB S (i : Int) (j : Int) = true := by
  unfold hasB
  rw [rowR_nat S i hi]
  simp only [Bool.and_eq_true, decide_eq_true_eq]
  omega
theorem getR_at {S : List Rw} {i j : Nat} (hi : i < S.length) (hj : j < S[i].length) : getR S (i : Int) (j : Int) = (S[i][j], true) := by
  unfold getR
  rw [if_pos (hasB_at hi hj), rowR_nat S i hi, Int.toNat_natCast, List.getD_eq_getElem?_getD, List.getElem?_eq_getElem hj]
  rfl
theorem getR_no {S : List Rw} {m s : Int} (h : hasB S m s = false) : getR S m s = ((0, 0), false) := by
  unfold getR
  rw [if_neg (by simp [h])]
theorem setS_at {S : List Rw} {i j : Nat} {x : Int × Nat} (hi : i < S.length) (hj : j < S[i].length) (hx : rightI x = true) : setS S (i : Int) (j : Int) x = S.set i (S[i].set j x) := by
  unfold setS setB
  rw [if_pos (by simp [hasB_at hi hj, hx]), rowR_nat S i hi]
  rfl
theorem setS_no {S : List Rw} {m s : Int} {x : Int × Nat} (h : setB S m s x = false) : setS S m s x = S := by
  unfold setS
  rw [if_neg (by simp [h])]
theorem setS_len (S : List Rw) (m s : Int) (x : Int × Nat) : (setS S m s x).length = S.length := by
  unfold setS
  split
  · simp
  · rfl

/-- The cells of an ID, of IDs. -/
def idV (x : Int × Nat) : List Value := [.int .i64 x.1, .int .u64 (x.2 : Int)]
def idsV (l : List (Int × Nat)) : List Value := l.flatMap idV
theorem idsV_len (l : List (Int × Nat)) : (idsV l).length = l.length * 2 := by
  induction l with
  | nil => rfl
  | cons x l ih => unfold idsV at *; rw [List.flatMap_cons, List.length_append, ih]; simp [idV]; omega
theorem idsV_app (l m : List (Int × Nat)) : idsV (l ++ m) = idsV l ++ idsV m := by simp [idsV]
theorem idsV_at : ∀ (l : List (Int × Nat)) (i : Nat) (hi : i < l.length), (idsV l)[i * 2]? = some (.int .i64 l[i].1) ∧ (idsV l)[i * 2 + 1]? = some (.int .u64 (l[i].2 : Int))
  | x :: l, 0, _ => by constructor <;> rfl
  | x :: l, i + 1, hi => by
    have := idsV_at l i (by simpa using hi)
    have e1 : (i + 1) * 2 = i * 2 + 2 := by omega
    constructor
    · rw [e1]; exact this.1
    · rw [e1]; exact this.2
theorem idsV_set : ∀ (l : List (Int × Nat)) (i : Nat) (_ : i < l.length) (x : Int × Nat), ((idsV l).set (i * 2) (.int .i64 x.1)).set (i * 2 + 1) (.int .u64 (x.2 : Int)) = idsV (l.set i x)
  | y :: l, 0, _, x => rfl
  | y :: l, i + 1, hi, x => by
    have := idsV_set l i (by simpa using hi) x
    have e1 : (i + 1) * 2 = i * 2 + 2 := by omega
    rw [e1]
    show idV y ++ (((idsV l).set (i * 2) _).set (i * 2 + 1) _) = _
    rw [this]
    rfl
theorem idsV_one (l : List (Int × Nat)) : ∀ u ∈ idsV l, u.oneCell' = true := by
  intro u hu
  unfold idsV at hu
  obtain ⟨y, _, hy⟩ := List.mem_flatMap.1 hu
  simp only [idV, List.mem_cons, List.not_mem_nil, or_false] at hy
  rcases hy with rfl | rfl <;> rfl

/-- A row of values in a block of its own. -/
def Row (w : World) (g : Nat) (T : TypeId) (l : List Value) : Prop := w.heap[g]? = some (.cells l.toArray T (0, 0))
theorem Row.kept {w w' : World} {S : Nat → Prop} {g : Nat} {T : TypeId} {l : List Value} (h : Row w g T l) (hk : Kept w w' S) (hs : ¬ S g) : Row w' g T l :=
  (hk.block g (Array.getElem?_eq_some_iff.1 h).1 hs).trans h
theorem Row.below {w w' : World} {g : Nat} {T : TypeId} {l : List Value} (h : Row w g T l) (hb : Below w.heap.size w w') : Row w' g T l := h.kept (kept_of_below hb (fun _ => False)) id
theorem Row.lt {w : World} {g : Nat} {T : TypeId} {l : List Value} (h : Row w g T l) : g < w.heap.size := (Array.getElem?_eq_some_iff.1 h).1
theorem Row.cell {w : World} {g : Nat} {T : TypeId} {l : List Value} (h : Row w g T l) (k : Nat) (hk : k < l.length) : w.cell? ⟨g, k, none⟩ = some l[k] := by
  rw [cell_of_row w g k _ _ _ h]
  simp [hk]
theorem Row.at {w : World} {g : Nat} {T : TypeId} {l : List Value} (h : Row w g T l) (j : Nat) (u : Value) (hu : l[j]? = some u) : w.cell? ⟨g, j, none⟩ = some u := by
  have hj : j < l.length := (List.getElem?_eq_some_iff.1 hu).1
  rw [h.cell j hj]
  rw [List.getElem?_eq_getElem hj] at hu
  exact hu
theorem Row.frozen {w : World} {g : Nat} {T : TypeId} {l : List Value} (h : Row w g T l) (k : Nat) : w.frozen? ⟨g, k, none⟩ = false := frozen_of_row w g k _ _ h
theorem Row.set {w : World} {g : Nat} {T : TypeId} {l : List Value} (h : Row w g T l) (k : Nat) (v : Value) : Row (w.setCell ⟨g, k, none⟩ v) g T (l.set k v) := by
  unfold Row at *
  rw [heap_setCell_same w g k _ _ v h]
  simp
theorem Kept.drew (w : World) : Kept w w.drew (fun _ => False) := ⟨rfl, rfl, rfl, Nat.le_refl _, fun _ _ _ => rfl⟩
theorem Kept.drewN (w : World) (n : Nat) : Kept w (w.drewN n) (fun _ => False) := ⟨rfl, rfl, rfl, Nat.le_refl _, fun _ _ _ => rfl⟩
theorem below_drewN0 (w : World) (n : Nat) : Below w.heap.size w (w.drewN n) := ⟨rfl, rfl, rfl, Nat.le_refl _, fun _ _ => rfl⟩
theorem bel_alloc (w : World) (o : Obj) : Below w.heap.size w (w.alloc o) := (Below.refl _ _).alloc (Nat.le_refl _) o

theorem nd_inj {gs : List Nat} (h : gs.Nodup) {i j g : Nat} (hi : gs[i]? = some g) (hj : gs[j]? = some g) : i = j := by
  obtain ⟨l1, e1⟩ := List.getElem?_eq_some_iff.1 hi
  obtain ⟨l2, e2⟩ := List.getElem?_eq_some_iff.1 hj
  have hp := List.pairwise_iff_getElem.1 h
  rcases Nat.lt_trichotomy i j with hlt | rfl | hlt
  · exact absurd (e1.trans e2.symm) (hp i j l1 l2 hlt)
  · rfl
  · exact absurd (e2.trans e1.symm) (hp j i l2 l1 hlt)

/-- Roots in memory (the program's or the plain ones): the struct at rb, its table at tb, the rows at gs, K slots each. -/
structure RX (w : World) (rb tb cap : Nat) (gs : List Nat) (K : Nat) (S : List Rw) : Prop where
  box : w.cell? ⟨rb, 0, none⟩ = some (.slice (some ⟨tb, 0, none⟩) S.length cap)
  tab : ∀ (i g : Nat), gs[i]? = some g → w.cell? ⟨tb, i, none⟩ = some (.slice (some ⟨g, 0, none⟩) K K)
  gl : gs.length = S.length
  rows : ∀ (i g : Nat) (r : Rw), gs[i]? = some g → S[i]? = some r → Row w g 30 (idsV r)
  wid : ∀ r ∈ S, r.length = K
  nd : gs.Nodup
  off : rb ∉ gs ∧ tb ∉ gs
  few : S.length ≤ 4 ∧ K ≤ 8 ∧ S.length ≤ cap ∧ cap ≤ maxLen
/-- Their blocks. -/
def rBl (rb tb : Nat) (gs : List Nat) (k : Nat) : Prop := k = rb ∨ k = tb ∨ k ∈ gs

section
variable {w w' : World} {rb tb cap K : Nat} {gs : List Nat} {S : List Rw} {P : Nat → Prop}
theorem cell_lt {a : Addr} {v : Value} (h : w.cell? a = some v) : a.block < w.heap.size := World.block_lt_of_cell? w _ h
theorem cell_kept {b i : Nat} {v : Value} (h : w.cell? ⟨b, i, none⟩ = some v) (hk : Kept w w' P) (hP : ¬ P b) : w'.cell? ⟨b, i, none⟩ = some v :=
  (World.cell?_of_block (a := ⟨b, i, none⟩) (hk.block b (cell_lt h) hP)).trans h
theorem RX.kept (x : RX w rb tb cap gs K S) (hk : Kept w w' P) (hP : ∀ k, rBl rb tb gs k → ¬ P k) : RX w' rb tb cap gs K S :=
  ⟨cell_kept x.box hk (hP _ (Or.inl rfl)), fun i g hg => cell_kept (x.tab i g hg) hk (hP _ (Or.inr (Or.inl rfl))), x.gl,
    fun i g r hg hr => (x.rows i g r hg hr).kept hk (hP _ (Or.inr (Or.inr (List.mem_of_getElem? hg)))), x.wid, x.nd, x.off, x.few⟩
theorem RX.below (x : RX w rb tb cap gs K S) (hb : Below w.heap.size w w') : RX w' rb tb cap gs K S := x.kept (kept_of_below hb (fun _ => False)) (fun _ _ => id)
theorem RX.at (x : RX w rb tb cap gs K S) (i : Nat) (hi : i < S.length) : ∃ g, gs[i]? = some g ∧ w.cell? ⟨tb, i, none⟩ = some (.slice (some ⟨g, 0, none⟩) K K) ∧ Row w g 30 (idsV S[i]) ∧ S[i].length = K := by
  have hg : i < gs.length := by rw [x.gl]; exact hi
  exact ⟨gs[i], List.getElem?_eq_getElem hg, x.tab i _ (List.getElem?_eq_getElem hg), x.rows i _ _ (List.getElem?_eq_getElem hg) (List.getElem?_eq_getElem hi), x.wid _ (List.getElem_mem hi)⟩
theorem RX.lt (x : RX w rb tb cap gs K S) : ∀ k, rBl rb tb gs k → 0 < S.length → k < w.heap.size := by
  intro k hk h0
  rcases hk with rfl | rfl | hk
  · exact cell_lt x.box
  · obtain ⟨g, _, h1, _⟩ := x.at 0 h0
    exact cell_lt h1
  · obtain ⟨i, hi, rfl⟩ := List.mem_iff_getElem.1 hk
    obtain ⟨g, h1, _, h2, _⟩ := x.at i (by rw [← x.gl]; exact hi)
    rw [List.getElem?_eq_getElem hi] at h1
    cases h1
    exact h2.lt
/-- A slot is written. -/
theorem RX.set (x : RX w rb tb cap gs K S) {i j g : Nat} (hi : i < S.length) (hj : j < S[i].length) (hg : gs[i]? = some g) (a : Int × Nat) :
    RX ((w.setCell ⟨g, j * 2, none⟩ (.int .i64 a.1)).setCell ⟨g, j * 2 + 1, none⟩ (.int .u64 (a.2 : Int))) rb tb cap gs K (S.set i (S[i].set j a)) ∧
    Kept w ((w.setCell ⟨g, j * 2, none⟩ (.int .i64 a.1)).setCell ⟨g, j * 2 + 1, none⟩ (.int .u64 (a.2 : Int))) (fun k => k ∈ gs) := by
  have hmem : g ∈ gs := List.mem_of_getElem? hg
  have hk0 : Kept w ((w.setCell ⟨g, j * 2, none⟩ (.int .i64 a.1)).setCell ⟨g, j * 2 + 1, none⟩ (.int .u64 (a.2 : Int))) (fun k => k = g) := (Kept.setCell w ⟨g, j * 2, none⟩ _).trans (Kept.setCell _ ⟨g, j * 2 + 1, none⟩ _) (fun _ _ e => e)
  have hk : Kept w ((w.setCell ⟨g, j * 2, none⟩ (.int .i64 a.1)).setCell ⟨g, j * 2 + 1, none⟩ (.int .u64 (a.2 : Int))) (fun k => k ∈ gs) := hk0.mono (fun k _ e => by have e' : k = g := e; rw [e']; exact hmem)
  refine ⟨⟨by rw [List.length_set]; exact cell_kept x.box hk x.off.1, fun i g hg => cell_kept (x.tab i g hg) hk x.off.2, by rw [List.length_set]; exact x.gl, fun i' g' r hg' hr => ?_, fun r hr => ?_, x.nd, x.off, by rw [List.length_set]; exact x.few⟩, hk⟩
  · by_cases hii : i' = i
    · subst hii
      rw [hg] at hg'
      cases hg'
      rw [List.getElem?_set, if_pos rfl, if_pos hi] at hr
      cases hr
      have h0 := x.rows i' g _ hg (List.getElem?_eq_getElem hi)
      have h1 := (h0.set (j * 2) (.int .i64 a.1)).set (j * 2 + 1) (.int .u64 (a.2 : Int))
      rw [idsV_set _ _ hj] at h1
      exact h1
    · rw [List.getElem?_set, if_neg (by omega)] at hr
      refine (x.rows i' g' r hg' hr).kept hk0 (fun e => hii ?_)
      have e' : g' = g := e
      subst e'
      exact nd_inj x.nd hg' hg
  · rcases List.mem_or_eq_of_mem_set hr with h | rfl
    · exact x.wid r h
    · rw [List.length_set]
      exact x.wid _ (List.getElem_mem hi)
end

theorem guardID : Try.prog.eqGuardType Try.prog.depth 30 = false := by kernel_rfl
theorem stoodID : Try.prog.stoodInHeld 30 = false := by kernel_rfl
set_option maxRecDepth 20000 in
theorem eqID (a c : Int) (b d : Int) (W : World) : (Op.equalIn 10000 30 (.agg #[.int .i64 a, .int .u64 b]) (.agg #[.int .i64 c, .int .u64 d])).run Try.prog W = .ok (a == c && b == d) W := by
  have hu : Try.prog.underlying 30 = some (.struct (Try.prog.fieldsOf 30)) := by kernel_rfl
  rw [show (10000 : Nat) = 9998 + 1 + 1 from rfl, run_equalIn_struct (P := Try.prog) W (9998 + 1) 30 _ _ hu stoodID]
  obtain ⟨f0, f1, hf, n0, n1, t0, t1, o0, o1⟩ : ∃ f0 f1, (Try.prog.fieldsOf 30).toList = [f0, f1] ∧ ¬ f0.name = "_" ∧ ¬ f1.name = "_" ∧ f0.type = 3 ∧ f1.type = 28 ∧ f0.offset = 0 ∧ f1.offset = 1 := ⟨_, _, rfl, by decide, by decide, rfl, rfl, rfl, rfl⟩
  rw [hf]
  have p0 : ∀ x y : Value, (part 3 #[x, y] 0).run Try.prog W = .ok x W := fun x y => rfl
  have p1 : ∀ x y : Value, (part 28 #[x, y] 1).run Try.prog W = .ok y W := fun x y => rfl
  have e0 := fun n => run_equalIn_int (P := Try.prog) W n 3 .i64 .i64 a c Try.underlying3
  have e1 := fun n => run_equalIn_int (P := Try.prog) W n 28 .u64 .u64 b d Try.underlying28
  simp [Op.eqFields, Result.andThen, n0, n1, t0, t1, o0, o1, p0, p1, e0, e1]
  by_cases h1 : a = c
  · by_cases h2 : b = d <;> simp [h1, h2]
  · simp [h1]
theorem Try.infoID : (Try.prog.info? 30).map (fun i => (i.zero, i.size, i.bytes)) = some (some (.agg #[.int .i64 0, .int .u64 0]), 2, 16) := by kernel_rfl
theorem Try.infoIDs : (Try.prog.info? 31).map (fun i => (i.zero, i.size, i.bytes)) = some (some (.slice none 0 0), 1, 24) := by kernel_rfl
theorem made_ids (n : Nat) : madeCells (Value.agg #[.int .i64 0, .int .u64 0]).cells (n * 2) = (idsV (List.replicate n (0, 0))).toArray := by
  apply Array.ext'
  apply List.ext_getElem?
  intro i
  have hl : (idsV (List.replicate n ((0, 0) : Int × Nat))).length = n * 2 := by rw [idsV_len, List.length_replicate]
  show ((Array.range (n * 2)).map ((#[Value.int .i64 0, Value.int .u64 0] : Array Value)[· % 2]!)).toList[i]? = _
  rw [Array.getElem?_toList, Array.getElem?_map]
  by_cases hi : i < n * 2
  · rw [Array.getElem?_range, if_pos hi]
    simp only [Option.map_some]
    obtain ⟨h1, h2⟩ := idsV_at (List.replicate n ((0, 0) : Int × Nat)) (i / 2) (by rw [List.length_replicate]; omega)
    rw [List.getElem_replicate] at h1 h2
    rcases Nat.mod_two_eq_zero_or_one i with e | e
    · rw [e, show i = i / 2 * 2 by omega, h1]
      rfl
    · rw [e]
      have e2 : i = i / 2 * 2 + 1 := by omega
      rw [e2, h2]
      rfl
  · rw [Array.getElem?_range, if_neg hi, List.getElem?_eq_none (by simp; omega)]
    rfl

end Go.Proofs.Ytfoodmlgknckgaa
