/- A shake: the reckoning, and one in memory (the program's, or the plain one). No program's text is in it. -/
import Derived.Test.YtbbdcjllmjhiiaaGrM
namespace Go.Proofs.Ytbbdcjllmjhiiaa
open Go.RowKit

/-- Is m one of the list's, and there? -/
def isB (l : List Bool) (m : Int) : Bool := decide (0 ≤ m) && decide (m < (l.length : Int)) && (l[m.toNat]?).getD false
/-- Is m one of the list's, and not there? -/
def newB (l : List Bool) (m : Int) : Bool := decide (0 ≤ m) && decide (m < (l.length : Int)) && !((l[m.toNat]?).getD true)
theorem isB_at {l : List Bool} {i : Nat} (h : i < l.length) : isB l (i : Int) = l[i] := by
  unfold isB
  simp [h]
theorem isB_off {l : List Bool} {m : Int} (h : m < 0 ∨ (l.length : Int) ≤ m) : isB l m = false := by
  unfold isB
  rcases h with h | h
  · simp [Int.not_le.2 h]
  · simp [Int.not_lt.2 h]
theorem newB_at {l : List Bool} {i : Nat} (h : i < l.length) : newB l (i : Int) = !l[i] := by
  unfold newB
  simp [h]
theorem newB_off {l : List Bool} {m : Int} (h : m < 0 ∨ (l.length : Int) ≤ m) : newB l m = false := by
  unfold newB
  rcases h with h | h
  · simp [Int.not_le.2 h]
  · simp [Int.not_lt.2 h]

/-- The phase, who is armed, who has scanned. -/
structure St where
  ph : Nat
  A : List Bool
  S : List Bool
def offs (n : Nat) : List Bool := List.replicate (n + 1) false
def St.new (n : Nat) : St := ⟨0, offs n, offs n⟩
def St.begin (n : Nat) (s : St) : St := if s.ph = 0 then ⟨1, s.A.set n true, s.S⟩ else s
def St.fin (n : Nat) (s : St) : St := if s.ph = 3 then St.new n else s
/-- Is one not there? -/
def offB (l : List Bool) : Bool := l.contains false
theorem offB_iff (l : List Bool) : offB l = true ↔ false ∈ l := by
  unfold offB
  rw [List.contains_iff_mem]
theorem offB_no (l : List Bool) : offB l = false ↔ ¬ false ∈ l := by
  rw [← offB_iff, Bool.not_eq_true]
def fullB (l : List Bool) : Bool := !offB l
def ansR (s : St) (m : Int) : Nat := if s.ph = 1 then (if newB s.A m then 1 else 0) else if s.ph = 2 then (if newB s.S m then 2 else 0) else 0
def St.ans (s : St) (m : Int) : St :=
  if s.ph = 1 then (if newB s.A m then ⟨if fullB (s.A.set m.toNat true) then 2 else 1, s.A.set m.toNat true, s.S⟩ else s)
  else if s.ph = 2 then (if newB s.S m then ⟨if fullB (s.S.set m.toNat true) then 3 else 2, s.A, s.S.set m.toNat true⟩ else s)
  else s

/-- What always holds of it. -/
structure Inv (n : Nat) (s : St) : Prop where
  la : s.A.length = n + 1
  ls : s.S.length = n + 1
  le : s.ph ≤ 3
  idle : s.ph = 0 → s = St.new n
  arm : s.ph = 1 → fullB s.A = false ∧ s.A[n]? = some true ∧ s.S = offs n
  scan : s.ph = 2 → fullB s.A = true ∧ fullB s.S = false
  run : s.ph = 3 → fullB s.A = true ∧ fullB s.S = true
theorem full_off (n : Nat) : fullB (offs n) = false := by
  unfold fullB
  rw [(offB_iff _).2 (by simp [offs])]
  rfl
theorem full_iff (l : List Bool) : fullB l = true ↔ ∀ b ∈ l, b = true := by
  unfold fullB
  rw [Bool.not_eq_true', offB_no]
  constructor
  · intro h b hb
    cases b with
    | true => rfl
    | false => exact absurd hb h
  · intro h hb
    exact absurd (h _ hb) (by decide)
theorem Inv.new (n : Nat) : Inv n (St.new n) := ⟨by simp [St.new, offs], by simp [St.new, offs], Nat.zero_le _, fun _ => rfl, (fun h => (by cases h)), (fun h => (by cases h)), (fun h => (by cases h))⟩
theorem Inv.begin {n : Nat} {s : St} (h : Inv n s) (hn : 1 ≤ n) : Inv n (s.begin n) := by
  unfold St.begin
  split
  · next h0 =>
    have e := h.idle h0
    subst e
    refine ⟨by simp [St.new, offs], by simp [St.new, offs], by simp, (fun h => (by cases h)), fun _ => ⟨?_, ?_, rfl⟩, (fun h => (by cases h)), (fun h => (by cases h))⟩
    · show fullB ((offs n).set n true) = false
      rw [← Bool.not_eq_true, full_iff]
      intro hf
      have := hf false (by
        rw [List.mem_iff_getElem?]
        refine ⟨0, ?_⟩
        rw [List.getElem?_set_ne (by omega)]
        simp [offs])
      cases this
    · show ((offs n).set n true)[n]? = some true
      rw [List.getElem?_set_self (by simp [offs])]
  · exact h
theorem Inv.fin {n : Nat} {s : St} (h : Inv n s) : Inv n (s.fin n) := by
  unfold St.fin
  split
  · exact Inv.new n
  · exact h
theorem Inv.ans {n : Nat} {s : St} (h : Inv n s) (m : Int) : Inv n (s.ans m) := by
  unfold St.ans
  split
  · next h1 =>
    obtain ⟨h2, h3, h4⟩ := h.arm h1
    split
    · next h5 =>
      have e : (s.A.set m.toNat true)[n]? = some true := by
        rw [List.getElem?_set]
        split
        · simp [h.la]; omega
        · exact h3
      cases hf : fullB (s.A.set m.toNat true)
      · exact ⟨by simp [h.la], h.ls, by simp, (fun h => (by simp at h)), fun _ => ⟨hf, e, h4⟩, (fun h => (by simp at h)), (fun h => (by simp at h))⟩
      · exact ⟨by simp [h.la], h.ls, by simp, (fun h => (by simp at h)), (fun h => (by simp at h)), fun _ => ⟨hf, by show fullB s.S = false; rw [h4]; exact full_off n⟩, (fun h => (by simp at h))⟩
    · exact h
  · split
    · next h0 h1 =>
      obtain ⟨h2, h3⟩ := h.scan h1
      split
      · cases hf : fullB (s.S.set m.toNat true)
        · exact ⟨h.la, by simp [h.ls], by simp, (fun h => (by simp at h)), (fun h => (by simp at h)), fun _ => ⟨h2, hf⟩, (fun h => (by simp at h))⟩
        · exact ⟨h.la, by simp [h.ls], by simp, (fun h => (by simp at h)), (fun h => (by simp at h)), (fun h => (by simp at h)), fun _ => ⟨h2, hf⟩⟩
      · exact h
    · exact h

/-- A list of Bools, whole, as a slice. -/
def slB (g N : Nat) : Value := .slice (some ⟨g, 0, none⟩) N N
/-- A shake at sb: behind 'pre' its phase and its two lists, in blocks of their own. -/
structure SX (w : World) (pre : List Value) (sb : Nat) (T E : TypeId) (ga gs N : Nat) (s : St) : Prop where
  box : Row w sb T (pre ++ [.int .i64 (s.ph : Int), slB ga N, slB gs N])
  ra : Row w ga E (s.A.map Value.bool)
  rs : Row w gs E (s.S.map Value.bool)
  la : s.A.length = N
  ls : s.S.length = N
  d1 : sb ≠ ga
  d2 : sb ≠ gs
  d3 : ga ≠ gs
  few : 2 ≤ N ∧ N ≤ 5
/-- Its blocks. -/
def xBl (sb ga gs k : Nat) : Prop := k = sb ∨ k = ga ∨ k = gs
/-- What became of it. -/
def SGo (w w' : World) (pre : List Value) (sb : Nat) (T E : TypeId) (ga gs N : Nat) (s' : St) : Prop :=
  ∃ ga' gs', SX w' pre sb T E ga' gs' N s' ∧ Kept w w' (xBl sb ga gs) ∧ (ga' = ga ∨ w.heap.size ≤ ga') ∧ (gs' = gs ∨ w.heap.size ≤ gs')
section
variable {w w' : World} {pre : List Value} {sb ga gs N : Nat} {T E : TypeId} {s s' : St} {P : Nat → Prop}
theorem SX.kept (x : SX w pre sb T E ga gs N s) (hk : Kept w w' P) (hP : ∀ k, xBl sb ga gs k → ¬ P k) : SX w' pre sb T E ga gs N s :=
  ⟨x.box.kept hk (hP _ (Or.inl rfl)), x.ra.kept hk (hP _ (Or.inr (Or.inl rfl))), x.rs.kept hk (hP _ (Or.inr (Or.inr rfl))), x.la, x.ls, x.d1, x.d2, x.d3, x.few⟩
theorem SX.below (x : SX w pre sb T E ga gs N s) (hb : Below w.heap.size w w') : SX w' pre sb T E ga gs N s := x.kept (kept_of_below hb (fun _ => False)) (fun _ _ => id)
theorem SX.lt (x : SX w pre sb T E ga gs N s) : ∀ k, xBl sb ga gs k → k < w.heap.size := by
  intro k hk
  rcases hk with rfl | rfl | rfl
  · exact x.box.lt
  · exact x.ra.lt
  · exact x.rs.lt
theorem SX.phase (x : SX w pre sb T E ga gs N s) : w.cell? ⟨sb, pre.length, none⟩ = some (.int .i64 (s.ph : Int)) := by
  have := x.box.cell pre.length (by simp)
  simpa using this
theorem SX.armed (x : SX w pre sb T E ga gs N s) : w.cell? ⟨sb, pre.length + 1, none⟩ = some (slB ga N) := by
  have := x.box.cell (pre.length + 1) (by simp)
  simpa using this
theorem SX.scanned (x : SX w pre sb T E ga gs N s) : w.cell? ⟨sb, pre.length + 2, none⟩ = some (slB gs N) := by
  have := x.box.cell (pre.length + 2) (by simp)
  simpa using this
theorem SGo.refl (x : SX w pre sb T E ga gs N s) (hb : Below w.heap.size w w') : SGo w w' pre sb T E ga gs N s := ⟨ga, gs, x.below hb, kept_of_below hb _, Or.inl rfl, Or.inl rfl⟩
/-- One more is armed. -/
theorem SX.setA (x : SX w pre sb T E ga gs N s) (i : Nat) : SX (w.setCell ⟨ga, i, none⟩ (.bool true)) pre sb T E ga gs N ⟨s.ph, s.A.set i true, s.S⟩ := by
  have hk := Kept.setCell w ⟨ga, i, none⟩ (.bool true)
  refine ⟨x.box.kept hk (fun e => x.d1 e), ?_, x.rs.kept hk (fun e => x.d3 e.symm), by simp [x.la], x.ls, x.d1, x.d2, x.d3, x.few⟩
  have := x.ra.set i (.bool true)
  rw [List.map_set]
  exact this
theorem SX.setS (x : SX w pre sb T E ga gs N s) (i : Nat) : SX (w.setCell ⟨gs, i, none⟩ (.bool true)) pre sb T E ga gs N ⟨s.ph, s.A, s.S.set i true⟩ := by
  have hk := Kept.setCell w ⟨gs, i, none⟩ (.bool true)
  refine ⟨x.box.kept hk (fun e => x.d2 e), x.ra.kept hk (fun e => x.d3 e), ?_, x.la, by simp [x.ls], x.d1, x.d2, x.d3, x.few⟩
  have := x.rs.set i (.bool true)
  rw [List.map_set]
  exact this
/-- Another phase. -/
theorem SX.turn (x : SX w pre sb T E ga gs N s) (p : Nat) : SX (w.setCell ⟨sb, pre.length, none⟩ (.int .i64 (p : Int))) pre sb T E ga gs N ⟨p, s.A, s.S⟩ := by
  have hk := Kept.setCell w ⟨sb, pre.length, none⟩ (.int .i64 (p : Int))
  refine ⟨?_, x.ra.kept hk (fun e => x.d1 e.symm), x.rs.kept hk (fun e => x.d2 e.symm), x.la, x.ls, x.d1, x.d2, x.d3, x.few⟩
  have := x.box.set pre.length (.int .i64 (p : Int))
  simpa using this
end

end Go.Proofs.Ytbbdcjllmjhiiaa
