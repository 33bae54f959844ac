/- All: each is taken and put again. -/
import Derived.Test.YteaoafdedjenaaaMlB
import Derived.Deep.CutRange
namespace Go.Proofs.Yteaoafdedjenaaa
open Go.RowKit Go.Conc

theorem info_parts {P : Program} {t : TypeId} {z : Value} {s b : Nat} (h : (P.info? t).map (fun i => (i.zero, i.size, i.bytes)) = some (some z, s, b)) : ∃ i, P.info? t = some i ∧ i.zero = some z ∧ i.size = s ∧ i.bytes = b := by
  obtain ⟨i, hi, hz⟩ := Option.map_eq_some_iff.1 h
  simp only [Prod.mk.injEq] at hz
  exact ⟨i, hi, hz.1, hz.2.1, hz.2.2⟩

/-- 'make([]T, n)' of elements of s cells: a new block of so many cells. -/
theorem wpList_make_wide {P : Program} (w : World) {ops : Array Oper} {rest : List Oper} {o : Oper} {a : Act} {Q : Exit → Act → World → Prop}
    (hg : o.guard = none) (l c : Operand) (t : TypeId) (hop : o.op = Op.makeSlice t l c)
    (e : TypeId) (i : TypeInfo) (z : Value) (s : Nat) (h1 : P.underlying t = some (.slice e)) (h2 : P.info? e = some i) (h3 : i.zero = some z) (h4 : i.size = s)
    (kl kc : IntKind) (L C : Int) (n : Nat) (hl : a.eval l = .int kl L) (hc : a.eval c = .int kc C) (hL : L = (n : Int)) (hC : C = (n : Int)) (b2 : i.bytes * n ≤ 281474976710656) (b3 : n ≤ maxLen)
    (hK : ∀ w' zs, w'.heap[w.heap.size]? = some (.cells zs e (0, 0)) → zs.size = n * s → Below w.heap.size w w' → w.heap.size < w'.heap.size → w'.heap.size = w.heap.size + 1 → wpList P ops Q rest (a.put o.dst (.slice (some ⟨w.heap.size, 0, none⟩) n n)) w') :
    wpList P ops Q (o :: rest) a w := by
  refine wpList_plain hg fun K hK' => ?_
  subst hL
  subst hC
  have b3' := b3
  have hb' : (i.bytes : Int) * (n : Int) ≤ 281474976710656 := by
    have h : ((i.bytes * n : Nat) : Int) ≤ 281474976710656 := by omega
    rwa [Int.natCast_mul] at h
  simp only [maxLen] at b3'
  have hrun := run_make (P := P) w t e i z h1 h2 h3 kl kc n n (by omega) (Int.le_refl _) hb' (by omega)
  unfold Oper.wp
  simp [execOp, hop, hl, hc, hrun, Result.andThen]
  exact hK' _ _ (hK _ _ (heap_alloc_new w _) (by rw [size_madeCells, h4]) ((Below.refl _ _).alloc (Nat.le_refl _) _) (by simp) (by simp))

/-- A block that holds just these cells. -/
def Row (w : World) (g : Nat) (T : TypeId) (l : List Value) : Prop := w.heap[g]? = some (.cells l.toArray T (0, 0))
theorem Row.kept {w w' : World} {S : Nat → Prop} {g : Nat} {T : TypeId} {l : List Value} (h : Row w g T l) (hk : Kept w w' S) (hs : ¬ S g) : Row w' g T l :=
  (hk.block g (Array.getElem?_eq_some_iff.1 h).1 hs).trans h
theorem Row.cell {w : World} {g : Nat} {T : TypeId} {l : List Value} (h : Row w g T l) (k : Nat) (hk : k < l.length) : w.cell? ⟨g, k, none⟩ = some l[k] := by
  rw [cell_of_row w g k _ _ _ h]
  simp [hk]
theorem Row.frozen {w : World} {g : Nat} {T : TypeId} {l : List Value} (h : Row w g T l) (k : Nat) : w.frozen? ⟨g, k, none⟩ = false := frozen_of_row w g k _ _ h
theorem Row.set {w : World} {g : Nat} {T : TypeId} {l : List Value} (h : Row w g T l) (k : Nat) (v : Value) : Row (w.setCell ⟨g, k, none⟩ v) g T (l.set k v) := by
  unfold Row at *
  have hlt := (Array.getElem?_eq_some_iff.1 h).1
  have hx := (Array.getElem?_eq_some_iff.1 h).2
  simp [World.setCell, hlt, hx, Array.getElem_modify]
theorem set_next {α : Type} (A B : List α) (b v : α) : (A ++ b :: B).set A.length v = (A ++ [v]) ++ B := by
  simp

theorem Try.infoI : (Try.prog.info? 3).map (fun i => (i.zero, i.size, i.bytes)) = some (some (.int .i64 0), 1, 8) := by kernel_rfl

set_option maxRecDepth 20000 in
set_option maxHeartbeats 2000000 in
theorem allI_any (bx c cap : Nat) (xs : List Int) (w : World) (h : BX w 49 bx c cap (xs.map (Value.int .i64))) (hn : xs.length ≤ cap) (hcap : cap ≤ 16) :
    Calls Try.prog 20 #[bp bx] w fun e w' => e = .returned (.slice (some ⟨w.heap.size, 0, none⟩) xs.length xs.length) ∧ Row w' w.heap.size 3 (xs.map (Value.int .i64)) ∧ BX w' 49 bx c cap (xs.map (Value.int .i64)) ∧ Kept w w' (fun k => k = c) ∧ w'.heap.size = w.heap.size + 1 := by
  obtain ⟨i, hi, hz0, hz1, hz2⟩ := info_parts Try.infoI
  have hl := h.lt
  have hne := h.ne
  go_enter Try.func20, Try.ntmps20
  go_wp2_with (first
    | (go_at_call 17; refine (lenI_any bx c cap _ _ h).mono ?_; rintro e w0 ⟨rfl, rfl⟩; rw [List.length_map])
    | (at_make; refine wpList_make_wide _ rfl _ _ 36 rfl 3 i _ 1 Try.underlying36 hi hz0 hz1 _ _ _ _ xs.length rfl rfl rfl rfl (by rw [hz2]; omega) (by unfold maxLen; omega) ?_; intro w1 zs hg1 hzs hb1 hlt1 hse1))
  have h1 : BX w1 49 bx c cap (xs.map (Value.int .i64)) := h.kept (S := fun _ => False) ⟨hb1.os, hb1.tape, hb1.output, hb1.size, fun k hk _ => hb1.block k hk⟩ id id
  have k1 : Kept w w1 (fun k => k = c) := ⟨hb1.os, hb1.tape, hb1.output, hb1.size, fun k hk _ => hb1.block k hk⟩
  generalize hG : w.heap.size = g at *
  go_loopw [10] (fun i wr => ∃ (k : Nat) (A B : List Int) (ys : List Value), k ≤ xs.length ∧ i = .int .i64 (k : Int) ∧ xs = A ++ B ∧ A.length = k ∧ ys.length = xs.length - k ∧ Row wr g 3 (A.map (Value.int .i64) ++ ys) ∧
    BX wr 49 bx c cap (B.map (Value.int .i64) ++ A.map (Value.int .i64)) ∧ Kept w wr (fun k => k = c) ∧ wr.heap.size = g + 1) (fun i _ => xs.length - (intOf i).toNat)
  case atStart => exact ⟨0, [], xs, zs.toList, Nat.zero_le _, rfl, by simp, rfl, by simpa using hzs, by simpa [Row] using hg1, by simpa using h1, k1, hse1⟩
  case round =>
    obtain ⟨k, A, B, ys, hk, rfl, hAB, hA, hys, hrow, hbx, hkr, hsr⟩ := hrel
    by_cases hlt : k < xs.length
    · obtain ⟨x, B', rfl⟩ : ∃ x B', B = x :: B' := by
        cases B with
        | nil => simp at hAB; subst hAB; omega
        | cons x B' => exact ⟨x, B', rfl⟩
      obtain ⟨y, ys', rfl⟩ : ∃ y ys', ys = y :: ys' := by
        cases ys with
        | nil => simp at hys; omega
        | cons y ys' => exact ⟨y, ys', rfl⟩
      have HAB : Hid (xs = A ++ x :: B') := hAB
      have HA : Hid (A.length = k) := hA
      have HY : Hid (ys'.length = xs.length - (k + 1)) := by have e : ys'.length = xs.length - (k + 1) := by { simp at hys; omega }; exact e
      have HX : Hid (xs.length = A.length + B'.length + 1) := by have e : xs.length = A.length + B'.length + 1 := by { rw [hAB]; simp; omega }; exact e
      have hk0 : (k : Int) < (xs.length : Int) := by omega
      have hgc : g ≠ c := by omega
      clear hAB hys h1
      have hcell0 : ∀ w', Row w' g 3 (A.map (Value.int .i64) ++ y :: ys') → w'.cell? ⟨g, k, none⟩ = some y ∧ w'.frozen? ⟨g, k, none⟩ = false := fun w' hr => ⟨by
        have := hr.cell k (by simp; omega)
        simpa [← hA] using this, hr.frozen k⟩
      have hcell1 : ∀ w', Row w' g 3 ((A.map (Value.int .i64) ++ [(Value.int .i64) x]) ++ ys') → w'.cell? ⟨g, k, none⟩ = some ((Value.int .i64) x) := fun w' hr => by
        have := hr.cell k (by simp; omega)
        simpa [← hA] using this
      clear hA
      go_wp2_with (first
        | (go_at_call 16; refine (takeI_some bx c cap x _ _ hbx).mono ?_; rintro e w2 ⟨rfl, hbx2, hk2, hs2⟩; have hrow2 := hrow.kept hk2 hgc; obtain ⟨c2, f2⟩ := hcell0 w2 hrow2; have hrow3 := hrow2.set k ((Value.int .i64) x); rw [show (A.map (Value.int .i64) ++ y :: ys').set k ((Value.int .i64) x) = (A.map (Value.int .i64) ++ [(Value.int .i64) x]) ++ ys' from by rw [← HA.out, ← List.length_map (f := (Value.int .i64))]; exact set_next _ _ _ _] at hrow3; have c3 := hcell1 _ hrow3)
        | (go_at_call 15; have hbx3 := hbx2.kept (Kept.setCell w2 ⟨g, k, none⟩ ((Value.int .i64) x)) (by show ¬ (bx = g); omega) (by show ¬ (c = g); omega); refine (putI_any bx c cap _ x _ hbx3).mono ?_; rintro e w4 ⟨rfl, hbx4, hk4, hs4⟩))
      go_roundw
      case rel =>
        refine ⟨k + 1, A ++ [x], B', ys', by omega, by go_num, by rw [HAB.out]; simp, by simp [HA.out], HY.out, ?_, ?_, ?_, ?_⟩
        · have := hrow3.kept hk4 hgc
          simpa using this
        · rw [if_pos (by have := HX.out; have := HA.out; simp; omega)] at hbx4
          simpa using hbx4
        · exact (hkr.trans hk2 (fun i _ h => h)).trans (((Kept.setCell w2 ⟨g, k, none⟩ ((Value.int .i64) x)).mono (fun i _ h => Or.inl h)).trans hk4 (fun i _ h => Or.inr h) (S := fun i => i = g ∨ i = c)) (fun i hi h => h.elim (fun e => absurd e (by omega)) id)
        · rw [hs4]; simp; omega
      case measure => simp [intOf]; omega
    · have HAB : Hid (xs = A ++ B) := hAB
      have HA : Hid (A.length = k) := hA
      have HY : Hid (ys.length = xs.length - k) := hys
      clear hAB hA hys h1
      go_wp2
      go_ret
      have hB0 : B = [] := by
        have h1 := congrArg List.length HAB.out
        have := HA.out
        simp at h1
        exact List.eq_nil_of_length_eq_zero (by omega)
      have hY0 : ys = [] := List.eq_nil_of_length_eq_zero (by rw [HY.out]; omega)
      subst hB0 hY0
      have e := HAB.out
      rw [List.append_nil] at e
      subst e
      refine ⟨by rw [hG]; rfl, by rw [hG]; simpa using hrow, by simpa using hbx, hkr, by rw [hG]; exact hsr⟩

theorem Try.infoS : (Try.prog.info? 9).map (fun i => (i.zero, i.size, i.bytes)) = some (some (.string ⟨#[]⟩), 1, 16) := by kernel_rfl

set_option maxRecDepth 20000 in
set_option maxHeartbeats 2000000 in
theorem allS_any (bx c cap : Nat) (xs : List ByteArray) (w : World) (h : BX w 52 bx c cap (xs.map Value.string)) (hn : xs.length ≤ cap) (hcap : cap ≤ 16) :
    Calls Try.prog 11 #[bp bx] w fun e w' => e = .returned (.slice (some ⟨w.heap.size, 0, none⟩) xs.length xs.length) ∧ Row w' w.heap.size 9 (xs.map Value.string) ∧ BX w' 52 bx c cap (xs.map Value.string) ∧ Kept w w' (fun k => k = c) ∧ w'.heap.size = w.heap.size + 1 := by
  obtain ⟨i, hi, hz0, hz1, hz2⟩ := info_parts Try.infoS
  have hl := h.lt
  have hne := h.ne
  go_enter Try.func11, Try.ntmps11
  go_wp2_with (first
    | (go_at_call 21; refine (lenS_any bx c cap _ _ h).mono ?_; rintro e w0 ⟨rfl, rfl⟩; rw [List.length_map])
    | (at_make; refine wpList_make_wide _ rfl _ _ 31 rfl 9 i _ 1 Try.underlying31 hi hz0 hz1 _ _ _ _ xs.length rfl rfl rfl rfl (by rw [hz2]; omega) (by unfold maxLen; omega) ?_; intro w1 zs hg1 hzs hb1 hlt1 hse1))
  have h1 : BX w1 52 bx c cap (xs.map Value.string) := h.kept (S := fun _ => False) ⟨hb1.os, hb1.tape, hb1.output, hb1.size, fun k hk _ => hb1.block k hk⟩ id id
  have k1 : Kept w w1 (fun k => k = c) := ⟨hb1.os, hb1.tape, hb1.output, hb1.size, fun k hk _ => hb1.block k hk⟩
  generalize hG : w.heap.size = g at *
  go_loopw [10] (fun i wr => ∃ (k : Nat) (A B : List ByteArray) (ys : List Value), k ≤ xs.length ∧ i = .int .i64 (k : Int) ∧ xs = A ++ B ∧ A.length = k ∧ ys.length = xs.length - k ∧ Row wr g 9 (A.map Value.string ++ ys) ∧
    BX wr 52 bx c cap (B.map Value.string ++ A.map Value.string) ∧ Kept w wr (fun k => k = c) ∧ wr.heap.size = g + 1) (fun i _ => xs.length - (intOf i).toNat)
  case atStart => exact ⟨0, [], xs, zs.toList, Nat.zero_le _, rfl, by simp, rfl, by simpa using hzs, by simpa [Row] using hg1, by simpa using h1, k1, hse1⟩
  case round =>
    obtain ⟨k, A, B, ys, hk, rfl, hAB, hA, hys, hrow, hbx, hkr, hsr⟩ := hrel
    by_cases hlt : k < xs.length
    · obtain ⟨x, B', rfl⟩ : ∃ x B', B = x :: B' := by
        cases B with
        | nil => simp at hAB; subst hAB; omega
        | cons x B' => exact ⟨x, B', rfl⟩
      obtain ⟨y, ys', rfl⟩ : ∃ y ys', ys = y :: ys' := by
        cases ys with
        | nil => simp at hys; omega
        | cons y ys' => exact ⟨y, ys', rfl⟩
      have HAB : Hid (xs = A ++ x :: B') := hAB
      have HA : Hid (A.length = k) := hA
      have HY : Hid (ys'.length = xs.length - (k + 1)) := by have e : ys'.length = xs.length - (k + 1) := by { simp at hys; omega }; exact e
      have HX : Hid (xs.length = A.length + B'.length + 1) := by have e : xs.length = A.length + B'.length + 1 := by { rw [hAB]; simp; omega }; exact e
      have hk0 : (k : Int) < (xs.length : Int) := by omega
      have hgc : g ≠ c := by omega
      clear hAB hys h1
      have hcell0 : ∀ w', Row w' g 9 (A.map Value.string ++ y :: ys') → w'.cell? ⟨g, k, none⟩ = some y ∧ w'.frozen? ⟨g, k, none⟩ = false := fun w' hr => ⟨by
        have := hr.cell k (by simp; omega)
        simpa [← hA] using this, hr.frozen k⟩
      have hcell1 : ∀ w', Row w' g 9 ((A.map Value.string ++ [Value.string x]) ++ ys') → w'.cell? ⟨g, k, none⟩ = some (Value.string x) := fun w' hr => by
        have := hr.cell k (by simp; omega)
        simpa [← hA] using this
      clear hA
      go_wp2_with (first
        | (go_at_call 12; refine (takeS_some bx c cap x _ _ hbx).mono ?_; rintro e w2 ⟨rfl, hbx2, hk2, hs2⟩; have hrow2 := hrow.kept hk2 hgc; obtain ⟨c2, f2⟩ := hcell0 w2 hrow2; have hrow3 := hrow2.set k (Value.string x); rw [show (A.map Value.string ++ y :: ys').set k (Value.string x) = (A.map Value.string ++ [Value.string x]) ++ ys' from by rw [← HA.out, ← List.length_map (f := Value.string)]; exact set_next _ _ _ _] at hrow3; have c3 := hcell1 _ hrow3)
        | (go_at_call 10; have hbx3 := hbx2.kept (Kept.setCell w2 ⟨g, k, none⟩ (Value.string x)) (by show ¬ (bx = g); omega) (by show ¬ (c = g); omega); refine (putS_any bx c cap _ x _ hbx3).mono ?_; rintro e w4 ⟨rfl, hbx4, hk4, hs4⟩))
      go_roundw
      case rel =>
        refine ⟨k + 1, A ++ [x], B', ys', by omega, by go_num, by rw [HAB.out]; simp, by simp [HA.out], HY.out, ?_, ?_, ?_, ?_⟩
        · have := hrow3.kept hk4 hgc
          simpa using this
        · rw [if_pos (by have := HX.out; have := HA.out; simp; omega)] at hbx4
          simpa using hbx4
        · exact (hkr.trans hk2 (fun i _ h => h)).trans (((Kept.setCell w2 ⟨g, k, none⟩ (Value.string x)).mono (fun i _ h => Or.inl h)).trans hk4 (fun i _ h => Or.inr h) (S := fun i => i = g ∨ i = c)) (fun i hi h => h.elim (fun e => absurd e (by omega)) id)
        · rw [hs4]; simp; omega
      case measure => simp [intOf]; omega
    · have HAB : Hid (xs = A ++ B) := hAB
      have HA : Hid (A.length = k) := hA
      have HY : Hid (ys.length = xs.length - k) := hys
      clear hAB hA hys h1
      go_wp2
      go_ret
      have hB0 : B = [] := by
        have h1 := congrArg List.length HAB.out
        have := HA.out
        simp at h1
        exact List.eq_nil_of_length_eq_zero (by omega)
      have hY0 : ys = [] := List.eq_nil_of_length_eq_zero (by rw [HY.out]; omega)
      subst hB0 hY0
      have e := HAB.out
      rw [List.append_nil] at e
      subst e
      refine ⟨by rw [hG]; rfl, by rw [hG]; simpa using hrow, by simpa using hbx, hkr, by rw [hG]; exact hsr⟩

end Go.Proofs.Yteaoafdedjenaaa
