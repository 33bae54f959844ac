/- Blocks, and the law's own example. -/
import Derived.Test.YtolgncehfblpbaaDoorArH
import Derived.Test.YtolgncehfblpbaaDoorArO
namespace Go.Proofs.YtolgncehfblpbaaDoor
open Go.RowKit

/-- A row of values in a block of its own. -/
def Row (w : World) (g : Nat) (T : TypeId) (l : List Value) : Prop := w.heap[g]? = some (.cells l.toArray T (0, 0))
theorem Row.kept {w w' : World} {S : Nat → Prop} {g : Nat} {T : TypeId} {l : List Value} (h : Row w g T l) (hk : Kept w w' S) (hs : ¬ S g) : Row w' g T l :=
  (hk.block g (Array.getElem?_eq_some_iff.1 h).1 hs).trans h
theorem Row.below {w w' : World} {g : Nat} {T : TypeId} {l : List Value} (h : Row w g T l) (hb : Below w.heap.size w w') : Row w' g T l := h.kept (kept_of_below hb (fun _ => False)) id
theorem Row.lt {w : World} {g : Nat} {T : TypeId} {l : List Value} (h : Row w g T l) : g < w.heap.size := (Array.getElem?_eq_some_iff.1 h).1
theorem Row.cell {w : World} {g : Nat} {T : TypeId} {l : List Value} (h : Row w g T l) (k : Nat) (hk : k < l.length) : w.cell? ⟨g, k, none⟩ = some l[k] := by
  rw [cell_of_row w g k _ _ _ h]
  simp [hk]
theorem Row.frozen {w : World} {g : Nat} {T : TypeId} {l : List Value} (h : Row w g T l) (k : Nat) : w.frozen? ⟨g, k, none⟩ = false := frozen_of_row w g k _ _ h
theorem Row.set {w : World} {g : Nat} {T : TypeId} {l : List Value} (h : Row w g T l) (k : Nat) (v : Value) : Row (w.setCell ⟨g, k, none⟩ v) g T (l.set k v) := by
  unfold Row at *
  rw [heap_setCell_same w g k _ _ v h]
  simp

theorem Tryd.infoInt : (Tryd.prog.info? 3).map (fun i => (i.zero, i.size, i.bytes)) = some (some (.int .i64 0), 1, 8) := by kernel_rfl

/-- A class as a value. -/
def cV (x : Bk) : Value := .int .i64 (x.c : Int)
/-- The classes of the first m blocks; behind them zeros. -/
def clsL (bs : List Bk) (m : Nat) : List Value := (bs.take m).map cV ++ List.replicate (bs.length - m) (.int .i64 0)
theorem clsL_len (bs : List Bk) (m : Nat) (hm : m ≤ bs.length) : (clsL bs m).length = bs.length := by
  simp [clsL]; omega
theorem clsL_at (bs : List Bk) (m : Nat) (hm : m < bs.length) : (clsL bs m)[m]? = some (.int .i64 0) := by
  unfold clsL
  rw [List.getElem?_append_right (by simp; omega)]
  have e : m - ((bs.take m).map cV).length = 0 := by simp; omega
  rw [e, List.getElem?_replicate, if_pos (by omega)]
theorem clsL_set (bs : List Bk) (m : Nat) (hm : m < bs.length) : (clsL bs m).set m (.int .i64 (bs[m].c : Int)) = clsL bs (m + 1) := by
  unfold clsL
  rw [List.take_succ_eq_append_getElem hm, List.map_append]
  obtain ⟨q, hq⟩ : ∃ q, bs.length - m = q + 1 := ⟨bs.length - m - 1, by omega⟩
  rw [hq, List.replicate_succ, List.set_append_right _ _ (by simp; omega)]
  have e : m - ((bs.take m).map cV).length = 0 := by simp; omega
  rw [e, List.set_cons_zero, show bs.length - (m + 1) = q by omega]
  simp [cV]
theorem clsL_all (bs : List Bk) (m : Nat) (hm : bs.length ≤ m) : clsL bs m = bs.map cV := by
  unfold clsL
  rw [List.take_of_length_le hm, show bs.length - m = 0 by omega]
  simp

set_option maxRecDepth 20000 in
set_option maxHeartbeats 1000000 in
theorem blocks_any (b : Nat) (bs : List Bk) (w : World) (h : AR w b bs) :
    Calls Tryd.prog 12 #[.pointer (some ⟨b, 0, none⟩)] w fun e w' => e = .returned (.slice (some ⟨w.heap.size, 0, none⟩) bs.length bs.length) ∧ Row w' w.heap.size 3 (bs.map cV) ∧ Below w.heap.size w w' := by
  have hl := h.len
  have c0 := h.cnt
  obtain ⟨i, hi, hz0, hz1, hz2⟩ := info_parts Tryd.infoInt
  generalize hG : w.heap.size = g at *
  go_enter Tryd.func12, Tryd.ntmps12
  go_wp2_with (first
    | (at_make; refine wpList_make_row _ rfl _ _ 29 rfl 3 i _ Tryd.underlying29 hi hz0 hz1 rfl _ _ _ _ bs.length rfl rfl rfl rfl (by rw [hz2]; omega) (by unfold maxLen; omega) ?_; rw [hG]; intro w1 hg1 hb1 hlt1; have h1 := h.kept (kept_of_below (by rw [hG]; exact hb1) (fun _ => False)) id id)
    | (go_at_call 29; refine (all_any b bs _ h1).mono ?_; rintro e w2 ⟨rfl, n2, hw2⟩; have hb2 : Below g w w2 := by { rw [hw2]; exact hb1.trans ((below_drewN0 _ _).mono (Nat.le_of_lt hlt1)) }; have hr2 : Row w2 g 3 (clsL bs 0) := by { rw [hw2]; simpa [clsL, Row] using hg1 }; clear hw2))
  go_loopw [14] (fun i wr => ∃ m : Nat, m ≤ bs.length ∧ i = .int .i64 (m : Int) ∧ Row wr g 3 (clsL bs m) ∧ Below g w wr) (fun i _ => bs.length - (intOf i).toNat)
  case atStart => exact ⟨0, Nat.zero_le _, rfl, hr2, hb2⟩
  case round =>
    obtain ⟨m, hm, rfl, hr3, hb3⟩ := hrel
    clear hr2 hb2 hg1 hb1 hlt1 h1
    by_cases hml : (m : Int) < (bs.length : Int)
    · have har : AR wr b bs := h.kept (kept_of_below (by rw [hG]; exact hb3) (fun _ => False)) id id
      have hm' : m < bs.length := by omega
      have d0 := har.cls m hm'
      have d1 := har.tkn m hm'
      have hbl := har.lt
      have hgl := hr3.lt
      have e0 : wr.cell? ⟨g, m, none⟩ = some (.int .i64 0) := by
        rw [hr3.cell m (by rw [clsL_len bs m hm]; exact hm')]
        have := clsL_at bs m hm'
        rwa [List.getElem?_eq_getElem (by rw [clsL_len bs m hm]; exact hm')] at this
      have f0 := hr3.frozen m
      have HS : Hid ((clsL bs m).set m (.int .i64 (bs[m].c : Int)) = clsL bs (m + 1)) := clsL_set bs m hm'
      generalize bs[m] = x at *
      go_wp2
      go_roundw
      case rel =>
        refine ⟨m + 1, by omega, by go_num, ?_, ?_⟩
        · rw [← HS.out]
          exact (hr3.set m _).below ((Below.refl _ _).alloc (Nat.le_refl _) _)
        · exact (hb3.setCell (Nat.le_refl _) _).alloc (by simpa using Nat.le_of_lt hgl) _
      case measure => simp [intOf]; omega
    · have HA : Hid (clsL bs m = bs.map cV) := clsL_all bs m (by omega)
      go_wp2
      go_ret
      refine ⟨rfl, ?_, hb3⟩
      rw [← HA.out]
      exact hr3

/-- Alloc of one size, of blocks that are written out. -/
theorem alloc_at {bs bs' : List Bk} {s : Int} {r e : Nat} (hR : allocR bs s = (r, e)) (hL : allocL bs s = bs') (hO : AO bs) (b : Nat) (w : World) (h : AR w b bs) :
    Calls Tryd.prog 11 #[.pointer (some ⟨b, 0, none⟩), .int .i64 s] w fun e' w' => e' = .returned (.tuple #[.int .i64 (r : Int), .int .i64 (e : Int)]) ∧ AR w' b bs' ∧ AO bs' ∧ Kept w w' (fun k => k = b) := by
  have := alloc_any b bs s hO w h
  rw [hR, hL] at this
  exact this.mono (fun e w' ⟨h1, h2, h3⟩ => ⟨h1, h2, by rw [← hL]; exact hO.alloc s, h3⟩)
theorem new32 (w : World) (hT : TB w) : Calls Tryd.prog 9 #[.int .i64 32] w fun e w' => e = .returned (.tuple #[.pointer (some ⟨w.heap.size, 0, none⟩), .int .i64 0]) ∧ AR w' w.heap.size [⟨0, 0⟩, ⟨0, 0⟩] ∧ Below w.heap.size w w' := new_ok 2 (by omega) (by omega) w hT
theorem ex1 : allocR [⟨0, 0⟩, ⟨0, 0⟩] 3 = (0, 0) ∧ allocL [⟨0, 0⟩, ⟨0, 0⟩] 3 = [⟨4, 1⟩, ⟨0, 0⟩] := ⟨by kernel_rfl, by kernel_rfl⟩
theorem ex2 : allocR [⟨4, 1⟩, ⟨0, 0⟩] 4 = (4, 0) ∧ allocL [⟨4, 1⟩, ⟨0, 0⟩] 4 = [⟨4, 3⟩, ⟨0, 0⟩] := ⟨by kernel_rfl, by kernel_rfl⟩
theorem ex3 : allocR [⟨4, 3⟩, ⟨0, 0⟩] 9 = (16, 0) ∧ allocL [⟨4, 3⟩, ⟨0, 0⟩] 9 = [⟨4, 3⟩, ⟨16, 1⟩] := ⟨by kernel_rfl, by kernel_rfl⟩
theorem ex4 : allocR [⟨4, 3⟩, ⟨16, 1⟩] 1 = (0, 2) ∧ allocL [⟨4, 3⟩, ⟨16, 1⟩] 1 = [⟨4, 3⟩, ⟨16, 1⟩] := ⟨by kernel_rfl, by kernel_rfl⟩
theorem ex_ok : AO [⟨0, 0⟩, ⟨0, 0⟩] := AO.new 2

set_option maxRecDepth 20000 in
set_option maxHeartbeats 1000000 in
theorem known_any (w : World) (hT : TB w) : Calls Tryd.prog 10 #[] w fun e w' => e = .returned (.bool true) ∧ Below w.heap.size w w' := by
  go_enter Tryd.func10, Tryd.ntmps10
  go_wp2_with fail
  refine (new32 w hT).mono ?_
  rintro e w1 ⟨rfl, h1, hb1⟩
  generalize hB : w.heap.size = B at *
  go_wp2_with fail
  refine (alloc_at ex1.1 ex1.2 ex_ok B w1 h1).mono ?_
  rintro e w2 ⟨rfl, h2, o2, k2⟩
  go_wp2_with fail
  refine (alloc_at ex2.1 ex2.2 o2 B w2 h2).mono ?_
  rintro e w3 ⟨rfl, h3, o3, k3⟩
  go_wp2_with fail
  refine (alloc_at ex3.1 ex3.2 o3 B w3 h3).mono ?_
  rintro e w4 ⟨rfl, h4, o4, k4⟩
  go_wp2_with fail
  refine (alloc_at ex4.1 ex4.2 o4 B w4 h4).mono ?_
  rintro e w5 ⟨rfl, h5, o5, k5⟩
  go_wp2
  go_ret
  refine ⟨rfl, ?_⟩
  have hk := ((k2.trans k3 (fun _ _ e => e)).trans k4 (fun _ _ e => e)).trans k5 (fun _ _ e => e)
  rw [hB]
  exact hb1.trans (hk.below (Nat.le_of_lt h1.lt) (fun i hi => by show ¬ (i = B); omega))

set_option maxRecDepth 20000 in
set_option maxHeartbeats 1000000 in
theorem arenaClasses_any (s : Int) (w : World) (hT : TB w) : Calls Tryd.prog 4 #[.int .i64 s] w fun e w' => e = .returned (.bool true) ∧ Below w.heap.size w w' := by
  have hC := fun w => class_any s w
  have hR := fun w => rclass_any s w
  by_cases h1 : s < 1
  · rw [classN_no (Or.inl h1)] at hC hR
    go_enter Tryd.func4, Tryd.ntmps4
    go_wp2_with (first
      | (go_at_call 13; refine (hC _).mono ?_; rintro e _ ⟨rfl, rfl⟩)
      | (go_at_call 18; refine (hR _).mono ?_; rintro e _ ⟨rfl, rfl⟩)
      | (go_at_call 10; refine (known_any _ hT).mono ?_; rintro e w1 ⟨rfl, hb1⟩))
    go_ret
    exact ⟨rfl, hb1⟩
  by_cases h2 : 16 < s
  · rw [classN_no (Or.inr h2)] at hC hR
    go_enter Tryd.func4, Tryd.ntmps4
    go_wp2_with (first
      | (go_at_call 13; refine (hC _).mono ?_; rintro e _ ⟨rfl, rfl⟩)
      | (go_at_call 18; refine (hR _).mono ?_; rintro e _ ⟨rfl, rfl⟩)
      | (go_at_call 10; refine (known_any _ hT).mono ?_; rintro e w1 ⟨rfl, hb1⟩))
    go_ret
    exact ⟨rfl, hb1⟩
  obtain ⟨hk, hge⟩ := classN_is (s := s) (by omega) (by omega)
  have hlt : (classN s : Int) < 2 * s := by
    unfold classN
    rw [if_neg (by omega)]
    split
    · omega
    · split
      · omega
      · split
        · omega
        · split
          · omega
          · split <;> omega
  generalize classN s = k at *
  have hk0 : ((k : Int) == 0) = false := by rw [beq_eq_false_iff_ne]; have := hk.pos; omega
  have d1 : decide (s < 1) = false := decide_eq_false h1
  have d2 : decide (16 < s) = false := decide_eq_false h2
  clear hk
  go_enter Tryd.func4, Tryd.ntmps4
  go_wp2_with (first
    | (go_at_call 13; refine (hC _).mono ?_; rintro e _ ⟨rfl, rfl⟩)
    | (go_at_call 18; refine (hR _).mono ?_; rintro e _ ⟨rfl, rfl⟩)
    | (go_at_call 10; refine (known_any _ hT).mono ?_; rintro e w1 ⟨rfl, hb1⟩))
  go_ret
  exact ⟨rfl, hb1⟩

end Go.Proofs.YtolgncehfblpbaaDoor
