/- rest, End, New; the law's own example; ShakeKnown. -/
import Derived.Test.YtbbdcjllmjhiiaaShB
namespace Go.Proofs.Ytbbdcjllmjhiiaa
open Go.RowKit

theorem Try.infoBool : (Try.prog.info? 4).map (fun i => (i.zero, i.size, i.bytes)) = some (some (.bool false), 1, 1) := by kernel_rfl
theorem made_bools (M : Nat) : madeCells (Value.bool false).cells (M * 1) = ((List.replicate M false).map Value.bool).toArray := by
  rw [Nat.mul_one, show (Value.bool false).cells = #[Value.bool false] from rfl]
  apply Array.ext'
  rw [toList_madeCells_one]
  simp
theorem make_bools (n : Nat) (hn : n ≤ 4) : ∀ W : World, (Instr.makeSlice 35 (.int .i64 ((n : Int) + 1)) (.int .i64 ((n : Int) + 1))).run Try.prog W = .ok (.slice (some ⟨W.heap.size, 0, none⟩) (n + 1) (n + 1)) (W.alloc (.cells ((offs n).map Value.bool).toArray 4)) := fun W => by
  obtain ⟨i, hi, hz0, hz1, hz2⟩ := info_parts Try.infoBool
  have := run_make (P := Try.prog) W 35 4 i _ Try.underlying35 hi hz0 .i64 .i64 ((n : Int) + 1) ((n : Int) + 1) (by omega) (Int.le_refl _) (by rw [hz2]; omega) (by omega)
  rw [hz1, show ((n : Int) + 1).toNat = n + 1 by omega, made_bools] at this
  exact this
/-- The world behind: the struct's three cells are written, two lists are new. -/
def wNew (w : World) (sb o : Nat) (p N : Nat) (ZA ZS : Array Value) : World :=
  ((((w.setCell ⟨sb, o, none⟩ (.int .i64 (p : Int))).setCell ⟨sb, o + 1, none⟩ (.slice (some ⟨w.heap.size, 0, none⟩) N N)).setCell ⟨sb, o + 2, none⟩ (.slice (some ⟨w.heap.size + 1, 0, none⟩) N N)).alloc (.cells ZA 4)).alloc (.cells ZS 4)
theorem new_lists {w : World} {pre : List Value} {sb : Nat} {T : TypeId} {a b c : Value} {n : Nat} (p : Nat) (A S : List Bool) (hA : A.length = n + 1) (hS : S.length = n + 1) (hn : 1 ≤ n ∧ n ≤ 4) (hb : Row w sb T (pre ++ [a, b, c])) :
    SX (wNew w sb pre.length p (n + 1) (A.map Value.bool).toArray (S.map Value.bool).toArray) pre sb T 4 w.heap.size (w.heap.size + 1) (n + 1) ⟨p, A, S⟩ ∧ Kept w (wNew w sb pre.length p (n + 1) (A.map Value.bool).toArray (S.map Value.bool).toArray) (fun k => k = sb) := by
  have hl := hb.lt
  obtain ⟨w3, e3⟩ : ∃ w3, w3 = ((w.setCell ⟨sb, pre.length, none⟩ (.int .i64 (p : Int))).setCell ⟨sb, pre.length + 1, none⟩ (slB w.heap.size (n + 1))).setCell ⟨sb, pre.length + 2, none⟩ (slB (w.heap.size + 1) (n + 1)) := ⟨_, rfl⟩
  have b3 : Row w3 sb T (pre ++ [.int .i64 (p : Int), slB w.heap.size (n + 1), slB (w.heap.size + 1) (n + 1)]) := by
    have := ((hb.set pre.length (.int .i64 (p : Int))).set (pre.length + 1) (slB w.heap.size (n + 1))).set (pre.length + 2) (slB (w.heap.size + 1) (n + 1))
    rw [e3]
    simpa using this
  have s3 : w3.heap.size = w.heap.size := by rw [e3]; simp [World.setCell]
  have k3 : Kept w w3 (fun k => k = sb) := by
    rw [e3]
    exact ((Kept.setCell w ⟨sb, pre.length, none⟩ _).trans (Kept.setCell _ ⟨sb, pre.length + 1, none⟩ _) (fun _ _ => id)).trans (Kept.setCell _ ⟨sb, pre.length + 2, none⟩ _) (fun _ _ => id)
  have eW : wNew w sb pre.length p (n + 1) (A.map Value.bool).toArray (S.map Value.bool).toArray = (w3.alloc (.cells (A.map Value.bool).toArray 4)).alloc (.cells (S.map Value.bool).toArray 4) := by rw [e3]; rfl
  rw [eW]
  have ra : Row (w3.alloc (.cells (A.map Value.bool).toArray 4)) w3.heap.size 4 (A.map Value.bool) := heap_alloc_new w3 _
  have rs : Row ((w3.alloc (.cells (A.map Value.bool).toArray 4)).alloc (.cells (S.map Value.bool).toArray 4)) (w3.alloc (.cells (A.map Value.bool).toArray 4)).heap.size 4 (S.map Value.bool) := heap_alloc_new _ _
  rw [World.size_alloc, s3] at rs
  rw [s3] at ra
  exact ⟨⟨(b3.below (bel_alloc _ _)).below (bel_alloc _ _), ra.below (bel_alloc _ _), rs, hA, hS, by omega, by omega, by omega, by omega⟩, (k3.trans (Kept.alloc _ _ _) (fun _ _ => id)).trans (Kept.alloc _ _ _) (fun _ _ => id)⟩

section
variable {w w' : World} {sb ga gs N : Nat} {s : St}
set_option maxRecDepth 20000 in
set_option maxHeartbeats 400000 in
theorem rest_any {a b c : Value} {n : Nat} (hn : 1 ≤ n ∧ n ≤ 4) (hb : Row w sb 41 [a, b, c]) :
    Calls Try.prog 21 #[.pointer (some ⟨sb, 0, none⟩), .int .i64 (n : Int)] w fun e w' => e = .returned (.tuple #[]) ∧ ∃ ga gs, PX w' sb ga gs (n + 1) (St.new n) ∧ Kept w w' (fun k => k = sb) ∧ w.heap.size ≤ ga ∧ w.heap.size ≤ gs := by
  have hm := make_bools n hn.2
  have HG : Hid _ := hidden (new_lists (pre := []) 0 (offs n) (offs n) (by simp [offs]) (by simp [offs]) hn hb)
  have c0 := hb.cell 0 (by simp)
  have c1 := hb.cell 1 (by simp)
  have c2 := hb.cell 2 (by simp)
  simp only [List.getElem_cons_succ, List.getElem_cons_zero] at c0 c1 c2
  have f0 := hb.frozen 0
  have f1 := hb.frozen 1
  have f2 := hb.frozen 2
  have hl := hb.lt
  clear hb
  generalize ((offs n).map Value.bool).toArray = Z at *
  go_enter Try.func21, Try.ntmps21
  go_wp2
  go_end0
  exact ⟨rfl, _, _, HG.out.1, HG.out.2, Nat.le_refl _, Nat.le_succ _⟩
set_option maxRecDepth 20000 in
set_option maxHeartbeats 400000 in
theorem end_any (x : PX w sb ga gs N s) (n : Nat) (hn : N = n + 1) :
    Calls Try.prog 9 #[.pointer (some ⟨sb, 0, none⟩)] w fun e w' => e = .returned (.int .i64 (if s.ph = 3 then 0 else 10)) ∧ SGo w w' [] sb 41 4 ga gs N (s.fin n) := by
  have c0 := x.c0
  unfold St.fin
  by_cases h : s.ph = 3
  · rw [if_pos h, if_pos h]
    rw [h] at c0
    have hP := port_any x n hn
    have hR := rest_any (w := w) (n := n) (by have := x.few; omega) x.box
    subst hn
    clear x h
    go_enter Try.func9, Try.ntmps9
    go_wp2_with (first
      | (go_at_call 22; refine hP.mono ?_; rintro e _ ⟨rfl, rfl⟩)
      | (go_at_call 21; refine hR.mono ?_; rintro e w1 ⟨rfl, ga', gs', hx, hk, h1, h2⟩))
    go_ret
    exact ⟨rfl, ga', gs', hx, hk.mono (fun _ _ e => Or.inl e), Or.inr h1, Or.inr h2⟩
  · rw [if_neg h, if_neg h]
    have HX : Hid _ := hidden x
    have h' : ¬ (s.ph : Int) = 3 := by omega
    clear x h
    generalize s.ph = p at *
    go_enter Try.func9, Try.ntmps9
    go_wp2
    go_ret
    exact ⟨rfl, SGo.refl HX.out (Below.refl _ _)⟩
set_option maxRecDepth 20000 in
set_option maxHeartbeats 400000 in
theorem snew_no (m : Int) (h : m < 1 ∨ 4 < m) (w : World) :
    Calls Try.prog 7 #[.int .i64 m] w fun e w' => e = .returned (.tuple #[.pointer none, .int .i64 1]) ∧ w = w' := by
  by_cases h1 : m < 1
  · clear h
    go_enter Try.func7, Try.ntmps7
    go_wp2
    go_ret2
    exact ⟨rfl, rfl⟩
  · have h2 : 4 < m := by omega
    clear h
    go_enter Try.func7, Try.ntmps7
    go_wp2
    go_ret2
    exact ⟨rfl, rfl⟩
set_option maxRecDepth 20000 in
set_option maxHeartbeats 400000 in
theorem snew_ok (n : Nat) (hn : 1 ≤ n ∧ n ≤ 4) (w : World) :
    Calls Try.prog 7 #[.int .i64 (n : Int)] w fun e w' => e = .returned (.tuple #[.pointer (some ⟨w.heap.size, 0, none⟩), .int .i64 0]) ∧ ∃ ga gs, PX w' w.heap.size ga gs (n + 1) (St.new n) ∧ Below w.heap.size w w' ∧ w.heap.size < ga ∧ w.heap.size < gs := by
  have hR : Row (w.alloc (.cells #[.int .i64 0, .slice none 0 0, .slice none 0 0] 41)) w.heap.size 41 [.int .i64 0, .slice none 0 0, .slice none 0 0] := heap_alloc_new w _
  have hb := bel_alloc w (.cells #[.int .i64 0, .slice none 0 0, .slice none 0 0] 41)
  have hs : (w.alloc (.cells #[.int .i64 0, .slice none 0 0, .slice none 0 0] 41)).heap.size = w.heap.size + 1 := by simp
  have hC := rest_any hn hR
  have HB : Hid _ := hidden hb
  have HS : Hid _ := hidden hs
  clear hR hb hs
  have h1 : ¬ (n : Int) < 1 := by omega
  have h2 : ¬ 4 < (n : Int) := by omega
  go_enter Try.func7, Try.ntmps7
  go_wp2_with (go_at_call 21; refine hC.mono ?_; rintro e w1 ⟨rfl, ga', gs', hx, hk, g1, g2⟩)
  go_ret2
  have := HS.out
  exact ⟨rfl, ga', gs', hx, HB.out.trans (hk.below (by omega) (fun i hi e => by omega)), by omega, by omega⟩
end
end Go.Proofs.Ytbbdcjllmjhiiaa
